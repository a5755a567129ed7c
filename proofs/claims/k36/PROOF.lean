import PyProof.Rows.All
import Wide.All
import OpenK.AllK
import Wide.FinOn
import Lean
import PyProof.EqAt
import PyProof.EqKinds
import PyProof.TupleCall
import PySem.Challenge.RW_sashiko_k36_whole_rounds_go_alike
set_option Elab.async false
set_option linter.all false
set_option maxRecDepth 100000
/-! THE HAND LAYER, for ints, bools, texts, own classes, LISTS and tuples (index, slices, in, append, pop ..), calls, loops. Paste it whole ahead of your own text; what your proof does not reach may be deleted. -/
namespace L2
open PySem PySem.Spec PyProof.Rows

/-- a key: an int or a str -/
abbrev Key := Sum Int Str
def keyIs : Key → Value → Bool
  | .inl k, v => Value.isInt k v
  | .inr x, v => Value.isStrOf x v
def keyH (w : World) : Key → Int
  | .inl k => hashInt k
  | .inr x => hashStr w x
theorem keyIs_shape : ∀ {k : Key} {v : Value}, keyIs k v = true → (∃ i t, k = Sum.inl i ∧ v = Value.int i t) ∨ (∃ x t, k = Sum.inr x ∧ v = Value.str x t)
  | .inl i, v, h => by
    obtain ⟨t, e⟩ := Value.isInt_shape (k := i) (v := v) h
    exact .inl ⟨i, t, rfl, e⟩
  | .inr x, v, h => by
    obtain ⟨t, e⟩ := Value.isStrOf_shape (x := x) (v := v) h
    exact .inr ⟨x, t, rfl, e⟩
theorem keyIs_int (i : Int) (t : Tok) : keyIs (.inl i) (.int i t) = true := by simp [keyIs, Value.isInt]
theorem keyIs_str (x : Str) (t : Tok) : keyIs (.inr x) (.str x t) = true := by simp [keyIs, Value.isStrOf]
theorem key_ll (a b : Int) : decide ((Sum.inl a : Key) = Sum.inl b) = (a == b) := by
  by_cases e : a = b
  · subst e; simp
  · have h : ¬ (Sum.inl a : Key) = Sum.inl b := fun q => e (Sum.inl.inj q)
    rw [decide_eq_false h]
    exact (beq_eq_false_iff_ne.mpr e).symm
theorem key_rr (a b : Str) : decide ((Sum.inr a : Key) = Sum.inr b) = decide (a = b) := by
  by_cases e : a = b
  · subst e; simp
  · have h : ¬ (Sum.inr a : Key) = Sum.inr b := fun q => e (Sum.inr.inj q)
    rw [decide_eq_false h, decide_eq_false e]
theorem key_lr (a : Int) (b : Str) : decide ((Sum.inl a : Key) = Sum.inr b) = false := decide_eq_false (fun q => nomatch q)
theorem key_rl (a : Str) (b : Int) : decide ((Sum.inr a : Key) = Sum.inl b) = false := decide_eq_false (fun q => nomatch q)

def mixKind (prog : Program) (w : World) : PySem.KeyKind prog w Key where
  is := keyIs
  hash := keyH w
  inj := fun v a b ha hb => by
    rcases keyIs_shape ha with ⟨i, t, rfl, rfl⟩ | ⟨x, t, rfl, rfl⟩
    · rcases keyIs_shape hb with ⟨j, u, rfl, e⟩ | ⟨y, u, rfl, e⟩
      · injection e with e1 _; rw [e1]
      · exact nomatch e
    · rcases keyIs_shape hb with ⟨j, u, rfl, e⟩ | ⟨y, u, rfl, e⟩
      · exact nomatch e
      · injection e with e1 _; rw [e1]
  byValue := fun k v h => by
    rcases keyIs_shape h with ⟨i, t, rfl, rfl⟩ | ⟨x, t, rfl, rfl⟩ <;> rfl
  pyHash := fun hv h => by
    rcases keyIs_shape hv with ⟨i, t, rfl, rfl⟩ | ⟨x, t, rfl, rfl⟩
    · exact wpAny_pyHash_int h
    · exact wpAny_pyHash_str h
  eqBool := fun hu hv h => by
    rcases keyIs_shape hu with ⟨i, t, rfl, rfl⟩ | ⟨x, t, rfl, rfl⟩
    · rcases keyIs_shape hv with ⟨j, u, rfl, rfl⟩ | ⟨y, u, rfl, rfl⟩
      · rw [key_ll] at h; exact wpAny_eqBool_int h
      · rw [key_lr] at h; exact SeqAt.EqAt.int_str i t y u _ _ _ _ h
    · rcases keyIs_shape hv with ⟨j, u, rfl, rfl⟩ | ⟨y, u, rfl, rfl⟩
      · rw [key_rl] at h; exact SeqAt.EqAt.str_int x t j u _ _ _ _ h
      · rw [key_rr] at h; exact wpAny_eqBool_str h
  «strs» := fun k x t v h => by
    rcases keyIs_shape h with ⟨i, u, rfl, e⟩ | ⟨y, u, rfl, e⟩
    · exact nomatch e
    · injection e with e1 _
      subst e1
      cases v <;> rfl

theorem mixKind_int (prog : Program) (w : World) (i : Int) (t : Tok) : (mixKind prog w).is (.inl i) (.int i t) = true := keyIs_int i t
theorem mixKind_str (prog : Program) (w : World) (x : Str) (t : Tok) : (mixKind prog w).is (.inr x) (.str x t) = true := keyIs_str x t
end L2

namespace L2
open PySem PySem.Spec PyProof.Rows

/-- a value, without the heap -/
inductive V where
  | non | bl (b : Bool) | int (i : Int) | str (x : Str) | byt (b : Array UInt8) | flt (b : UInt64) | ref (a : Addr) | ty (n : String)
  deriving DecidableEq

def RelV : V → Value → Prop
  | .non, u => u = Value.none
  | .bl b, u => u = Value.bool b
  | .int i, u => ∃ t, u = Value.int i t
  | .str x, u => ∃ t, u = Value.str x t
  | .byt b, u => ∃ t, u = Value.bytes b t
  | .flt b, u => ∃ t, u = Value.float b t
  | .ref a, u => u = Value.ref a
  | .ty n, u => u = Value.type n

abbrev Vals : List V → List Value → Prop := Paired RelV
theorem Vals.length {xs : List V} {us : List Value} (r : Vals xs us) : xs.length = us.length := Paired.length r
theorem Vals.get : ∀ {xs : List V} {us : List Value} {i : Nat} {x : V}, Vals xs us → xs[i]? = some x → ∃ u, us[i]? = some u ∧ RelV x u
  | _, _, _, _, .nil, e => by simp at e
  | _, _, 0, _, .cons r _, e => by simp at e; subst e; exact ⟨_, rfl, r⟩
  | _, _, i + 1, x, .cons _ t, e => by
    obtain ⟨u, h1, h2⟩ := Vals.get (i := i) (x := x) t (by simpa using e)
    exact ⟨u, by simpa using h1, h2⟩
theorem Vals.append : ∀ {xs ys : List V} {us ws : List Value}, Vals xs us → Vals ys ws → Vals (xs ++ ys) (us ++ ws)
  | _, _, _, _, .nil, s => s
  | _, _, _, _, .cons r t, s => .cons r (Vals.append t s)
theorem Vals.take : ∀ {xs : List V} {us : List Value} (n : Nat), Vals xs us → Vals (xs.take n) (us.take n)
  | _, _, 0, _ => .nil
  | _, _, _ + 1, .nil => .nil
  | _, _, n + 1, .cons r t => .cons r (Vals.take n t)
theorem Vals.drop : ∀ {xs : List V} {us : List Value} (n : Nat), Vals xs us → Vals (xs.drop n) (us.drop n)
  | _, _, 0, r => r
  | _, _, _ + 1, .nil => .nil
  | _, _, n + 1, .cons _ t => Vals.drop n t

def RelO : Option V → Option Value → Prop
  | some v, some u => RelV v u
  | none, none => True
  | _, _ => False
def KV {κ : Type} : List (κ × V) → List (κ × Value) → Prop := Paired fun (p : κ × V) (q : κ × Value) => p.1 = q.1 ∧ RelV p.2 q.2

/-- a key of a dict (00_mix): an int or a text -/
def kV : Key → V
  | .inl i => .int i
  | .inr x => .str x

/-- what stands at a tracked address -/
inductive HO where
  /-- a list -/
  | lst (xs : List V)
  /-- a tuple (never changes) -/
  | tup (xs : List V)
  /-- a dict whose keys are ints and texts; one whose keys are tuples of ints and texts (the empty one is both) -/
  | dK (kvs : List (Key × V)) | dT (kvs : List (List Key × V))
  /-- a set of ints: its members, its size -/
  | set (S : Int → Bool) (n : Nat)
  /-- an instance of the class at C, its dict at dx, its attributes -/
  | ins (C dx : Addr) (fs : List (Str × V))
  /-- the dict of the instance at x -/
  | own (x : Addr)
  /-- the dict of an exception -/
  | xd (fs : List (Str × V))
  /-- a bound method, f of x -/
  | met (f x : Addr)
  /-- a range object lo, lo + 1, .. below hi -/
  | rng (lo hi : Int)
  /-- a thing that is known to the object (the script; a dict while a loop walks it): read, never written while it is so -/
  | frz (o : Obj) (u : HO)
  /-- a code object's table -/
  | tbl (ps : Array Value)
  /-- any other thing, by what is true of its one object (a def of one's own: SetO a S n := HO.ext fun h => ..) -/
  | ext (φ : Heap → Prop)

abbrev Hp := Addr → Option HO
def upd (H : Hp) (a : Addr) (o : HO) : Hp := fun b => if b = a then some o else H b
theorem upd_same {H : Hp} {a : Addr} {o : HO} : upd H a o a = some o := by unfold upd; rw [if_pos rfl]
theorem upd_ne {H : Hp} {a b : Addr} {o : HO} (h : b ≠ a) : upd H a o b = H b := by unfold upd; rw [if_neg h]
theorem upd_upd {H : Hp} {a : Addr} {o u : HO} : upd (upd H a o) a u = upd H a u := by
  funext b; unfold upd; split <;> rfl
/-- two objects of different content stand apart -/
theorem ne_of {H : Hp} {a b : Addr} {o u : HO} (h : H a = some o) (h' : H b = some u) (d : o ≠ u) : a ≠ b := by
  intro e; subst e; rw [h] at h'; exact d (Option.some.inj h')
theorem ne_of_none {H : Hp} {a b : Addr} {o : HO} (h : H a = some o) (h' : H b = none) : a ≠ b := by
  intro e; subst e; rw [h] at h'; cases h'

section
variable (P : Program) (w : World)
def ObjOk (H : Hp) (h : Heap) (a : Addr) : HO → Prop
  | .lst xs => xs.length ≤ sizeLine ∧ ∃ (its : List Value) (n : Nat), Vals xs its ∧ h.get? a = some { cls := .type "list", data := .seq its.toArray n }
  | .tup xs => xs.length ≤ sizeLine ∧ ∃ its : List Value, Vals xs its ∧ IsTup h a its.toArray
  | .dK kvs => kvs.length ≤ sizeLine ∧ (a == sysModules) = false ∧ ∃ vs, KV kvs vs ∧ h.DictOf (mixKind P w) a vs
  | .dT kvs => kvs.length ≤ sizeLine ∧ (a == sysModules) = false ∧ ∃ xs : List (List Key × Addr × Value),
      Paired (fun (p : List Key × V) (q : List Key × Addr × Value) => p.1 = q.1 ∧ H q.2.1 = some (.tup (p.1.map kV)) ∧ RelV p.2 q.2.2) kvs xs ∧
      ∃ o es ep, h.get? a = some o ∧ o.ExactDict ∧ o.data = .dict es ep ∧ es.toList = xs.map (entryOfKey (tupleKind (mixKind P w))) ∧ (xs.map (·.1)).Nodup
  | .set S n => h.SetOf (intKind P w) a S n
  | .ins C dx fs => H dx = some (.own a) ∧ fs.length ≤ 1000 ∧ dx ≠ a ∧ h.get? a = some (PySem.W.instObj C dx) ∧
      ∃ mA, h.Ns1 dx mA ∧ (∀ f, RelO (fs.lookup f) (mA f)) ∧ PySem.Within mA (fs.map (·.1))
  | .own _ => ∃ o, h.get? a = some o
  | .xd fs => ∃ mA, h.Ns1 a mA ∧ ∀ f, RelO (fs.lookup f) (mA f)
  | .rng lo hi => ∃ t u v, h.get? a = some { cls := .type "range", data := .fields #[.int lo t, .int hi u, .int 1 v] }
  | .frz o u => h.get? a = some o ∧ ObjOk H h a u
  | .tbl ps => h.get? a = some { cls := .none, data := .fields ps }
  | .met f x => h.get? a = some (PySem.W.methodObj (.ref f) (.ref x))
  | .ext φ => φ h ∧ (∃ o, h.get? a = some o) ∧ ∀ h1 h2 : Heap, φ h1 → (∀ o, h1.get? a = some o → h2.get? a = some o) → φ h2
/-- the abstract heap is held -/
def HOk (H : Hp) (h : Heap) : Prop := ∀ a o, H a = some o → ObjOk P w H h a o
end

section
variable {P : Program} {w : World} {H H' : Hp} {h h' : Heap} {a : Addr} {o : HO}
theorem ObjOk.lt (x : ObjOk P w H h a o) : a < h.objs.size := by
  cases o with
  | lst xs => obtain ⟨_, _, _, _, e⟩ := x; exact Heap.lt_size e
  | tup xs => obtain ⟨_, _, _, p⟩ := x; exact p.lt
  | dK kvs => obtain ⟨_, _, _, _, o, _, _, e, _⟩ := x; exact Heap.lt_size e
  | dT kvs => obtain ⟨_, _, _, _, o, _, _, e, _⟩ := x; exact Heap.lt_size e
  | set S n => obtain ⟨o, _, _, _, e, _⟩ := x; exact Heap.lt_size e
  | ins C dx fs => obtain ⟨_, _, _, e, _⟩ := x; exact Heap.lt_size e
  | own y => obtain ⟨_, e⟩ := x; exact Heap.lt_size e
  | xd fs => obtain ⟨_, ⟨_, _, _, e, _⟩, _⟩ := x; exact Heap.lt_size e
  | rng lo hi => obtain ⟨_, _, _, e⟩ := x; exact Heap.lt_size e
  | frz ob u => obtain ⟨e, _⟩ := x; exact Heap.lt_size e
  | tbl ps => exact Heap.lt_size (show h.get? a = some _ from x)
  | met f y => exact Heap.lt_size (show h.get? a = some _ from x)
  | ext φ => obtain ⟨_, ⟨_, e⟩, _⟩ := x; exact Heap.lt_size e
theorem Paired.mapP {α β : Type} {F G : α → β → Prop} : ∀ {l₁ : List α} {l₂ : List β}, Paired F l₁ l₂ → (∀ a b, F a b → G a b) → Paired G l₁ l₂
  | _, _, .nil, _ => .nil
  | _, _, .cons r t, f => .cons (f _ _ r) (Paired.mapP t f)
/-- what an object's description leans on: its own object, its own dict, the tuples -/
theorem ObjOk.stay (x : ObjOk P w H h a o) (k : ∀ b u, (b = a ∨ H b = some (.own a)) → h.get? b = some u → h'.get? b = some u)
    (ho : ∀ b, H b = some (.own a) → H' b = some (.own a)) (ht : ∀ b xs, H b = some (.tup xs) → H' b = some (.tup xs)) : ObjOk P w H' h' a o := by
  induction o with
  | lst xs => obtain ⟨z, its, n, r, e⟩ := x; exact ⟨z, its, n, r, k _ _ (.inl rfl) e⟩
  | tup xs => obtain ⟨z, its, r, ob, e, c⟩ := x; exact ⟨z, its, r, ob, k _ _ (.inl rfl) e, c⟩
  | dK kvs => obtain ⟨z, y, vs, r, ob, es, ep, e, c⟩ := x; exact ⟨z, y, vs, r, ob, es, ep, k _ _ (.inl rfl) e, c⟩
  | dT kvs =>
    obtain ⟨z, y, xs, r, ob, es, ep, e, c⟩ := x
    exact ⟨z, y, xs, Paired.mapP r fun p q z => ⟨z.1, ht _ _ z.2.1, z.2.2⟩, ob, es, ep, k _ _ (.inl rfl) e, c⟩
  | set S n => obtain ⟨ob, es, ep, t, e, c⟩ := x; exact ⟨ob, es, ep, t, k _ _ (.inl rfl) e, c⟩
  | ins C dx fs =>
    obtain ⟨d, z, ne, e, mA, ⟨od, es, ep, e2, c⟩, r⟩ := x
    exact ⟨ho _ d, z, ne, k _ _ (.inl rfl) e, mA, ⟨od, es, ep, k _ _ (.inr d) e2, c⟩, r⟩
  | own y => obtain ⟨ob, e⟩ := x; exact ⟨ob, k _ _ (.inl rfl) e⟩
  | xd fs => obtain ⟨mA, ⟨od, es, ep, e, c⟩, r⟩ := x; exact ⟨mA, ⟨od, es, ep, k _ _ (.inl rfl) e, c⟩, r⟩
  | rng lo hi => obtain ⟨t, u, v, e⟩ := x; exact ⟨t, u, v, k _ _ (.inl rfl) e⟩
  | frz ob u ih => obtain ⟨e, q⟩ := x; exact ⟨k _ _ (.inl rfl) e, ih q⟩
  | tbl ps =>
    have e : h.get? a = some { cls := .none, data := .fields ps } := x
    show h'.get? a = some { cls := .none, data := .fields ps }
    exact k a _ (.inl rfl) e
  | met f y =>
    have e : h.get? a = some (PySem.W.methodObj (.ref f) (.ref y)) := x
    show h'.get? a = some (PySem.W.methodObj (.ref f) (.ref y))
    exact k a _ (.inl rfl) e
  | ext φ => obtain ⟨p, ⟨o, e⟩, st⟩ := x; exact ⟨st _ _ p fun o q => k _ _ (.inl rfl) q, ⟨o, k _ _ (.inl rfl) e⟩, st⟩
theorem HOk.lt (x : HOk P w H h) (e : H a = some o) : a < h.objs.size := (x a o e).lt
theorem HOk.fresh (x : HOk P w H h) (e : h.objs.size ≤ a) : H a = none := by
  cases q : H a with
  | none => rfl
  | some u => exact absurd (Nat.lt_of_lt_of_le (x.lt q) e) (Nat.lt_irrefl _)
/-- every object of the heap is kept -/
theorem HOk.kept (x : HOk P w H h) (k : ∀ b u, h.get? b = some u → h'.get? b = some u) : HOk P w H h' := fun a o e =>
  (x a o e).stay (fun b u _ q => k b u q) (fun _ q => q) fun _ _ q => q
/-- a new object is laid and tracked -/
theorem HOk.laid (x : HOk P w H h) (k : ∀ b u, h.get? b = some u → h'.get? b = some u) (hp : h.objs.size ≤ a) (new : ObjOk P w (upd H a o) h' a o) : HOk P w (upd H a o) h' := fun b u e => by
  have hn := x.fresh hp
  by_cases hb : b = a
  · subst hb; rw [upd_same] at e; cases e; exact new
  · rw [upd_ne hb] at e
    exact (x b u e).stay (fun c v _ q => k c v q) (fun c q => by rw [upd_ne (ne_of_none q hn)]; exact q) fun c xs q => by rw [upd_ne (ne_of_none q hn)]; exact q
end

/-- what may be read as u: it is u, or a known u -/
def Rd (H : Hp) (a : Addr) (u : HO) : Prop := H a = some u ∨ ∃ o, H a = some (.frz o u)
theorem Rd.ok {P : Program} {w : World} {H : Hp} {h : Heap} {a : Addr} {u : HO} (r : Rd H a u) (x : HOk P w H h) : ObjOk P w H h a u := by
  rcases r with r | ⟨o, r⟩
  · exact x a u r
  · obtain ⟨_, q⟩ := x a _ r
    exact q
/-- what may be written -/
def Mut : Option HO → Prop
  | some (.lst _) => True
  | some (.dK _) => True
  | some (.dT _) => True
  | some (.set _ _) => True
  | some (.ins _ _ _) => True
  | some (.ext _) => True
  | _ => False
section
variable {P : Program} {w : World} {H : Hp} {h h' : Heap} {x e : Addr} {o' : HO}
/-- the object at e is changed: x itself, or the dict of the instance x -/
theorem HOk.write (ok : HOk P w H h) (mu : Mut (H x)) (he : e = x ∨ H e = some (.own x)) (k : ∀ b u, b ≠ e → h.get? b = some u → h'.get? b = some u) (heo : ∃ u, h'.get? e = some u)
    (new : ObjOk P w (upd H x o') h' x o') : HOk P w (upd H x o') h' := fun b u q => by
  have nown : ∀ c y, H c = some (.own y) → c ≠ x := fun c y r z => by subst z; rw [r] at mu; exact mu
  have ntup : ∀ c xs, H c = some (.tup xs) → c ≠ x := fun c xs r z => by subst z; rw [r] at mu; exact mu
  by_cases hb : b = x
  · subst hb; rw [upd_same] at q; cases q; exact new
  · rw [upd_ne hb] at q
    by_cases hbe : b = e
    · have q' : H b = some (.own x) := by
        rcases he with z | z
        · exact absurd (hbe.trans z) hb
        · rw [hbe]; exact z
      rw [q] at q'; cases q'
      obtain ⟨v, hv⟩ := heo
      exact ⟨v, by rw [hbe]; exact hv⟩
    · refine (ok b u q).stay (fun c v hc r => k c v ?_ r) (fun c r => by rw [upd_ne (nown c b r)]; exact r) fun c xs r => by rw [upd_ne (ntup c xs r)]; exact r
      rcases hc with rfl | hc
      · exact hbe
      · rintro rfl
        rcases he with z | z
        · exact nown c b hc z
        · rw [hc] at z; cases z; exact hb rfl
end

/-! ### kept unless tracked; of the frames at fs (the callers') the slots may change (an exception that passes writes there); of the records at ex (iterators) nothing is said -/
structure Un (fs ex : List Addr) (H H' : Hp) (h h' : Heap) : Prop where
  keep : ∀ b o, h.get? b = some o → H b = none → b ∉ fs → b ∉ ex → h'.get? b = some o
  slot : ∀ b o, h.get? b = some o → H b = none → b ∈ fs → b ∉ ex → ∃ sl, h'.get? b = some { o with slots := sl }
  free : ∀ b o, h.get? b = some o → H b = none → b ∉ ex → H' b = none
  there : ∀ b o, h.get? b = some o → b ∉ ex → ∃ o', h'.get? b = some o'
  tups : ∀ b xs, H b = some (.tup xs) → H' b = some (.tup xs)
  frzs : ∀ b o u, H b = some (.frz o u) → H' b = some (.frz o u)
  tbls : ∀ b ps, H b = some (.tbl ps) → ∃ more, H' b = some (.tbl (ps ++ more))
section
variable {fs fs' ex ex' : List Addr} {H H1 H2 : Hp} {h h1 h2 h' : Heap} {a x e : Addr} {o : HO}
theorem Un.any (u : Un fs ex H H1 h h1) {b : Addr} {ob : Obj} (q : h.get? b = some ob) (n : H b = none) (hx : b ∉ ex) : ∃ sl, h1.get? b = some { ob with slots := sl } := by
  by_cases hb : b ∈ fs
  · exact u.slot b ob q n hb hx
  · exact ⟨ob.slots, u.keep b ob q n hb hx⟩
theorem Un.kept (k : ∀ b u, h.get? b = some u → h'.get? b = some u) : Un fs ex H H h h' :=
  ⟨fun b ob q _ _ _ => k b ob q, fun b ob q _ _ _ => ⟨ob.slots, k b ob q⟩, fun _ _ _ n _ => n, fun b ob q _ => ⟨ob, k b ob q⟩, fun _ _ q => q, fun _ _ _ q => q, fun _ ps q => ⟨#[], by rw [q]; simp⟩⟩
theorem Un.refl : Un fs ex H H h h := Un.kept fun _ _ q => q
theorem Un.laid (k : ∀ b u, h.get? b = some u → h'.get? b = some u) (hp : h.objs.size ≤ a) (hn : H a = none) : Un fs ex H (upd H a o) h h' where
  keep := fun b u q _ _ _ => k b u q
  slot := fun b u q _ _ _ => ⟨u.slots, k b u q⟩
  free := fun b u q n _ => by rw [upd_ne (Nat.ne_of_lt (Nat.lt_of_lt_of_le (Heap.lt_size q) hp))]; exact n
  there := fun b u q _ => ⟨u, k b u q⟩
  tups := fun b xs q => by rw [upd_ne (ne_of_none q hn)]; exact q
  frzs := fun b u xs q => by rw [upd_ne (ne_of_none q hn)]; exact q
  tbls := fun b ps q => ⟨#[], by rw [upd_ne (ne_of_none q hn), q]; simp⟩
theorem Un.write (mu : Mut (H x)) (he : e = x ∨ H e = some (.own x)) (k : ∀ b u, b ≠ e → h.get? b = some u → h'.get? b = some u) (heo : ∃ u, h'.get? e = some u) : Un fs ex H (upd H x o) h h' := by
  have hx : ∀ b, H b = none → b ≠ x := fun b n z => by subst z; rw [n] at mu; exact mu
  have hb : ∀ b, H b = none → b ≠ e := fun b n z => by
    subst z
    rcases he with r | r
    · exact hx b n r
    · rw [n] at r; cases r
  have hm : ∀ b u, H b = some u → ¬ Mut (some u) → b ≠ x := fun b u q nm z => by subst z; rw [q] at mu; exact nm mu
  refine ⟨fun b u q n _ _ => k b u (hb b n) q, fun b u q n _ _ => ⟨u.slots, k b u (hb b n) q⟩, fun b u q n _ => by rw [upd_ne (hx b n)]; exact n, fun b u q _ => ?_,
    fun b xs q => by rw [upd_ne (hm b _ q fun z => z)]; exact q, fun b u xs q => by rw [upd_ne (hm b _ q fun z => z)]; exact q, fun b ps q => ⟨#[], by rw [upd_ne (hm b _ q fun z => z), q]; simp⟩⟩
  by_cases hbe : b = e
  · subst hbe; exact heo
  · exact ⟨u, k b u hbe q⟩
end

/-! ### the heap without what is tracked -/
def trk (h : Heap) (H : Hp) : List Addr := (List.range h.objs.size).filter fun a => (H a).isSome
def hidT (h : Heap) (H : Hp) : Heap := PySem.W.hideAll h (trk h H)
theorem hidT_size (h : Heap) (H : Hp) : (hidT h H).objs.size = h.objs.size := PySem.W.hideAll_size _ _
theorem hidT_get {h : Heap} {H : Hp} {b : Addr} {o : Obj} (e : h.get? b = some o) (n : H b = none) : (hidT h H).get? b = some o :=
  PySem.W.hideAll_get _ e fun hm => by
    have q : (H b).isSome = true := (List.mem_filter.mp hm).2
    rw [n] at q; simp at q
theorem of_hidT {h : Heap} {H : Hp} {b : Addr} {o : Obj} (e : (hidT h H).get? b = some o) : h.get? b = some o ∧ H b = none := by
  have e' : h.get? b = some o := PySem.W.of_hideAll (trk h H) e
  refine ⟨e', ?_⟩
  cases q : H b with
  | none => rfl
  | some x =>
    have hm : b ∈ trk h H := List.mem_filter.mpr ⟨List.mem_range.mpr (Heap.lt_size e'), by simp [q]⟩
    have z : (hidT h H).get? b = none := PySem.W.hideAll_none (trk h H) hm
    rw [z] at e; cases e

/-! ### OpenK's ledger, filled with every new object but one -/
def allNews (g h : Heap) (L : Addr) : List (Addr × Obj) := (List.range h.objs.size).filterMap fun a => if a = L ∨ (g.get? a).isSome = true then none else (h.get? a).map fun o => (a, o)
def rest (g h : Heap) (L d : Addr) : List (Addr × Obj) := (allNews g h L).filter fun p => decide (p.1 ≠ d)
end L2

namespace L2
open PySem PySem.Spec PyProof.Rows

/-- the module's facts, over the base: the heap at the law's entry without what is tracked there -/
structure Mod (K : PySem.W.Frag) (mg : Str → Option Value) (base : Heap) : Prop where
  kin : K.In base
  glob : base.Ns mainGlobals mg
  blt : ∃ mb, base.Ns builtinsNs mb ∧ ∀ x : Str, x ≠ "__name__" → mb x = bootBuiltins x
  nolimit : base.NoLimit

/-- the context: a def's body (or a comprehension's block) running. base: fixed through the whole law; s₀, H₀: the entry; outer: the frames whose slots others may change (a def's callers); stack: all frames that run;
   ex: iterators that were made ahead of the entry and are walked here (a comprehension's); fn: the names whose cells were made at the entry (a def: all; a comprehension's block: its own); calm: not within an except suite; pn: pins that every state bears; xe: what is wanted of an exception that leaves the code -/
structure Cx where
  prog : Program
  w : World
  K : PySem.W.Frag
  mg : Str → Option Value
  base : Heap
  A : Around
  N : List Str
  s₀ : Shared
  H₀ : Hp
  env : Env
  outer : List Env
  stack : List Env
  ex : List Addr
  fn : Str → Bool
  calm : Bool
  pn : List (Addr × Obj)
  xe : Value → Shared → Prop
/-- the callers' frames -/
def frs (l : List Env) : List Addr := l.filterMap (·.frame)
abbrev Cx.fs (X : Cx) : List Addr := frs X.outer

def Vis (sc : Scope) (x : Str) : Prop := sc.names.lookup x = some .local ∨ sc.names.lookup x = some .cell ∨ sc.names.lookup x = some .free
def Loc (sc : Scope) (x : Str) : Prop := sc.names.lookup x = some .local ∨ sc.names.lookup x = some .cell
def Look (env : Env) (h : Heap) (m : Str → Option Value) (x : Str) (u : Value) : Prop :=
  (env.kindOf x = some .local ∧ m x = some u) ∨ ((env.kindOf x = some .cell ∨ env.kindOf x = some .free) ∧ ∃ c, env.cells.lookup x = some c ∧ h.IsCell c (some u))

structure Cx.Ok (X : Cx) : Prop where
  mod : Mod X.K X.mg X.base
  kind : X.env.scope.kind = .function
  glob : X.env.globals = mainGlobals
  blt : X.env.builtins = builtinsNs
  above : X.s₀.heap.objs.size ≤ X.env.locals
  inj : ∀ x y c, X.env.cells.lookup x = some c → X.env.cells.lookup y = some c → x = y
  has : ∀ x, (X.env.kindOf x = some .cell ∨ X.env.kindOf x = some .free) → ∃ c, X.env.cells.lookup x = some c
  cab : ∀ x c, X.fn x = true → X.env.cells.lookup x = some c → X.s₀.heap.objs.size ≤ c
  hd : X.calm = true → X.A.handled = none
  frames : X.A.frames = some X.stack
  stk : X.stack = X.outer ∨ (X.stack = X.env :: X.outer ∧ X.env.frame = some X.env.locals)
  exf : ∀ b ∈ X.ex, b ≠ X.env.locals ∧ ∀ x c, X.env.cells.lookup x = some c → c ≠ b
  bs : ∀ b o, X.base.get? b = some o → X.s₀.heap.get? b = some o ∧ X.H₀ b = none
  bsz : X.base.objs.size ≤ X.s₀.heap.objs.size
  noex : ∀ b o, X.base.get? b = some o → b ∉ X.ex
  exfs : ∀ b ∈ X.ex, b ∉ X.fs
  funs : X.s₀.heap.FunFrames X.base X.outer
  frf : ∀ b ∈ X.fs, X.H₀ b = none

structure Inv (X : Cx) (pins : List (Addr × Obj)) (σ : List (Option V)) (H : Hp) (s : Shared) : Prop where
  ok : X.Ok
  os : s.os = X.s₀.os
  bare : AllBare s.gens
  base : Un X.fs X.ex X.H₀ H X.s₀.heap s.heap
  loc : ∃ m, s.heap.Ns X.env.locals m ∧ ∀ (i : Nat) (x : Str) (v : V), X.N[i]? = some x → σ[i]? = some (some v) → Vis X.env.scope x → ∃ u, RelV v u ∧ Look X.env s.heap m x u
  cell : ∀ x c, X.env.cells.lookup x = some c → ∃ v, s.heap.IsCell c v
  free : H X.env.locals = none
  freeC : ∀ x c, X.env.cells.lookup x = some c → H c = none
  pin : ∀ p ∈ X.pn ++ pins, s.heap.get? p.1 = some p.2 ∧ H p.1 = none ∧ p.1 ≠ X.env.locals ∧ p.1 ∉ X.fs ∧ ∀ v, p.2.data ≠ .cell v
  hok : HOk X.prog X.w H s.heap
  len : σ.length = X.N.length

section
variable {X : Cx} {pins : List (Addr × Obj)} {σ : List (Option V)} {H H' : Hp} {s : Shared} {h' : Heap}

theorem Cx.Ok.nofr (ok : X.Ok) {b : Addr} {o : Obj} (e : X.base.get? b = some o) : b ∉ X.fs := fun hb => by
  have := (ok.funs.mem hb).1
  rw [e] at this; cases this
theorem Inv.bs (I : Inv X pins σ H s) : ∀ b o, X.base.get? b = some o → s.heap.get? b = some o ∧ H b = none := fun b o e =>
  ⟨I.base.keep b o (I.ok.bs b o e).1 (I.ok.bs b o e).2 (I.ok.nofr e) (I.ok.noex b o e), I.base.free b o (I.ok.bs b o e).1 (I.ok.bs b o e).2 (I.ok.noex b o e)⟩
theorem Inv.bk (I : Inv X pins σ H s) : ∀ b o, X.base.get? b = some o → s.heap.get? b = some o := fun b o e => (I.bs b o e).1
theorem Inv.mod (I : Inv X pins σ H s) : Mod X.K X.mg X.base := I.ok.mod
theorem Inv.kIn (I : Inv X pins σ H s) : X.K.In s.heap := I.ok.mod.kin.keeps I.bk
theorem Inv.lt (I : Inv X pins σ H s) : X.env.locals < s.heap.objs.size := let ⟨_, hn, _⟩ := I.loc; hn.lt
theorem Inv.sz (I : Inv X pins σ H s) : X.s₀.heap.objs.size ≤ s.heap.objs.size := Nat.le_trans I.ok.above (Nat.le_of_lt I.lt)
theorem Inv.nofs (I : Inv X pins σ H s) {a : Addr} (h : s.heap.objs.size ≤ a) : a ∉ X.fs := fun hb => by
  obtain ⟨_, o, ho, _⟩ := I.ok.funs.mem hb
  exact absurd (Nat.lt_of_lt_of_le (Heap.lt_size ho) (Nat.le_trans I.sz h)) (Nat.lt_irrefl _)
theorem Inv.cne (I : Inv X pins σ H s) : ∀ x c, X.env.cells.lookup x = some c → c ≠ X.env.locals := fun x c e z => by
  obtain ⟨v, o, ho, hd⟩ := I.cell x c e
  obtain ⟨m, ⟨o', es, ep, ho', hd', _⟩, _⟩ := I.loc
  rw [z, ho'] at ho; cases ho; rw [hd'] at hd; cases hd
theorem Inv.funs (I : Inv X pins σ H s) : s.heap.FunFrames X.base X.outer := by
  have all : ∀ (l : List Env), (∀ b ∈ frs l, b ∈ X.fs) → X.s₀.heap.FunFrames X.base l → s.heap.FunFrames X.base l := by
    intro l
    induction l with
    | nil => intro _ _; trivial
    | cons env r ih =>
      intro hs hl
      obtain ⟨hk, ⟨L, o, hf, hn, ho, hd⟩, hr⟩ := hl
      have hL : L ∈ X.fs := hs L (by unfold frs; rw [List.filterMap_cons, hf]; exact List.mem_cons_self)
      obtain ⟨sl, e⟩ := I.base.slot L o ho (I.ok.frf L hL) hL fun z => I.ok.exfs L z hL
      exact ⟨hk, ⟨L, _, hf, hn, e, hd⟩, ih (fun b hb => hs b (by unfold frs; rw [List.filterMap_cons, hf]; exact List.mem_cons_of_mem _ hb)) hr⟩
  exact all X.outer (fun _ hb => hb) I.ok.funs

/-- the frames that run, for a call -/
theorem Inv.stack (I : Inv X pins σ H s) : s.heap.FunFrames X.base X.stack := by
  rcases I.ok.stk with e | ⟨e, hf⟩
  · rw [e]; exact I.funs
  · rw [e]
    obtain ⟨m, hn, _⟩ := I.loc
    refine .cons (by rw [I.ok.kind]; decide) hf hn ?_ I.funs
    exact Heap.get?_none_of_le (Nat.le_trans I.ok.bsz I.ok.above)
theorem Inv.stkSub (I : Inv X pins σ H s) : ∀ b ∈ frs X.stack, b ∈ X.env.locals :: X.fs := fun b hb => by
  rcases I.ok.stk with e | ⟨e, hf⟩
  · rw [e] at hb; exact List.mem_cons_of_mem _ hb
  · rw [e] at hb
    unfold frs at hb
    rw [List.filterMap_cons, hf] at hb
    exact hb
theorem Inv.stkFree (I : Inv X pins σ H s) : ∀ b ∈ frs X.stack, H b = none := fun b hb => by
  rcases List.mem_cons.mp (I.stkSub b hb) with e | hb
  · rw [e]; exact I.free
  · obtain ⟨_, o, ho, _⟩ := I.ok.funs.mem hb
    exact I.base.free b o ho (I.ok.frf b hb) fun z => I.ok.exfs b z hb

/-- THE STEP: the untracked objects but the frame and the records at ch are kept (the callers' frames up to slots), the frame's map is kept, the new abstract heap is held -/
theorem Inv.step {g' : Array GenState} {t' : Nat} {d' : Drawn} {ch : List Addr} (I : Inv X pins σ H s)
    (hch : ∀ b ∈ ch, (b ∈ X.ex ∨ X.s₀.heap.objs.size ≤ b) ∧ b ≠ X.env.locals ∧ (∀ x c, X.env.cells.lookup x = some c → c ≠ b) ∧ ∀ p ∈ X.pn ++ pins, p.1 ≠ b)
    (keep : ∀ b o, b ≠ X.env.locals → b ∉ X.fs → b ∉ ch → s.heap.get? b = some o → H b = none → h'.get? b = some o)
    (slot : ∀ b o, b ≠ X.env.locals → b ∈ X.fs → b ∉ ch → s.heap.get? b = some o → H b = none → ∃ sl, h'.get? b = some { o with slots := sl }) (free : ∀ b o, b ∉ ch → s.heap.get? b = some o → H b = none → H' b = none)
    (there : ∀ b o, b ∉ ch → s.heap.get? b = some o → ∃ o', h'.get? b = some o')
    (tups : ∀ b xs, H b = some (.tup xs) → H' b = some (.tup xs)) (frzs : ∀ b o u, H b = some (.frz o u) → H' b = some (.frz o u)) (tbls : ∀ b ps, H b = some (.tbl ps) → ∃ more, H' b = some (.tbl (ps ++ more)))
    (ns : ∀ m, s.heap.Ns X.env.locals m → h'.Ns X.env.locals m) (hok : HOk X.prog X.w H' h') (hg : AllBare g') :
    Inv X pins σ H' { s with heap := h', gens := g', drawn := d', toks := t' } := by
  have neL : ∀ b o, X.s₀.heap.get? b = some o → b ≠ X.env.locals := fun b o e => Nat.ne_of_lt (Nat.lt_of_lt_of_le (Heap.lt_size e) I.ok.above)
  have neC : ∀ b o, X.s₀.heap.get? b = some o → b ∉ X.ex → b ∉ ch := fun b o e hx hb => by
    rcases (hch b hb).1 with z | z
    · exact hx z
    · exact absurd (Nat.lt_of_lt_of_le (Heap.lt_size e) z) (Nat.lt_irrefl _)
  have cellK : ∀ x c, X.env.cells.lookup x = some c → ∀ v, s.heap.IsCell c v → h'.IsCell c v := fun x c e v ⟨o, ho, hd⟩ => by
    have nch : c ∉ ch := fun z => (hch c z).2.2.1 x c e rfl
    by_cases hc : c ∈ X.fs
    · obtain ⟨sl, q⟩ := slot c o (I.cne x c e) hc nch ho (I.freeC x c e)
      exact ⟨_, q, hd⟩
    · exact ⟨o, keep c o (I.cne x c e) hc nch ho (I.freeC x c e), hd⟩
  refine ⟨I.ok, I.os, hg, ⟨fun b o e n hb hx => ?_, fun b o e n hb hx => ?_, fun b o e n hx => ?_, fun b o e hx => ?_, fun b xs e => tups b xs (I.base.tups b xs e), fun b o xs e => frzs b o xs (I.base.frzs b o xs e), fun b ps e => ?_⟩, ?_, fun x c e => ?_, ?_, fun x c e => ?_, fun p hp => ?_, hok, I.len⟩
  · exact keep b o (neL b o e) hb (neC b o e hx) (I.base.keep b o e n hb hx) (I.base.free b o e n hx)
  · obtain ⟨sl, e1⟩ := I.base.slot b o e n hb hx
    obtain ⟨sl', e2⟩ := slot b _ (neL b o e) hb (neC b o e hx) e1 (I.base.free b o e n hx)
    exact ⟨sl', e2⟩
  · obtain ⟨o', e1⟩ := I.base.there b o e hx
    exact free b o' (neC b o e hx) e1 (I.base.free b o e n hx)
  · obtain ⟨o', e1⟩ := I.base.there b o e hx
    exact there b o' (neC b o e hx) e1
  · obtain ⟨m1, e1⟩ := I.base.tbls b ps e
    obtain ⟨m2, e2⟩ := tbls b _ e1
    exact ⟨m1 ++ m2, by rw [e2, Array.append_assoc]⟩
  · obtain ⟨m, hn, hl⟩ := I.loc
    refine ⟨m, ns m hn, fun i x v e1 e2 e3 => ?_⟩
    obtain ⟨u, r, l⟩ := hl i x v e1 e2 e3
    refine ⟨u, r, ?_⟩
    rcases l with l | ⟨k, c, e, z⟩
    · exact .inl l
    · exact .inr ⟨k, c, e, cellK x c e _ z⟩
  · obtain ⟨v, z⟩ := I.cell x c e
    exact ⟨v, cellK x c e v z⟩
  · obtain ⟨m, ⟨o, _, _, ho, _⟩, _⟩ := I.loc
    exact free _ o (fun z => (hch _ z).2.1 rfl) ho I.free
  · obtain ⟨v, o, ho, hd⟩ := I.cell x c e
    exact free c o (fun z => (hch c z).2.2.1 x c e rfl) ho (I.freeC x c e)
  · obtain ⟨e, n, ne, nf, d⟩ := I.pin p hp
    have nch : p.1 ∉ ch := fun z => (hch p.1 z).2.2.2 p hp rfl
    exact ⟨keep p.1 p.2 ne nf nch e n, free p.1 p.2 nch e n, ne, nf, d⟩
/-- .. where the frame's own object is kept too -/
theorem Inv.un {t' : Nat} (I : Inv X pins σ H s) (u : Un X.fs [] H H' s.heap h') (hok : HOk X.prog X.w H' h') : Inv X pins σ H' { s with heap := h', toks := t' } := by
  obtain ⟨m, ⟨o, es, ep, ho, r⟩, _⟩ := id I.loc
  obtain ⟨sl, hL⟩ := u.any ho I.free (by simp)
  exact I.step (g' := s.gens) (d' := s.drawn) (ch := []) (fun _ z => nomatch z) (fun b o _ hb _ e n => u.keep b o e n hb (by simp)) (fun b o _ hb _ e n => u.slot b o e n hb (by simp)) (fun b o _ e n => u.free b o e n (by simp)) (fun b o _ e => u.there b o e (by simp)) u.tups u.frzs u.tbls (fun m' hm => by
    obtain ⟨o', es', ep', ho', r'⟩ := hm
    rw [ho] at ho'; cases ho'
    exact ⟨_, es', ep', hL, r'⟩) hok I.bare
/-- behind a call (or a comprehension's block): the slots of this frame may have changed too, the records at ch may have turned -/
theorem Inv.call {g' : Array GenState} {t' : Nat} {d' : Drawn} {ch : List Addr} (I : Inv X pins σ H s) (u : Un (frs X.stack) ch H H' s.heap h') (hok : HOk X.prog X.w H' h') (hg : AllBare g')
    (hch : ∀ b ∈ ch, (b ∈ X.ex ∨ X.s₀.heap.objs.size ≤ b) ∧ b ≠ X.env.locals ∧ (∀ x c, X.env.cells.lookup x = some c → c ≠ b) ∧ ∀ p ∈ X.pn ++ pins, p.1 ≠ b) :
    Inv X pins σ H' { s with heap := h', gens := g', drawn := d', toks := t' } := by
  obtain ⟨m, ⟨o, es, ep, ho, r⟩, _⟩ := id I.loc
  obtain ⟨sl, hL⟩ := u.any ho I.free fun z => (hch _ z).2.1 rfl
  exact I.step (ch := ch) hch (fun b o hL hb hc e n => u.keep b o e n (fun z => (List.mem_cons.mp (I.stkSub b z)).elim hL hb) hc) (fun b o _ _ hc e n => u.any e n hc) (fun b o hc e n => u.free b o e n hc) (fun b o hc e => u.there b o e hc) u.tups u.frzs u.tbls (fun m' hm => by
    obtain ⟨o', es', ep', ho', r'⟩ := hm
    rw [ho] at ho'; cases ho'
    exact ⟨_, es', ep', hL, r'⟩) hok hg
/-- an untracked record of ours (an iterator) has turned -/
theorem Inv.turned {t' : Nat} {it : Addr} (I : Inv X pins σ H s) (k : ∀ b o, b ≠ it → s.heap.get? b = some o → h'.get? b = some o) (hn : H it = none) (hL : it ≠ X.env.locals)
    (h1 : it ∈ X.ex ∨ X.s₀.heap.objs.size ≤ it) (h2 : ∀ x c, X.env.cells.lookup x = some c → c ≠ it) (h3 : ∀ p ∈ X.pn ++ pins, p.1 ≠ it) : Inv X pins σ H { s with heap := h', toks := t' } := by
  have nit : ∀ b u, H b = some u → b ≠ it := fun b u e z => by rw [z, hn] at e; cases e
  refine I.step (g' := s.gens) (d' := s.drawn) (ch := [it]) (fun b hb => ?_) (fun b o _ _ hc e _ => k b o (fun z => hc (by simp [z])) e) (fun b o _ _ hc e _ => ⟨o.slots, k b o (fun z => hc (by simp [z])) e⟩) (fun _ _ _ _ n => n)
    (fun b o hc e => ⟨o, k b o (fun z => hc (by simp [z])) e⟩) (fun _ _ e => e) (fun _ _ _ e => e) (fun b ps e => ⟨#[], by rw [e]; simp⟩) (fun m hm => ?_) (fun b u e => ?_) I.bare
  · have e : b = it := by simpa using hb
    subst e
    exact ⟨h1, hL, h2, h3⟩
  · obtain ⟨o, es, ep, ho, r⟩ := hm
    exact ⟨o, es, ep, k _ o (Ne.symm hL) ho, r⟩
  · refine (I.hok b u e).stay (fun c v hc q => k c v ?_ q) (fun _ q => q) fun _ _ q => q
    rcases hc with z | z
    · rw [z]; exact nit b u e
    · exact nit c _ z
theorem Inv.tok (I : Inv X pins σ H s) (t : Nat) : Inv X pins σ H { s with toks := t } := I.un (h' := s.heap) (t' := t) Un.refl I.hok
/-- all objects kept -/
theorem Inv.kept {t' : Nat} (I : Inv X pins σ H s) (k : ∀ b u, s.heap.get? b = some u → h'.get? b = some u) : Inv X pins σ H { s with heap := h', toks := t' } := I.un (Un.kept k) (I.hok.kept k)
/-- a new object laid and tracked -/
theorem Inv.laid {a : Addr} {o : HO} {t' : Nat} (I : Inv X pins σ H s) (k : ∀ b u, s.heap.get? b = some u → h'.get? b = some u) (hp : s.heap.objs.size ≤ a) (new : ObjOk X.prog X.w (upd H a o) h' a o) :
    Inv X pins σ (upd H a o) { s with heap := h', toks := t' } := I.un (Un.laid k hp (I.hok.fresh hp)) (I.hok.laid k hp new)
/-- an object written -/
theorem Inv.write {x e : Addr} {o : HO} {t' : Nat} (I : Inv X pins σ H s) (mu : Mut (H x)) (he : e = x ∨ H e = some (.own x)) (k : ∀ b u, b ≠ e → s.heap.get? b = some u → h'.get? b = some u) (heo : ∃ u, h'.get? e = some u)
    (new : ObjOk X.prog X.w (upd H x o) h' x o) : Inv X pins σ (upd H x o) { s with heap := h', toks := t' } := I.un (Un.write mu he k heo) (I.hok.write mu he k heo new)
theorem Inv.pins_of {pins' : List (Addr × Obj)} (I : Inv X pins σ H s) (h : ∀ p ∈ pins', s.heap.get? p.1 = some p.2 ∧ H p.1 = none ∧ p.1 ≠ X.env.locals ∧ p.1 ∉ X.fs ∧ ∀ v, p.2.data ≠ .cell v) : Inv X pins' σ H s :=
  ⟨I.ok, I.os, I.bare, I.base, I.loc, I.cell, I.free, I.freeC, fun p hp => (List.mem_append.mp hp).elim (fun z => I.pin p (List.mem_append_left _ z)) (h p), I.hok, I.len⟩

theorem nodup_ix {N : List Str} (hN : N.Nodup) {i j : Nat} {x : Str} (a : N[i]? = some x) (b : N[j]? = some x) : i = j := by
  obtain ⟨h1, e1⟩ := List.getElem?_eq_some_iff.mp a
  obtain ⟨h2, e2⟩ := List.getElem?_eq_some_iff.mp b
  exact (List.getElem_inj hN).mp (e1.trans e2.symm)

/-- a name is stored; what changed -/
theorem store_ok2 {M : Model} {A : Around} {E : Value → Shared → Prop} {i : Nat} {x : Str} {v : V} {u : Value} {Q : Unit → Shared → Prop} (I : Inv X pins σ H s) (hN : X.N.Nodup) (hi : X.N[i]? = some x) (hx : Loc X.env.scope x) (r : RelV v u)
    (h : ∀ s', Inv X pins (σ.set i (some v)) H s' → (∃ a, Heap.SameBut a s.heap s'.heap ∧ (a = X.env.locals ∨ X.env.cells.lookup x = some a)) → Q () s') (hf : X.fn x = true ∨ X.env.scope.names.lookup x = some .local := by first | exact .inl rfl | exact .inr rfl | assumption) : wpAny M A (storeName X.env x u) Q E s := by
  obtain ⟨m, hn, hl⟩ := id I.loc
  have hcls : (X.env.scope.kind == .class || (X.env.scope.kind == .module && X.env.locals != X.env.globals)) = false := by rw [I.ok.kind]; rfl
  have hiσ : i < σ.length := by rw [I.len]; exact (List.getElem?_eq_some_iff.mp hi).1
  have cne := I.cne
  have tracked : ∀ {a : Addr} {h' : Heap}, (∃ o, s.heap.get? a = some o ∧ H a = none) → Heap.SameBut a s.heap h' → HOk X.prog X.w H h' := fun {a h'} ha hs b ob e => by
    obtain ⟨_, _, hfree⟩ := ha
    refine (I.hok b ob e).stay (fun c w' hc q => (hs.2 c ?_).trans q) (fun _ q => q) fun _ _ q => q
    rintro rfl
    rcases hc with rfl | hc
    · rw [hfree] at e; cases e
    · rw [hfree] at hc; cases hc
  rcases hx with hk | hk
  · refine wpAny_storeName_local hk hn (fun h' hn' hs => ?_) hcls
    obtain ⟨oL, _, _, hoL, _⟩ := id hn
    refine h _ ⟨I.ok, I.os, I.bare, ⟨fun b o e n hb hx => ?_, fun b o e n hb hx => ?_, I.base.free, fun b o e hx => ?_, I.base.tups, I.base.frzs, I.base.tbls⟩, ⟨_, hn', fun j y v' e1 e2 e3 => ?_⟩, fun y c e => ?_, I.free, I.freeC, fun p hp => ?_, tracked ⟨oL, hoL, I.free⟩ hs, by simpa using I.len⟩ ⟨_, hs, .inl rfl⟩
    · exact (hs.2 b (Nat.ne_of_lt (Nat.lt_of_lt_of_le (Heap.lt_size e) I.ok.above))).trans (I.base.keep b o e n hb hx)
    · obtain ⟨sl, e1⟩ := I.base.slot b o e n hb hx
      exact ⟨sl, (hs.2 b (Nat.ne_of_lt (Nat.lt_of_lt_of_le (Heap.lt_size e) I.ok.above))).trans e1⟩
    · obtain ⟨o', e1⟩ := I.base.there b o e hx
      exact ⟨o', (hs.2 b (Nat.ne_of_lt (Nat.lt_of_lt_of_le (Heap.lt_size e) I.ok.above))).trans e1⟩
    · by_cases hj : j = i
      · subst hj
        rw [hi] at e1; cases e1
        rw [List.getElem?_set_self hiσ] at e2
        cases e2
        exact ⟨u, r, .inl ⟨hk, by simp⟩⟩
      · rw [List.getElem?_set_ne (Ne.symm hj)] at e2
        obtain ⟨u', r', q⟩ := hl j y v' e1 e2 e3
        refine ⟨u', r', ?_⟩
        rcases q with ⟨k, e⟩ | ⟨k, c, e, z⟩
        · refine .inl ⟨k, ?_⟩
          have : y ≠ x := fun e => hj (nodup_ix hN e1 (e ▸ hi))
          simp [this, e]
        · exact .inr ⟨k, c, e, z.sameBut hs (cne y c e)⟩
    · obtain ⟨w', z⟩ := I.cell y c e
      exact ⟨w', z.sameBut hs (cne y c e)⟩
    · obtain ⟨e, n, ne, nf, d⟩ := I.pin p hp
      exact ⟨(hs.2 p.1 ne).trans e, n, ne, nf, d⟩
  · have hfn : X.fn x = true := by
      rcases hf with z | z
      · exact z
      · rw [z] at hk; cases hk
    obtain ⟨c, hc⟩ := I.ok.has x (.inl hk)
    obtain ⟨w', z⟩ := I.cell x c hc
    refine wpAny_storeName_cell I.ok.kind hk hc z (fun h' hc' hs => ?_)
    obtain ⟨oc, hoc, hocd⟩ := id z
    refine h { s with heap := h' } ⟨I.ok, I.os, I.bare, ⟨fun b o e n hb hx => ?_, fun b o e n hb hx => ?_, I.base.free, fun b o e hx => ?_, I.base.tups, I.base.frzs, I.base.tbls⟩, ⟨m, hn.sameBut hs (Ne.symm (cne x c hc)), fun j y v' e1 e2 e3 => ?_⟩, fun y c' e => ?_, I.free, I.freeC, fun p hp => ?_, tracked ⟨oc, hoc, I.freeC x c hc⟩ hs, by simpa using I.len⟩ ⟨c, hs, .inr hc⟩
    · exact (hs.2 b (Nat.ne_of_lt (Nat.lt_of_lt_of_le (Heap.lt_size e) (I.ok.cab x c hfn hc)))).trans (I.base.keep b o e n hb hx)
    · obtain ⟨sl, e1⟩ := I.base.slot b o e n hb hx
      exact ⟨sl, (hs.2 b (Nat.ne_of_lt (Nat.lt_of_lt_of_le (Heap.lt_size e) (I.ok.cab x c hfn hc)))).trans e1⟩
    · obtain ⟨o', e1⟩ := I.base.there b o e hx
      exact ⟨o', (hs.2 b (Nat.ne_of_lt (Nat.lt_of_lt_of_le (Heap.lt_size e) (I.ok.cab x c hfn hc)))).trans e1⟩
    · by_cases hj : j = i
      · subst hj
        rw [hi] at e1; cases e1
        rw [List.getElem?_set_self hiσ] at e2
        cases e2
        exact ⟨u, r, .inr ⟨.inl hk, c, hc, hc'⟩⟩
      · rw [List.getElem?_set_ne (Ne.symm hj)] at e2
        obtain ⟨u', r', q⟩ := hl j y v' e1 e2 e3
        refine ⟨u', r', ?_⟩
        rcases q with q | ⟨k, c', e, z'⟩
        · exact .inl q
        · refine .inr ⟨k, c', e, z'.sameBut hs ?_⟩
          rintro rfl
          exact hj (nodup_ix hN e1 (I.ok.inj _ _ _ e hc ▸ hi))
    · by_cases hcc : c' = c
      · subst hcc; exact ⟨_, hc'⟩
      · obtain ⟨w2, z2⟩ := I.cell y c' e
        exact ⟨w2, z2.sameBut hs hcc⟩
    · obtain ⟨e, n, ne, nf, d⟩ := I.pin p hp
      refine ⟨(hs.2 p.1 ?_).trans e, n, ne, nf, d⟩
      intro q
      rw [q, hoc] at e
      have q' : oc = p.2 := Option.some.inj e
      exact d w' (by rw [← q']; exact hocd)
theorem store_ok {M : Model} {A : Around} {E : Value → Shared → Prop} {i : Nat} {x : Str} {v : V} {u : Value} {Q : Unit → Shared → Prop} (I : Inv X pins σ H s) (hN : X.N.Nodup) (hi : X.N[i]? = some x) (hx : Loc X.env.scope x) (r : RelV v u)
    (h : ∀ s', Inv X pins (σ.set i (some v)) H s' → Q () s') (hf : X.fn x = true ∨ X.env.scope.names.lookup x = some .local := by first | exact .inl rfl | exact .inr rfl | assumption) : wpAny M A (storeName X.env x u) Q E s :=
  store_ok2 I hN hi hx r (fun s' I' _ => h s' I') hf
/-- behind a call or a block, the state as it is -/
theorem Inv.call' {s' : Shared} {ch : List Addr} (I : Inv X pins σ H s) (ho : s'.os = s.os) (u : Un (frs X.stack) ch H H' s.heap s'.heap) (hok : HOk X.prog X.w H' s'.heap) (hg : AllBare s'.gens)
    (hch : ∀ b ∈ ch, (b ∈ X.ex ∨ X.s₀.heap.objs.size ≤ b) ∧ b ≠ X.env.locals ∧ (∀ x c, X.env.cells.lookup x = some c → c ≠ b) ∧ ∀ p ∈ X.pn ++ pins, p.1 ≠ b) : Inv X pins σ H' s' := by
  obtain ⟨h', g', d', t', o'⟩ := s'
  have e : o' = s.os := ho
  subst e
  exact I.call (g' := g') (t' := t') (d' := d') u hok hg hch
end

/-! ### the judgements -/
/-- an exception: its class, its own dict's address (where it has one), the abstract heap behind it -/
abbrev XK := Value → Option Addr → Hp → Prop
abbrev St := List (Option V)
abbrev VK := V → Hp → Prop
/-- an expression's reading; a test's; an argument list's -/
abbrev TE := St → Hp → VK → Prop
abbrev TT := St → Hp → (Bool → Hp → Prop) → Prop
abbrev TA := St → Hp → (List V → Hp → Prop) → Prop
/-- what is wanted behind a statement -/
structure Ends where
  nx : St → Hp → Prop
  rt : VK
  bk : St → Hp → Prop := fun _ _ => False
  ct : St → Hp → Prop := fun _ _ => False
abbrev TS := Ends → St → Hp → Prop

def EP (X : Cx) (pins : List (Addr × Obj)) (σ : St) (Q : VK) (u : Value) (s' : Shared) : Prop := ∃ v H', Inv X pins σ H' s' ∧ RelV v u ∧ Q v H'
def TP (X : Cx) (pins : List (Addr × Obj)) (σ : St) (Q : Bool → Hp → Prop) (b : Bool) (s' : Shared) : Prop := ∃ H', Inv X pins σ H' s' ∧ Q b H'
def AP (X : Cx) (pins : List (Addr × Obj)) (σ : St) (Q : List V → Hp → Prop) (us : List Value) (s' : Shared) : Prop := ∃ vs H', Inv X pins σ H' s' ∧ Vals vs us ∧ Q vs H'
def SP (X : Cx) (pins : List (Addr × Obj)) (D : Ends) (f : Flow) (s' : Shared) : Prop :=
  match f with
  | .next => ∃ σ' H', Inv X pins σ' H' s' ∧ D.nx σ' H'
  | .brk => ∃ σ' H', Inv X pins σ' H' s' ∧ D.bk σ' H'
  | .cont => ∃ σ' H', Inv X pins σ' H' s' ∧ D.ct σ' H'
  | .ret u => ∃ v σ' H', Inv X pins σ' H' s' ∧ RelV v u ∧ D.rt v H'

def PE (X : Cx) (e : Expr) (t : TE) : Prop :=
  ∀ (pins : List (Addr × Obj)) (s : Shared) (σ : St) (H : Hp) (Q : VK), Inv X pins σ H s → t σ H Q → wpAny (model X.prog X.w) X.A (eval e X.env) (EP X pins σ Q) X.xe s
def PT (X : Cx) (e : Expr) (t : TT) : Prop :=
  ∀ (pins : List (Addr × Obj)) (s : Shared) (σ : St) (H : Hp) (Q : Bool → Hp → Prop), Inv X pins σ H s → t σ H Q → wpAny (model X.prog X.w) X.A (isTrue e X.env (eval e X.env)) (TP X pins σ Q) X.xe s
/-- a test whatever its 'whole' is (and, or) -/
def PW (X : Cx) (e : Expr) (t : TT) : Prop :=
  ∀ (whole : Sem Value) (pins : List (Addr × Obj)) (s : Shared) (σ : St) (H : Hp) (Q : Bool → Hp → Prop), Inv X pins σ H s → t σ H Q → wpAny (model X.prog X.w) X.A (isTrue e X.env whole) (TP X pins σ Q) X.xe s
theorem PW.pt {X : Cx} {e : Expr} {t : TT} (h : PW X e t) : PT X e t := h _
/-- an argument list (no star), from the left -/
def PA (X : Cx) (es : List Expr) (t : TA) : Prop :=
  ∀ (pos : Pos) (pins : List (Addr × Obj)) (s : Shared) (σ : St) (H : Hp) (Q : List V → Hp → Prop), Inv X pins σ H s → t σ H Q → wpAny (model X.prog X.w) X.A (spliced (backTo pos (starEach es X.env))) (AP X pins σ Q) X.xe s
def PS (X : Cx) (st : Stmt) (t : TS) : Prop :=
  ∀ (pins : List (Addr × Obj)) (s : Shared) (σ : St) (H : Hp) (D : Ends), Inv X pins σ H s → t D σ H → wpAny (model X.prog X.w) X.A (exec st X.env) (SP X pins D) X.xe s
def PSs (X : Cx) (st : List Stmt) (t : TS) : Prop :=
  ∀ (pins : List (Addr × Obj)) (s : Shared) (σ : St) (H : Hp) (D : Ends), Inv X pins σ H s → t D σ H → wpAny (model X.prog X.w) X.A (execs st X.env) (SP X pins D) X.xe s
/-- weaken the end -/
theorem thn {α : Type} {t : Sem α} {Q Q' : α → Shared → Prop} {M : Model} {A : Around} {E : Value → Shared → Prop} {s : Shared} (h : wpAny M A t Q E s) (hQ : ∀ a s, Q a s → Q' a s) : wpAny M A t Q' E s := wpAny_mono h hQ fun _ _ x => x
end L2

namespace L2
open PySem PySem.Spec PyProof.Rows
section
variable {X : Cx}


/-! ### names and constants -/
def tVar (i : Nat) : TE := fun σ H Q => ∃ v, σ[i]? = some (some v) ∧ Q v H
def tC (v : V) : TE := fun _ H Q => Q v H
theorem pe_var {i : Nat} {x : Str} {pos : Pos} (hN : X.N[i]? = some x) (hv : Vis X.env.scope x) (hd : (x == ("__debug__" : Str)) = false := by decide) (hcd : (x == ("__classdict__" : Str)) = false := by decide) : PE X (.Name x pos) (tVar i) := by
  intro pins s σ H Q I h
  obtain ⟨v, e, h⟩ := h
  obtain ⟨m, hn, hl⟩ := I.loc
  obtain ⟨u, r, l⟩ := hl i x v hN e hv
  have fin : EP X pins σ Q u s := ⟨v, H, I, r, h⟩
  rcases l with ⟨hk, hm⟩ | ⟨hk, c, hc, hcell⟩
  · exact wpAny_Name (wpAny_loadName_local I.ok.kind hk hn hm fin) hd
  · rcases hk with hk | hk
    · exact wpAny_Name (wpAny_loadName_cell I.ok.kind hk hc hcell fin) hd
    · exact wpAny_Name (wpAny_loadName_free I.ok.kind hk hc hcell fin hcd) hd
theorem pe_int {i j pos} : PE X (.Constant (.int i) j pos) (tC (.int i)) := fun _ _ _ H _ I h => wpAny_Constant_int ⟨.int i, H, I.tok _, ⟨_, rfl⟩, h⟩
theorem pe_bl {b j pos} : PE X (.Constant (.bool b) j pos) (tC (.bl b)) := fun _ _ _ H _ I h => Constant_bool ⟨.bl b, H, I, rfl, h⟩
theorem pe_str {x j pos} : PE X (.Constant (.str x) j pos) (tC (.str x)) := fun _ _ _ H _ I h => Calls.Constant_str ⟨.str x, H, I.tok _, ⟨_, rfl⟩, h⟩

/-- a global name of the def -/
def Gl (X : Cx) (x : Str) : Prop := X.env.kindOf x = some .globalImplicit
theorem ld_glob {E : Value → Shared → Prop} {pins : List (Addr × Obj)} {s : Shared} {σ : St} {H : Hp} {x : Str} {u : Value} {pos : Pos} {Q : Value → Shared → Prop} (I : Inv X pins σ H s) (hg : Gl X x) (hm : X.mg x = some u) (h : Q u s)
    (hd : (x == ("__debug__" : Str)) = false := by decide) : wpAny (model X.prog X.w) X.A (eval (.Name x pos) X.env) Q E s :=
  Calls.Name_function_global I.ok.kind hg (Calls.loadGlobal_global (by rw [I.ok.glob]; exact I.mod.glob.keeps I.bk) hm h) hd
theorem ld_blt {E : Value → Shared → Prop} {pins : List (Addr × Obj)} {s : Shared} {σ : St} {H : Hp} {x : Str} {u : Value} {pos : Pos} {Q : Value → Shared → Prop} (I : Inv X pins σ H s) (hg : Gl X x) (hm : X.mg x = none) (hv : bootBuiltins x = some u) (h : Q u s)
    (hn : x ≠ "__name__" := by decide) (hd : (x == ("__debug__" : Str)) = false := by decide) : wpAny (model X.prog X.w) X.A (eval (.Name x pos) X.env) Q E s := by
  obtain ⟨mb, h1, h2⟩ := I.mod.blt
  exact Calls.Name_function_global I.ok.kind hg (Calls.loadGlobal_builtin (by rw [I.ok.glob]; exact I.mod.glob.keeps I.bk) hm (by rw [I.ok.blt]; exact h1.keeps I.bk) ((h2 x hn).trans hv) h) hd
/-- a module's constant, a class, a function, as a value -/
theorem pe_glob {x : Str} {v : V} {u : Value} {pos : Pos} (hg : Gl X x) (hm : X.mg x = some u) (r : RelV v u) (hd : (x == ("__debug__" : Str)) = false := by decide) : PE X (.Name x pos) (tC v) :=
  fun _ _ _ H _ I h => ld_glob I hg hm ⟨v, H, I, r, h⟩ hd
theorem pe_bltn {x : Str} {v : V} {u : Value} {pos : Pos} (hg : Gl X x) (hm : X.mg x = none) (hv : bootBuiltins x = some u) (r : RelV v u) (hn : x ≠ "__name__" := by decide) (hd : (x == ("__debug__" : Str)) = false := by decide) : PE X (.Name x pos) (tC v) :=
  fun _ _ _ H _ I h => ld_blt I hg hm hv ⟨v, H, I, r, h⟩ hn hd

/-! ### arithmetic -/
/-- two ints -/
def t2I (ta tb : TE) (k : Int → Int → Hp → Prop) : St → Hp → Prop := fun σ H => ta σ H fun x H1 => tb σ H1 fun y H2 => ∃ i j, x = .int i ∧ y = .int j ∧ k i j H2
def tAdd (ta tb : TE) : TE := fun σ H Q => t2I ta tb (fun i j H2 => Q (.int (i + j)) H2) σ H
def tSub (ta tb : TE) : TE := fun σ H Q => t2I ta tb (fun i j H2 => Q (.int (i - j)) H2) σ H
/-- the left factor below 2^64 -/
def tMul (ta tb : TE) : TE := fun σ H Q => t2I ta tb (fun i j H2 => (-(2 ^ 64) < i ∧ i < 2 ^ 64) ∧ Q (.int (i * j)) H2) σ H
variable {a b : Expr} {ta tb : TE} {pos : Pos}

/-! ### comparisons -/
def PC (X : Cx) (op : CmpOp) (a b : Expr) (t : TE) : Prop :=
  ∀ (pins : List (Addr × Obj)) (s : Shared) (σ : St) (H : Hp) (Q : VK), Inv X pins σ H s → t σ H Q →
    wpAny (model X.prog X.w) X.A (eval a X.env) (fun v s₁ => wpAny (model X.prog X.w) X.A (eval b X.env) (fun u s₂ => wpAny (model X.prog X.w) X.A (compareOp op v u) (EP X pins σ Q) X.xe s₂) X.xe s₁) X.xe s
def tCmp (p : Int → Int → Bool) (ta tb : TE) : TE := fun σ H Q => t2I ta tb (fun i j H2 => Q (.bl (p i j)) H2) σ H
abbrev tLt : TE → TE → TE := tCmp fun i j => decide (i < j)
abbrev tLe : TE → TE → TE := tCmp fun i j => decide (i ≤ j)
abbrev tGt : TE → TE → TE := tCmp fun i j => decide (j < i)
abbrev tGe : TE → TE → TE := tCmp fun i j => decide (j ≤ i)
abbrev tEqI : TE → TE → TE := tCmp fun i j => decide (i = j)
abbrev tNeI : TE → TE → TE := tCmp fun i j => !decide (i = j)
/-- is None -/
def tIsN (ta : TE) : TE := fun σ H Q => ta σ H fun x H1 => Q (.bl (decide (x = .non))) H1
def tNotN (ta : TE) : TE := fun σ H Q => ta σ H fun x H1 => Q (.bl (!decide (x = .non))) H1
/-- a comparison as a value, as a test -/
def tB (t : TE) : TT := fun σ H Q => t σ H fun x H1 => ∃ c, x = .bl c ∧ Q c H1
theorem pt_cmp {op : CmpOp} {t : TE} (h : PC X op a b t) (h1 : behindInMarks op b = false := by first | exact nobehind _ (by decide) (by decide) | rfl) : PT X (.Compare a [op] [b] pos) (tB t) := by
  intro pins s σ H Q I hw
  refine wpAny_isTrue_Compare1 (thn (h pins s σ H _ I hw) fun v s1 h1 => thn h1 fun u s2 h2 => thn h2 fun c s3 ⟨x, H1, I1, r1, q1⟩ => ?_) h1
  obtain ⟨d, rfl, q⟩ := q1
  cases r1
  exact wpAny_truthy_bool ⟨H1, I1, q⟩
/-- an expression whose value is a bool, as a test -/
theorem pt_val {e : Expr} {t : TE} (h : PE X e t) (he : ∀ whole, isTrue e X.env whole = (do let v ← whole; standAt e.pos; holding [v] (truthy v)) := by intro _; rfl) : PT X e (tB t) := by
  intro pins s σ H Q I hw
  refine isTrue_plain (thn (h pins s σ H _ I hw) fun v s1 ⟨x, H1, I1, r1, q1⟩ => ?_) (he _)
  obtain ⟨d, rfl, q⟩ := q1
  cases r1
  exact wpAny_truthy_bool ⟨H1, I1, q⟩

/-! ### and, or, not -/
variable {tA tB' : TT} {rest : List Expr}
def tAnd (t u : TT) : TT := fun σ H Q => t σ H fun c H1 => if c = true then u σ H1 Q else Q false H1
def tOr (t u : TT) : TT := fun σ H Q => t σ H fun c H1 => if c = true then Q true H1 else u σ H1 Q
def tNot (t : TT) : TT := fun σ H Q => t σ H fun c H1 => Q (!c) H1
theorem pw_and1 (ha : PT X a tA) : PW X (.BoolOp .And [a] pos) tA := by
  intro wh pins s σ H Q I h
  refine isTrue_and (thn (ha pins s σ H Q I h) fun c s1 e => ?_)
  cases c with
  | true => exact isTrue_and_nil e
  | false => exact e
theorem pw_or1 (ha : PT X a tA) : PW X (.BoolOp .Or [a] pos) tA := by
  intro wh pins s σ H Q I h
  refine isTrue_or (thn (ha pins s σ H Q I h) fun c s1 e => ?_)
  cases c with
  | false => exact isTrue_or_nil e
  | true => exact e
theorem pw_and (ha : PT X a tA) (hb : PW X (.BoolOp .And (b :: rest) pos) tB') : PW X (.BoolOp .And (a :: b :: rest) pos) (tAnd tA tB') := by
  intro wh pins s σ H Q I h
  refine isTrue_and (thn (ha pins s σ H _ I h) fun c s1 ⟨H1, I1, q1⟩ => ?_)
  cases c with
  | true => exact hb wh pins s1 σ H1 Q I1 q1
  | false => exact ⟨H1, I1, q1⟩
theorem pw_or (ha : PT X a tA) (hb : PW X (.BoolOp .Or (b :: rest) pos) tB') : PW X (.BoolOp .Or (a :: b :: rest) pos) (tOr tA tB') := by
  intro wh pins s σ H Q I h
  refine isTrue_or (thn (ha pins s σ H _ I h) fun c s1 ⟨H1, I1, q1⟩ => ?_)
  cases c with
  | true => exact ⟨H1, I1, q1⟩
  | false => exact hb wh pins s1 σ H1 Q I1 q1
theorem pt_not (ha : PT X a tA) : PT X (.UnaryOp .Not a pos) (tNot tA) := by
  intro pins s σ H Q I h
  exact isTrue_not (ha pins s σ H (fun c H1 => Q (!c) H1) I h)
/-- .. as values (bools) -/
def tAndV (ta tb : TE) : TE := fun σ H Q => ta σ H fun x H1 => ∃ c, x = .bl c ∧ if c = true then tb σ H1 Q else Q (.bl false) H1
def tOrV (ta tb : TE) : TE := fun σ H Q => ta σ H fun x H1 => ∃ c, x = .bl c ∧ if c = true then Q (.bl true) H1 else tb σ H1 Q
def tNotV (ta : TE) : TE := fun σ H Q => ta σ H fun x H1 => ∃ c, x = .bl c ∧ Q (.bl (!c)) H1
theorem pe_one {op} {t : TE} (h : PE X a t) : PE X (.BoolOp op [a] pos) t := fun pins s σ H Q I hw => BoolOp_one (h pins s σ H Q I hw)
theorem pe_and (ha : PE X a ta) (hb : PE X (.BoolOp .And (b :: rest) pos) tb) : PE X (.BoolOp .And (a :: b :: rest) pos) (tAndV ta tb) := by
  intro pins s σ H Q I h
  refine BoolOp_and (thn (ha pins s σ H _ I h) fun v s1 ⟨x, H1, I1, r1, q1⟩ => ?_)
  obtain ⟨c, rfl, q1⟩ := q1
  cases r1
  refine wpAny_truthy_bool ?_
  cases c with
  | true => exact hb pins s1 σ H1 Q I1 q1
  | false => exact ⟨.bl false, H1, I1, rfl, q1⟩
theorem pe_not (ha : PE X a ta) : PE X (.UnaryOp .Not a pos) (tNotV ta) := by
  intro pins s σ H Q I h
  refine UnaryOp_ (thn (ha pins s σ H _ I h) fun v s1 ⟨x, H1, I1, r1, q1⟩ => ?_)
  obtain ⟨c, rfl, q1⟩ := q1
  cases r1
  exact not_of (wpAny_truthy_bool ⟨.bl (!c), H1, I1, rfl, q1⟩)
/-- a if t else b -/
def tIf (t : TT) (ta tb : TE) : TE := fun σ H Q => t σ H fun c H1 => if c = true then ta σ H1 Q else tb σ H1 Q
theorem pe_ifExp {c : Expr} (hc : PT X c tA) (ha : PE X a ta) (hb : PE X b tb) : PE X (.IfExp c a b pos) (tIf tA ta tb) := by
  intro pins s σ H Q I h
  refine wpAny_IfExp (thn (hc pins s σ H _ I h) fun d s1 ⟨H1, I1, q1⟩ => ?_)
  cases d with
  | true => exact ha pins s1 σ H1 Q I1 q1
  | false => exact hb pins s1 σ H1 Q I1 q1
end
end L2

namespace L2
open PySem PySem.Spec PyProof.Rows

/-! ### a list, a tuple that is read: tracked, frozen, or an object of the module -/
def SqL (K : PySem.W.Frag) (H : Hp) (a : Addr) (xs : List V) : Prop :=
  Rd H a (.lst xs) ∨
    ∃ (o : Obj) (its : Array Value) (n : Nat), K.lookup a = some o ∧ o.cls = .type "list" ∧ o.dict = none ∧ o.data = .seq its n ∧ its.size ≤ sizeLine ∧ Vals xs its.toList
def SqT (K : PySem.W.Frag) (H : Hp) (a : Addr) (xs : List V) : Prop :=
  Rd H a (.tup xs) ∨
    ∃ (o : Obj) (its : Array Value) (n : Nat), K.lookup a = some o ∧ o.cls = .type "tuple" ∧ o.data = .seq its n ∧ its.size ≤ sizeLine ∧ Vals xs its.toList
def absV : Value → Option V
  | .none => some .non
  | .bool b => some (.bl b)
  | .int i _ => some (.int i)
  | .str x _ => some (.str x)
  | .bytes b _ => some (.byt b)
  | .float b _ => some (.flt b)
  | .ref a => some (.ref a)
  | .type n => some (.ty n)
  | _ => none
theorem RelV.abs {x : V} {u : Value} (r : RelV x u) : absV u = some x := by
  cases x with
  | non => cases r; rfl
  | bl _ => cases r; rfl
  | int _ => obtain ⟨t, rfl⟩ := r; rfl
  | str _ => obtain ⟨t, rfl⟩ := r; rfl
  | byt _ => obtain ⟨t, rfl⟩ := r; rfl
  | flt _ => obtain ⟨t, rfl⟩ := r; rfl
  | ref _ => cases r; rfl
  | ty _ => cases r; rfl
theorem RelV.inj {x y : V} {u : Value} (r : RelV x u) (q : RelV y u) : x = y := Option.some.inj (r.abs.symm.trans q.abs)
theorem Vals.inj : ∀ {xs ys : List V} {us : List Value}, Vals xs us → Vals ys us → xs = ys
  | _, _, _, .nil, .nil => rfl
  | _, _, _, .cons r t, .cons r' t' => by rw [r.inj r', Vals.inj t t']
section
variable {X : Cx} {pins : List (Addr × Obj)} {σ : St} {H : Hp} {s : Shared} {a : Addr} {xs ys : List V}
theorem SqL.of {K : PySem.W.Frag} (h : H a = some (.lst xs)) : SqL K H a xs := .inl (.inl h)
theorem SqT.of {K : PySem.W.Frag} (h : H a = some (.tup xs)) : SqT K H a xs := .inl (.inl h)
theorem Inv.list (I : Inv X pins σ H s) (h : SqL X.K H a xs) : ∃ its : List Value, Vals xs its ∧ PlainL s.heap a its.toArray ∧ xs.length ≤ sizeLine := by
  rcases h with h | ⟨o, its, n, hk, hc, hd, hs, hz, r⟩
  · obtain ⟨z, its, n, r, e⟩ := h.ok I.hok
    exact ⟨its, r, ⟨_, n, e, rfl, rfl, rfl⟩, z⟩
  · refine ⟨its.toList, r, ⟨o, n, I.kIn a o hk, hc, hd, by simpa using hs⟩, ?_⟩
    have e := r.length
    simp only [Array.length_toList] at e
    omega
theorem Inv.tuple (I : Inv X pins σ H s) (h : SqT X.K H a xs) : ∃ its : List Value, Vals xs its ∧ IsTup s.heap a its.toArray ∧ xs.length ≤ sizeLine := by
  rcases h with h | ⟨o, its, n, hk, hc, hs, hz, r⟩
  · obtain ⟨z, its, r, p⟩ := h.ok I.hok
    exact ⟨its, r, p, z⟩
  · refine ⟨its.toList, r, ⟨o, I.kIn a o hk, hc, n, by simpa using hs⟩, ?_⟩
    have e := r.length
    simp only [Array.length_toList] at e
    omega
theorem Inv.list_inj (I : Inv X pins σ H s) (h : SqL X.K H a xs) (h' : SqL X.K H a ys) : xs = ys := by
  obtain ⟨its, r, ⟨o, n, e, _, _, d⟩, _⟩ := I.list h
  obtain ⟨its', r', ⟨o', n', e', _, _, d'⟩, _⟩ := I.list h'
  rw [e] at e'; cases e'
  rw [d] at d'
  injection d' with d1 _
  have : its = its' := by simpa using congrArg Array.toList d1
  subst this
  exact r.inj r'
end

/-! ### another wish about exceptions -/
abbrev Cx.wish (X : Cx) (E : Value → Shared → Prop) : Cx := { X with xe := E }
/-- no exception leaves -/
abbrev Cx.nox (X : Cx) : Cx := X.wish fun _ _ => False
theorem Cx.Ok.wish {X : Cx} (ok : X.Ok) (E : Value → Shared → Prop) : (X.wish E).Ok :=
  ⟨ok.mod, ok.kind, ok.glob, ok.blt, ok.above, ok.inj, ok.has, ok.cab, ok.hd, ok.frames, ok.stk, ok.exf, ok.bs, ok.bsz, ok.noex, ok.exfs, ok.funs, ok.frf⟩
theorem Cx.Ok.unwish {X : Cx} {E : Value → Shared → Prop} (ok : (X.wish E).Ok) : X.Ok :=
  ⟨ok.mod, ok.kind, ok.glob, ok.blt, ok.above, ok.inj, ok.has, ok.cab, ok.hd, ok.frames, ok.stk, ok.exf, ok.bs, ok.bsz, ok.noex, ok.exfs, ok.funs, ok.frf⟩
section
variable {X : Cx} {pins : List (Addr × Obj)} {σ : St} {H : Hp} {s : Shared} {E : Value → Shared → Prop}
theorem Inv.wish (I : Inv X pins σ H s) (E : Value → Shared → Prop) : Inv (X.wish E) pins σ H s := ⟨I.ok.wish E, I.os, I.bare, I.base, I.loc, I.cell, I.free, I.freeC, I.pin, I.hok, I.len⟩
theorem Inv.unwish (I : Inv (X.wish E) pins σ H s) : Inv X pins σ H s := ⟨I.ok.unwish, I.os, I.bare, I.base, I.loc, I.cell, I.free, I.freeC, I.pin, I.hok, I.len⟩
theorem SP.unwish {D : Ends} {f : Flow} {s' : Shared} (h : SP (X.wish E) pins D f s') : SP X pins D f s' := by
  cases f with
  | next => obtain ⟨σ', H', I, q⟩ := h; exact ⟨σ', H', I.unwish, q⟩
  | brk => obtain ⟨σ', H', I, q⟩ := h; exact ⟨σ', H', I.unwish, q⟩
  | cont => obtain ⟨σ', H', I, q⟩ := h; exact ⟨σ', H', I.unwish, q⟩
  | ret u => obtain ⟨v, σ', H', I, r, q⟩ := h; exact ⟨v, σ', H', I.unwish, r, q⟩
theorem PSs.nox {st : List Stmt} {t : TS} (h : PSs X.nox st t) : PSs X st t := fun pins s σ H D I hw =>
  wpAny_mono (h pins s σ H D (I.wish _) hw) (fun _ _ q => q.unwish) fun _ _ z => False.elim z
end

/-! ### blocks and small statements -/
section
variable {X : Cx} {st : Stmt} {rest : List Stmt} {t u : TS} {e : Expr} {te : TE} {pos : Pos}
def tNext : TS := fun D σ H => D.nx σ H
def tSeq (t u : TS) : TS := fun D σ H => t { D with nx := u D } σ H
theorem pss_nil : PSs X [] tNext := fun _ _ σ H _ I h => wpAny_execs_nil ⟨σ, H, I, h⟩
theorem pss_cons (h1 : PS X st t) (h2 : PSs X rest u) : PSs X (st :: rest) (tSeq t u) := by
  intro pins s σ H D I h
  refine wpAny_execs_cons (thn (h1 pins s σ H { D with nx := u D } I h) fun f s1 q => ?_)
  cases f with
  | next =>
    obtain ⟨σ', H', I', q⟩ := q
    exact h2 pins s1 σ' H' D I' q
  | ret v => exact q
  | brk => exact q
  | cont => exact q
theorem pss_one (h1 : PS X st t) : PSs X [st] t := by
  intro pins s σ H D I h
  refine wpAny_execs_cons (thn (h1 pins s σ H D I h) fun f s1 q => ?_)
  cases f with
  | next => exact wpAny_execs_nil q
  | ret v => exact q
  | brk => exact q
  | cont => exact q
def tBreak : TS := fun D σ H => D.bk σ H
def tCont : TS := fun D σ H => D.ct σ H
/-- in a def's body nothing is shown -/
theorem Inv.quiet {pins : List (Addr × Obj)} {σ : St} {H : Hp} {s : Shared} (I : Inv X pins σ H s) : interactive X.env = false := by simp [interactive, I.ok.kind]
/-- an expression whose value is dropped -/
def tDrop (te : TE) : TS := fun D σ H => te σ H fun _ H1 => D.nx σ H1
theorem ps_expr (he : PE X e te) (hs : swapsWith e none pos.line X.env = pure false := by rfl) : PS X (.Expr e pos) (tDrop te) := by
  intro pins s σ H D I h
  exact wpAny_Expr_any (thn (he pins s σ H _ I h) fun v s1 ⟨x, H1, I1, r1, q1⟩ => ⟨σ, H1, I1, q1⟩) I.quiet hs
def tRet (te : TE) : TS := fun D σ H => te σ H D.rt
theorem ps_ret (he : PE X e te) : PS X (.Return (some e) pos) (tRet te) := by
  intro pins s σ H D I h
  exact wpAny_Return_some (thn (he pins s σ H _ I h) fun v s1 ⟨x, H1, I1, r1, q1⟩ => ⟨x, σ, H1, I1, r1, q1⟩)
def tRetN : TS := fun D _ H => D.rt .non H
def tIfS (c : TT) (t u : TS) : TS := fun D σ H => c σ H fun b H1 => if b = true then t D σ H1 else u D σ H1
theorem ps_if {c : Expr} {a b : List Stmt} {tc : TT} (hc : PT X c tc) (ha : PSs X a t) (hb : PSs X b u) : PS X (.If c a b pos) (tIfS tc t u) := by
  intro pins s σ H D I h
  refine wpAny_If (thn (hc pins s σ H _ I h) fun d s1 ⟨H1, I1, q1⟩ => ?_)
  cases d with
  | true => exact ha pins s1 σ H1 D I1 q1
  | false => exact hb pins s1 σ H1 D I1 q1
/-- code that the proof never comes to -/
def tNever : TS := fun _ _ _ => False
end

/-! ### targets -/
abbrev TG := V → St → Hp → (St → Hp → Prop) → Prop
abbrev TGs := List V → St → Hp → (St → Hp → Prop) → Prop
def PG (X : Cx) (target : Expr) (t : TG) : Prop :=
  ∀ (pins : List (Addr × Obj)) (s : Shared) (σ : St) (H : Hp) (v : V) (u : Value) (Q : St → Hp → Prop), Inv X pins σ H s → RelV v u → t v σ H Q →
    wpAny (model X.prog X.w) X.A (assign target X.env u) (fun _ s' => ∃ σ' H', Inv X pins σ' H' s' ∧ Q σ' H') X.xe s
/-- several targets, one after another -/
def PGs (X : Cx) (ts : List Expr) (t : TGs) : Prop :=
  ∀ (pins : List (Addr × Obj)) (s : Shared) (σ : St) (H : Hp) (vs : List V) (us : List Value) (Q : St → Hp → Prop), Inv X pins σ H s → Vals vs us → t vs σ H Q →
    wpAny (model X.prog X.w) X.A (assignInOrder ((assignEach ts X.env).map (·.2)) us) (fun _ s' => ∃ σ' H', Inv X pins σ' H' s' ∧ Q σ' H') X.xe s
/-- o[i] = v, by values -/
abbrev TSet := V → V → V → Hp → (Hp → Prop) → Prop
def PSet (X : Cx) (t : TSet) : Prop :=
  ∀ (pins : List (Addr × Obj)) (s : Shared) (σ : St) (H : Hp) (o i v : V) (ov iv u : Value) (Q : Hp → Prop), Inv X pins σ H s → RelV o ov → RelV i iv → RelV v u → t o i v H Q →
    wpAny (model X.prog X.w) X.A (setItem ov iv u) (fun _ s' => ∃ H', Inv X pins σ H' s' ∧ Q H') X.xe s
/-- a op= b, by values -/
abbrev TIp := V → V → Hp → VK → Prop
def PIp (X : Cx) (op : Operator) (t : TIp) : Prop :=
  ∀ (pins : List (Addr × Obj)) (s : Shared) (σ : St) (H : Hp) (x y : V) (v u : Value) (Q : VK), Inv X pins σ H s → RelV x v → RelV y u → t x y H Q →
    wpAny (model X.prog X.w) X.A (inplaceOp op v u) (EP X pins σ Q) X.xe s
section
variable {X : Cx} {pos : Pos}
def gName (i : Nat) : TG := fun v σ H Q => Q (σ.set i (some v)) H
theorem pg_name {i : Nat} {x : Str} (hN : X.N.Nodup) (hi : X.N[i]? = some x) (hx : Loc X.env.scope x) (hf : X.fn x = true ∨ X.env.scope.names.lookup x = some .local := by first | exact .inl rfl | exact .inr rfl | assumption) : PG X (.Name x pos) (gName i) := by
  intro pins s σ H v u Q I r h
  exact wpAny_assign_Name (store_ok I hN hi hx r (fun s' I' => ⟨_, H, I', h⟩) hf)
def gNil : TGs := fun vs σ H Q => vs = [] ∧ Q σ H
def gCons (t : TG) (u : TGs) : TGs := fun vs σ H Q => ∃ v r, vs = v :: r ∧ t v σ H fun σ' H' => u r σ' H' Q
theorem pgs_nil : PGs X [] gNil := by
  intro pins s σ H vs us Q I r h
  obtain ⟨e, h⟩ := h
  subst e
  cases r
  exact assignInOrder_nil ⟨σ, H, I, h⟩
theorem pgs_cons {e : Expr} {es : List Expr} {t : TG} {u : TGs} (h1 : PG X e t) (h2 : PGs X es u)
    (hs : (assignEach (e :: es) X.env).map (·.2) = assign e X.env :: (assignEach es X.env).map (·.2) := by rfl) : PGs X (e :: es) (gCons t u) := by
  intro pins s σ H vs us Q I r h
  obtain ⟨v, vr, e1, h⟩ := h
  subst e1
  cases r with
  | cons r rr =>
    rw [hs]
    refine assignInOrder_cons (thn (h1 pins s σ H _ _ _ I r h) fun _ s1 ⟨σ1, H1, I1, q1⟩ => ?_)
    exact h2 pins s1 σ1 H1 _ _ Q I1 rr q1
/-- (a, b, ..) = a tuple of that length -/
def gTup (K : PySem.W.Frag) (n : Nat) (t : TGs) : TG := fun v σ H Q => ∃ a xs, v = .ref a ∧ SqT K H a xs ∧ xs.length = n ∧ t xs σ H Q
theorem pg_tup {es : List Expr} {k : Nat} {t : TGs} {n : Nat} (hc : X.calm = true) (h : PGs X es t)
    (hn : (assignEach es X.env).length = n := by rfl) (hst : (assignEach es X.env).findIdx? (·.1) = none := by rfl) : PG X (.Tuple es k pos) (gTup X.K n t) := by
  intro pins s σ H v u Q I r hw
  obtain ⟨a, xs, e1, hq, hl, hw⟩ := hw
  subst e1
  cases r
  obtain ⟨its, rv, ht, hz⟩ := I.tuple hq
  refine assign_Tuple_tuple (I.ok.hd hc) ht (by simp [hn, ← hl, rv.length]) hst fun h' hx => ?_
  have I1 : Inv X pins σ H { s with heap := h' } := I.kept (t' := s.toks) fun b o e => hx b o (Nat.ne_of_lt (Heap.lt_size e)) e
  exact h pins _ σ H xs _ Q I1 (by simpa using rv) hw
/-- o[i] = .. -/
def gSub (to ti : TE) (t : TSet) : TG := fun v σ H Q => to σ H fun o H1 => ti σ H1 fun i H2 => t o i v H2 fun H3 => Q σ H3
/-- target = value -/
def tAsg (te : TE) (g : TG) : TS := fun D σ H => te σ H fun x H1 => g x σ H1 D.nx
/-- name = value -/
theorem ps_set {i : Nat} {x : Str} {e : Expr} {te : TE} {pos' : Pos} (hN : X.N.Nodup) (hi : X.N[i]? = some x) (hx : Loc X.env.scope x) (he : PE X e te) (hs : swapsWith e (some (.Name x pos')) pos.line X.env = pure false := by rfl) (hf : X.fn x = true ∨ X.env.scope.names.lookup x = some .local := by first | exact .inl rfl | exact .inr rfl | assumption) :
    PS X (.Assign [.Name x pos'] e pos) (tAsg te (gName i)) := by
  intro pins s σ H D I h
  refine wpAny_Assign_Name (thn (he pins s σ H _ I h) fun v s1 ⟨y, H1, I1, r1, q1⟩ => ?_) hs
  exact store_ok I1 hN hi hx r1 (fun s2 I2 => ⟨_, H1, I2, q1⟩) hf
/-- a, b = x, y with plain local names: stored from the right; the pair itself is not tracked (the opening rows as in PyProof/Rows/TupAssign.lean:23) -/
def tPar (i j : Nat) (ta : TA) : TS := fun D σ H => ta σ H fun vs H1 => ∃ v w, vs = [v, w] ∧ D.nx ((σ.set i (some v)).set j (some w)) H1
theorem ps_par {i j : Nat} {x y : Str} {a b : Expr} {ta : TA} {px py pt : Pos} {kt k2 pt2} (hc : X.calm = true) (hN : X.N.Nodup) (hi : X.N[i]? = some x) (hj : X.N[j]? = some y) (hij : i ≠ j)
    (hx : X.env.scope.names.lookup x = some .local) (hy : X.env.scope.names.lookup y = some .local) (ha : PA X [a, b] ta)
    (hw : swappedStores [.Tuple [.Name x px, .Name y py] kt pt] (.Tuple [a, b] k2 pt2) X.env = pure (some [x, y]))
    (hs : swapsWithSole [.Tuple [.Name x px, .Name y py] kt pt] (.Tuple [a, b] k2 pt2) pos.line X.env = pure false := by rfl) :
    PS X (.Assign [.Tuple [.Name x px, .Name y py] kt pt] (.Tuple [a, b] k2 pt2) pos) (tPar i j ta) := by
  intro pins s σ H D I h
  rw [exec_Assign_arm]
  refine wpAny_bind (wpAny_standAt ?_)
  rw [hs]
  refine wpAny_bind (wpAny_pure ?_)
  rw [if_neg (by decide)]
  refine wpAny_bind (Tuple_ (thn (ha _ pins s σ H _ I h) fun us s1 ⟨vs, H1, I1, r1, q1⟩ => ?_))
  obtain ⟨v, w, e1, q1⟩ := q1
  subst e1
  obtain ⟨u1, u2, rfl, rv, rw'⟩ : ∃ u1 u2, us = [u1, u2] ∧ RelV v u1 ∧ RelV w u2 := by
    cases r1 with
    | cons p q =>
      cases q with
      | cons p' q' =>
        cases q'
        exact ⟨_, _, rfl, p, p'⟩
  refine wpAny_newObj_type ?_ (by show 2 ≤ sizeLine; decide)
  have I2 : Inv X pins σ H1 { s1 with heap := s1.heap.push { cls := .type "tuple", data := .seq [u1, u2].toArray } } := I1.kept (t' := s1.toks) fun b o e => Heap.get?_push_of_some _ e
  rw [hw]
  refine wpAny_bind (wpAny_pure ?_)
  show wpAny (model X.prog X.w) X.A (do rule "assign.swapped-stores"; let items ← unpackItems (.ref s1.heap.objs.size) 2 none; assignInOrder [fun v => bindName X.env y v, fun v => bindName X.env x v] items.reverse; pure Flow.next) _ _ _
  refine wpAny_bind (wpAny_rule (wpAny_bind (unpackItems_tuple (items := #[u1, u2]) (I.ok.hd hc) (IsTup.new s1.heap _) fun h' hx' => ?_)))
  have I3 := I2.kept (h' := h') (t' := s1.toks) fun b o e => hx' b o (Nat.ne_of_lt (Heap.lt_size e)) e
  show wpAny _ _ (assignInOrder [fun v => bindName X.env y v, fun v => bindName X.env x v] [u2, u1] >>= fun _ => pure Flow.next) _ _ _
  refine wpAny_bind (assignInOrder_cons (wpAny_bindName (store_ok I3 hN hj (.inl hy) rw' (fun s2 I4 => ?_) (.inr hy))))
  refine assignInOrder_cons (wpAny_bindName (store_ok I4 hN hi (.inl hx) rv (fun s3 I5 => assignInOrder_nil (wpAny_pure ?_)) (.inr hx)))
  rw [List.set_comm _ _ (Ne.symm hij)] at I5
  exact ⟨_, H1, I5, q1⟩
/-- name op= e -/
def tAug (i : Nat) (te : TE) (ti : TIp) : TS := fun D σ H => ∃ x, σ[i]? = some (some x) ∧ te σ H fun y H1 => ti x y H1 fun z H2 => D.nx (σ.set i (some z)) H2
theorem ps_aug {i : Nat} {x : Str} {e : Expr} {te : TE} {op : Operator} {ti : TIp} {pos' : Pos} (hN : X.N.Nodup) (hi : X.N[i]? = some x) (hx : Loc X.env.scope x) (he : PE X e te) (ho : PIp X op ti) (hf : X.fn x = true ∨ X.env.scope.names.lookup x = some .local := by first | exact .inl rfl | exact .inr rfl | assumption) :
    PS X (.AugAssign (.Name x pos') op e pos) (tAug i te ti) := by
  intro pins s σ H D I h
  obtain ⟨v, e1, h⟩ := h
  obtain ⟨m, hn, hl⟩ := I.loc
  have vis : Vis X.env.scope x := by rcases hx with k | k; exact .inl k; exact .inr (.inl k)
  obtain ⟨u, r, l⟩ := hl i x v hi e1 vis
  refine wpAny_AugAssign_Name ?_
  have go : wpAny (model X.prog X.w) X.A (eval e X.env) (fun w s₂ => wpAny (model X.prog X.w) X.A (inplaceOp op u w) (fun r s₃ => wpAny (model X.prog X.w) X.A (storeName X.env x r) (fun _ => SP X pins D .next) X.xe s₃) X.xe s₂) X.xe s := by
    refine thn (he pins s σ H _ I h) fun w s1 ⟨y, H1, I1, r1, q1⟩ => ?_
    refine thn (ho pins s1 σ H1 v y u w _ I1 r r1 q1) fun z s2 ⟨zv, H2, I2, r2, q2⟩ => ?_
    exact store_ok I2 hN hi hx r2 (fun s3 I3 => ⟨_, H2, I3, q2⟩) hf
  rcases l with ⟨hk, hm⟩ | ⟨hk, c, hc, hcell⟩
  · exact wpAny_loadName_local I.ok.kind hk hn hm go
  · rcases hk with hk | hk
    · exact wpAny_loadName_cell I.ok.kind hk hc hcell go
    · rcases hx with k | k
      · have : X.env.scope.names.lookup x = some .free := hk
        rw [k] at this; cases this
      · have : X.env.scope.names.lookup x = some .free := hk
        rw [k] at this; cases this
/-- o[i] op= e -/
def tAugS (to ti te : TE) (tget : V → V → Hp → VK → Prop) (tip : TIp) (tset : TSet) : TS := fun D σ H => to σ H fun o H1 => ti σ H1 fun i H2 => tget o i H2 fun x H3 => te σ H3 fun y H4 => tip x y H4 fun z H5 => tset o i z H5 fun H6 => D.nx σ H6
/-- o[i], by values -/
def PGet (X : Cx) (t : V → V → Hp → VK → Prop) : Prop :=
  ∀ (pins : List (Addr × Obj)) (s : Shared) (σ : St) (H : Hp) (o i : V) (ov iv : Value) (Q : VK), Inv X pins σ H s → RelV o ov → RelV i iv → t o i H Q →
    wpAny (model X.prog X.w) X.A (getItem ov iv) (EP X pins σ Q) X.xe s
/-- ints -/
def ipI (f : Int → Int → Int) : TIp := fun x y H Q => ∃ i j, x = .int i ∧ y = .int j ∧ Q (.int (f i j)) H
theorem ip_add : PIp X .Add (ipI fun i j => i + j) := by
  intro pins s σ H x y v u Q I r1 r2 h
  obtain ⟨i, j, e1, e2, q⟩ := h
  subst e1; subst e2
  obtain ⟨t, rfl⟩ := r1
  obtain ⟨t', rfl⟩ := r2
  exact iadd_int ⟨.int _, H, I.tok _, ⟨_, rfl⟩, q⟩
end

/-! ### while -/
section
variable {X : Cx} {pos : Pos}
/-- the invariant W with its measure -/
def tWhile (c : TT) (tb : TS) : TS := fun D σ H => ∃ W : Nat → St → Hp → Prop, (∃ m, W m σ H) ∧ ∀ m σ H, W m σ H →
  c σ H fun b H1 => if b = true then ∃ N : St → Hp → Prop, (∀ σ' H', N σ' H' → ∃ m', m' < m ∧ W m' σ' H') ∧ tb { D with nx := N, ct := N, bk := D.nx } σ H1 else D.nx σ H1
theorem ps_while {c : Expr} {body : List Stmt} {tc : TT} {tb : TS} (hp : PassesOwn (model X.prog X.w) X.A X.env X.xe) (hc : PT X c tc) (hb : PSs X body tb) : PS X (.While c body [] pos) (tWhile tc tb) := by
  intro pins s σ H D I h
  obtain ⟨W, ⟨m0, w0⟩, turn⟩ := h
  refine wpAny_While (codeAny_whileLoop (fun n s' => ∃ σ' H', Inv X pins σ' H' s' ∧ W n σ' H') ?_ m0 ⟨σ, H, I, w0⟩)
  rintro n s1 ⟨σ1, H1, I1, w1⟩
  refine wpAny_passesOwn hp (thn (hc pins s1 σ1 H1 _ I1 (turn n σ1 H1 w1)) fun b s2 ⟨H2, I2, q2⟩ => ?_)
  cases b with
  | true =>
    obtain ⟨N, hN, q2⟩ := q2
    rw [if_pos rfl]
    refine wpAny_passesOwn hp (thn (hb pins s2 σ1 H2 _ I2 q2) fun f s3 q3 => ?_)
    cases f with
    | next =>
      obtain ⟨σ3, H3, I3, n3⟩ := q3
      obtain ⟨m', hm, w3⟩ := hN σ3 H3 n3
      exact ⟨m', hm, σ3, H3, I3, w3⟩
    | cont =>
      obtain ⟨σ3, H3, I3, n3⟩ := q3
      obtain ⟨m', hm, w3⟩ := hN σ3 H3 n3
      exact ⟨m', hm, σ3, H3, I3, w3⟩
    | brk => exact q3
    | ret v => exact q3
  | false =>
    rw [if_neg Bool.false_ne_true]
    exact wpAny_execs_nil ⟨σ1, H2, I2, q2⟩
end

/-! ### what a loop or a comprehension walks -/
/-- at turn i: it yields x (the heap may grow), or it stops -/
structure It where
  go : Nat → Hp → Prop
  yld : Nat → Hp → V → Hp → Prop
  stop : Nat → Hp → Prop
/-- the iterator's own objects may turn: they are not the frame's, not pinned, younger than the entry (or a comprehension's own) -/
def FpOk (X : Cx) (pins : List (Addr × Obj)) (H : Hp) (b : Addr) : Prop :=
  H b = none ∧ b ≠ X.env.locals ∧ b ∉ X.fs ∧ (b ∈ X.ex ∨ X.s₀.heap.objs.size ≤ b) ∧ (∀ x c, X.env.cells.lookup x = some c → c ≠ b) ∧ ∀ p ∈ X.pn ++ pins, p.1 ≠ b
theorem Inv.fpOk {X : Cx} {pins : List (Addr × Obj)} {σ : St} {H H' : Hp} {s : Shared} {b : Addr} (I : Inv X pins σ H s) (hb : s.heap.objs.size ≤ b) (hn : H' b = none) : FpOk X pins H' b := by
  refine ⟨hn, Nat.ne_of_gt (Nat.lt_of_lt_of_le I.lt hb), I.nofs hb, .inr (Nat.le_trans I.sz hb), fun x c e z => ?_, fun p hp z => ?_⟩
  · obtain ⟨v, q⟩ := I.cell x c e
    exact absurd (Nat.lt_of_lt_of_le q.lt (by rw [z]; exact hb)) (Nat.lt_irrefl _)
  · exact absurd (Nat.lt_of_lt_of_le (Heap.lt_size (I.pin p hp).1) (by rw [z]; exact hb)) (Nat.lt_irrefl _)
structure Turn (P : Program) (w : World) (K : PySem.W.Frag) (tg : Expr) (J : It) (fp : List Addr) (it : Addr) (tn : Nat → Heap → Prop) : Prop where
  mem : it ∈ fp
  obj : ∀ i h, tn i h → ∀ b ∈ fp, ∃ o, h.get? b = some o ∧ ∀ v, o.data ≠ .cell v
  keep : ∀ i h h', tn i h → (∀ b ∈ fp, ∀ o, h.get? b = some o → h'.get? b = some o) → tn i h'
  item : ∀ (X : Cx), X.prog = P → X.w = w → X.K = K → X.calm = true → ∀ (i : Nat) (pins : List (Addr × Obj)) (s : Shared) (σ : St) (H : Hp) (E : Value → Shared → Prop), Inv X pins σ H s → (∀ b ∈ fp, FpOk X pins H b) → tn i s.heap → J.go i H →
    wpAny (model P w) X.A (pyNext (.ref it)) (fun r s1 => ∃ u, r = some u ∧
      wpAny (model P w) X.A (letOwnedTupleGo tg (.ref it) u) (fun _ s2 => ∃ x H', Inv X pins σ H' s2 ∧ RelV x u ∧ J.yld i H x H' ∧ tn (i + 1) s2.heap ∧ ∀ b ∈ fp, H' b = none) E s1) E s
  done : ∀ (X : Cx), X.prog = P → X.w = w → X.K = K → X.calm = true → ∀ (i : Nat) (pins : List (Addr × Obj)) (s : Shared) (σ : St) (H : Hp) (E : Value → Shared → Prop), Inv X pins σ H s → (∀ b ∈ fp, FpOk X pins H b) → tn i s.heap → J.stop i H →
    wpAny (model P w) X.A (pyNext (.ref it)) (fun r s1 => r = none ∧ Inv X pins σ H s1) E s
  self : ∀ (A : Around) (i : Nat) (s : Shared) (Q : Value → Shared → Prop) (E : Value → Shared → Prop), tn i s.heap → Q (.ref it) s → wpAny (model P w) A (pyIter (.ref it)) Q E s
abbrev TI := St → Hp → (It → Hp → Prop) → Prop
/-- an iterator has come -/
def PIE (X : Cx) (pins : List (Addr × Obj)) (σ : St) (tg : Expr) (R : It → Hp → Prop) (itv : Value) (s2 : Shared) : Prop :=
  ∃ (it : Addr) (fp : List Addr) (tn : Nat → Heap → Prop) (J : It) (H' : Hp), itv = .ref it ∧ Inv X pins σ H' s2 ∧ Turn X.prog X.w X.K tg J fp it tn ∧ tn 0 s2.heap ∧ (∀ b ∈ fp, FpOk X pins H' b) ∧ R J H'
def PI (X : Cx) (tg iter : Expr) (wi : TI) : Prop :=
  ∀ (pins : List (Addr × Obj)) (s : Shared) (σ : St) (H : Hp) (R : It → Hp → Prop), Inv X pins σ H s → wi σ H R →
    wpAny (model X.prog X.w) X.A (eval iter X.env) (fun v s1 => wpAny (model X.prog X.w) X.A (pyIter v) (PIE X pins σ tg R) X.xe s1) X.xe s

/-- the step ahead of the store is nothing for an iterator that keeps no tuple -/
theorem go_of {M : Model} {A : Around} {E : Value → Shared → Prop} {s : Shared} {tg : Expr} {it : Addr} {u : Value} {o : Obj} {n : String} {vs : Array Value} {Q : Unit → Shared → Prop} (ho : s.heap.get? it = some o) (hc : o.cls = .type n) (hd : o.data = .fields vs)
    (hn : ["enumerate", "zip", "dict_itemiterator", "dict_reverseitemiterator", "odict_iterator", "itertools.zip_longest", "itertools.pairwise"].contains n = false) (hQ : Q () s) : wpAny M A (letOwnedTupleGo tg (.ref it) u) Q E s := by
  unfold letOwnedTupleGo
  cases tg <;> first
    | exact wpAny_pure hQ
    | (cases u <;> first
        | exact wpAny_pure hQ
        | (refine wpAny_bind (wpAny_load ho ?_)
           rw [hc, hd]
           show wpAny M A (if (["enumerate", "zip", "dict_itemiterator", "dict_reverseitemiterator", "odict_iterator", "itertools.zip_longest", "itertools.pairwise"].contains n && vs[0]? == some (rawInt _)) = true then _ else _) Q E s
           rw [if_neg (by intro h; rw [hn, Bool.false_and] at h; cases h)]
           exact wpAny_pure hQ))

/-- the list at a, as it stands at each turn (a loop may append to it) -/
def Itl (K : PySem.W.Frag) (a : Addr) : It :=
  ⟨fun i H => ∃ xs x, SqL K H a xs ∧ xs[i]? = some x, fun i H x H' => H' = H ∧ ∀ xs, SqL K H a xs → xs[i]? = some x, fun i H => ∃ xs, SqL K H a xs ∧ xs.length ≤ i⟩
def Itt (K : PySem.W.Frag) (a : Addr) : It :=
  ⟨fun i H => ∃ xs x, SqT K H a xs ∧ xs[i]? = some x, fun i H x H' => H' = H ∧ ∀ xs, SqT K H a xs → xs[i]? = some x, fun i H => ∃ xs, SqT K H a xs ∧ xs.length ≤ i⟩
/-- lo, lo + 1, .. (n of them) -/
def Itr (lo : Int) (n : Nat) : It := ⟨fun i _ => i < n, fun i H x H' => H' = H ∧ x = .int (lo + i), fun i _ => n ≤ i⟩
theorem turn_list {P : Program} {w : World} {K : PySem.W.Frag} {tg : Expr} (a it : Addr) : Turn P w K tg (Itl K a) [it] it (fun i h => h.IsListIter it a i) where
  mem := by simp
  obj := fun i h st b hb => by
    have e : b = it := by simpa using hb
    subst e
    obtain ⟨o, e, c, d⟩ := st
    exact ⟨o, e, fun v z => by rw [d] at z; cases z⟩
  keep := fun i h h' st k => st.at fun o e => k it (by simp) o e
  item := by
    intro X hP hw hK hc i pins s σ H E I hf st hg
    subst hP hw hK
    obtain ⟨xs, x, hq, hx⟩ := hg
    obtain ⟨its, rv, p, hz⟩ := I.list hq
    obtain ⟨u, hu, ru⟩ := rv.get hx
    obtain ⟨f0, f1, f2, f3, f4, f5⟩ := hf it (by simp)
    refine wpAny_pyNext_list_item st p.isList (x := u) (by simpa using hu) fun h' st' sb => ?_
    have I1 : Inv X pins σ H { s with heap := h' } := I.turned (t' := s.toks) (fun b o hb e => (sb.2 b hb).trans e) f0 f1 f3 f4 f5
    obtain ⟨o, e, c, d⟩ := id st'
    exact ⟨u, rfl, go_of (s := { s with heap := h' }) e c d (by decide) ⟨x, H, I1, ru, ⟨rfl, fun ys hy => by rw [I.list_inj hy hq]; exact hx⟩, st', fun b hb => (hf b hb).1⟩⟩
  done := by
    intro X hP hw hK hc i pins s σ H E I hf st hg
    subst hP hw hK
    obtain ⟨xs, hq, hx⟩ := hg
    obtain ⟨its, rv, p, hz⟩ := I.list hq
    obtain ⟨f0, f1, f2, f3, f4, f5⟩ := hf it (by simp)
    have hl := rv.length
    exact wpAny_pyNext_list_end (I.ok.hd hc) st p.isList (by simp; omega) fun h' eb => ⟨rfl, I.turned (t' := s.toks) (fun b o hb e => eb b o hb e) f0 f1 f3 f4 f5⟩
  self := fun _ _ _ _ _ st h => wpAny_pyIter_listiter st h
theorem turn_range {P : Program} {w : World} {K : PySem.W.Frag} {tg : Expr} (it : Addr) (lo : Int) (n : Nat) : Turn P w K tg (Itr lo n) [it] it (fun i h => IsRangeIter h it (lo + (i : Nat) * 1) ((n : Int) - (i : Nat)) 1) where
  mem := by simp
  obj := fun i h st b hb => by
    have e : b = it := by simpa using hb
    subst e
    exact ⟨_, st, fun v z => by
      have z' : Data.fields _ = Data.cell v := z
      cases z'⟩
  keep := fun i h h' st k => k it (by simp) _ st
  item := by
    intro X hP hw hK hc i pins s σ H E I hf st hg
    subst hP hw hK
    obtain ⟨f0, f1, f2, f3, f4, f5⟩ := hf it (by simp)
    have W := Walks.range (prog := X.prog) (w := X.w) (I.ok.hd hc) it lo 1 n
    refine W.item i s _ _ hg st fun v h' tk hv st' kk => ?_
    obtain ⟨t, rfl⟩ := hv
    have I1 : Inv X pins σ H { s with heap := h', toks := tk } := I.turned (fun b o hb e => kk b o (by simpa using hb) e) f0 f1 f3 f4 f5
    refine ⟨_, rfl, go_of (s := { s with heap := h', toks := tk }) (n := "range_iterator") st' rfl rfl (by decide) ⟨.int (lo + i), H, I1, ⟨t, ?_⟩, ⟨rfl, rfl⟩, st', fun b hb => (hf b hb).1⟩⟩
    rw [Int.mul_one]
  done := by
    intro X hP hw hK hc i pins s σ H E I hf st hg
    subst hP hw hK
    obtain ⟨f0, f1, f2, f3, f4, f5⟩ := hf it (by simp)
    exact wpAny_pyNext_range_end (I.ok.hd hc) st (by have : n ≤ i := hg; omega) fun h' eb => ⟨rfl, I.turned (t' := s.toks) (fun b o hb e => eb b o hb e) f0 f1 f3 f4 f5⟩
  self := fun _ _ _ _ _ st h => wpAny_pyIter_rangeiter st h
end L2

namespace L2
open PySem PySem.Spec PyProof.Rows
section
variable {X : Cx} {tg : Expr}
def iList (K : PySem.W.Frag) (tl : TE) : TI := fun σ H R => tl σ H fun x H1 => ∃ a, x = .ref a ∧ (∃ xs, SqL K H1 a xs) ∧ R (Itl K a) H1
def iTup (K : PySem.W.Frag) (tl : TE) : TI := fun σ H R => tl σ H fun x H1 => ∃ a, x = .ref a ∧ (∃ xs, SqT K H1 a xs) ∧ R (Itt K a) H1
theorem pi_list {l : Expr} {tl : TE} (hl : PE X l tl) : PI X tg l (iList X.K tl) := by
  intro pins s σ H R I h
  refine thn (hl pins s σ H _ I h) fun v s1 ⟨x, H1, I1, r1, q1⟩ => ?_
  obtain ⟨a, e, ⟨xs, hq⟩, q⟩ := q1
  subst e
  cases r1
  obtain ⟨its, rv, p, hz⟩ := I1.list hq
  refine wpAny_pyIter_list p.isList ?_
  refine ⟨s1.heap.objs.size, [s1.heap.objs.size], _, _, H1, rfl, I1.kept (t' := s1.toks) fun b o e => Heap.get?_push_of_some _ e, turn_list a _, ⟨_, Heap.get?_push_size _ rfl, rfl, rfl⟩, fun b hb => ?_, q⟩
  have e : b = s1.heap.objs.size := by simpa using hb
  subst e
  exact I1.fpOk (Nat.le_refl _) (I1.hok.fresh (Nat.le_refl _))
/-- a range object just made, walked -/
theorem range_it {pins : List (Addr × Obj)} {σ : St} {H : Hp} {s : Shared} {R : It → Hp → Prop} {E : Value → Shared → Prop} {lo hi : Int} {t u v : Tok} {tk : Nat} (I : Inv X pins σ H s) (h1 : -(2 ^ 62) ≤ lo) (h2 : lo < 2 ^ 62) (h3 : -(2 ^ 62) ≤ hi) (h4 : hi < 2 ^ 62)
    (q : R (Itr lo (hi - lo).toNat) H) : wpAny (model X.prog X.w) X.A (pyIter (.ref s.heap.objs.size)) (PIE X pins σ tg R) E { s with heap := s.heap.push { cls := .type "range", data := .fields #[.int lo t, .int hi u, .int 1 v] }, toks := tk } := by
  refine wpAny_pyIter_range (IsRange.new ..) (small_one h1 h2 h3 h4) ?_
  have I1 : Inv X pins σ H { s with heap := s.heap.push { cls := .type "range", data := .fields #[.int lo t, .int hi u, .int 1 v] }, toks := tk } := I.kept fun b o e => Heap.get?_push_of_some _ e
  refine ⟨(s.heap.push { cls := .type "range", data := .fields #[.int lo t, .int hi u, .int 1 v] }).objs.size, [(s.heap.push { cls := .type "range", data := .fields #[.int lo t, .int hi u, .int 1 v] }).objs.size], _, _, H, rfl,
    I1.kept (t' := tk) fun b o e => Heap.get?_push_of_some _ e, turn_range _ lo (hi - lo).toNat, ?_, fun b hb => ?_, q⟩
  · have e1 : lo + ((0 : Nat) : Int) * 1 = lo := by simp
    have e2 : (((hi - lo).toNat : Nat) : Int) - ((0 : Nat) : Int) = Builtin.Range.rangeSize lo hi 1 := by rw [rangeSize_one]; split <;> omega
    show IsRangeIter _ _ (lo + ((0 : Nat) : Int) * 1) ((((hi - lo).toNat : Nat) : Int) - ((0 : Nat) : Int)) 1
    rw [e1, e2]
    exact Heap.get?_push_size _ rfl
  · have e : b = (s.heap.push { cls := .type "range", data := .fields #[.int lo t, .int hi u, .int 1 v] }).objs.size := by simpa using hb
    subst e
    exact I1.fpOk (Nat.le_refl _) (I1.hok.fresh (Nat.le_refl _))
def iRng1 (ta : TA) : TI := fun σ H R => ta σ H fun vs H1 => ∃ j : Int, vs = [.int j] ∧ -(2 ^ 62) ≤ j ∧ j < 2 ^ 62 ∧ R (Itr 0 j.toNat) H1
def iRng2 (ta : TA) : TI := fun σ H R => ta σ H fun vs H1 => ∃ i j : Int, vs = [.int i, .int j] ∧ (-(2 ^ 62) ≤ i ∧ i < 2 ^ 62 ∧ -(2 ^ 62) ≤ j ∧ j < 2 ^ 62) ∧ R (Itr i (j - i).toNat) H1
theorem pi_range1 {a : Expr} {ta : TA} {p pos : Pos} (hg : Gl X "range") (hm : X.mg "range" = none) (ha : PA X [a] ta) (hs : starEach [a] X.env = [(false, eval a X.env)] := by rfl) : PI X tg (.Call (.Name "range" p) [a] [] pos) (iRng1 ta) := by
  intro pins s σ H R I h
  refine Call_ (ld_blt I hg hm boot_range (PyProof.Rows.callWith_type1 (thn (ha pos pins s σ H _ I h) fun us s1 ⟨vs, H1, I1, r1, q1⟩ => ?_) hs rfl))
  obtain ⟨j, e, q1, q2, q⟩ := q1
  subst e
  cases r1 with
  | cons r rr =>
    cases rr
    obtain ⟨t, rfl⟩ := r
    exact call_range_1 (range_it I1 (by omega) (by omega) q1 q2 (by simpa using q))

/-! ### for -/
/-- W: the invariant by the turn and a measure; N: what the body is to reach -/
def tFor (wi : TI) (g : TG) (tb : TS) : TS := fun D σ H => wi σ H fun J H1 => ∃ W : Nat → Nat → St → Hp → Prop, (∃ m, W 0 m σ H1) ∧ ∀ i m σ H, W i m σ H →
  (J.stop i H ∧ D.nx σ H) ∨ (J.go i H ∧ ∃ N : St → Hp → Prop, (∀ σ' H', N σ' H' → ∃ m', m' < m ∧ W (i + 1) m' σ' H') ∧ ∀ x H', J.yld i H x H' → g x σ H' fun σ2 H2 => tb { D with nx := N, ct := N, bk := D.nx } σ2 H2)
/-- the records at fp as they stand -/
def pinsAt (fp : List Addr) (h : Heap) : List (Addr × Obj) := fp.filterMap fun b => (h.get? b).map fun o => (b, o)
theorem mem_pinsAt {fp : List Addr} {h : Heap} {b : Addr} {o : Obj} (hb : b ∈ fp) (e : h.get? b = some o) : (b, o) ∈ pinsAt fp h := List.mem_filterMap.mpr ⟨b, hb, by rw [e]; rfl⟩
theorem of_pinsAt {fp : List Addr} {h : Heap} {p : Addr × Obj} (hp : p ∈ pinsAt fp h) : p.1 ∈ fp ∧ h.get? p.1 = some p.2 := by
  obtain ⟨b, hb, e⟩ := List.mem_filterMap.mp hp
  cases q : h.get? b with
  | none => rw [q] at e; cases e
  | some o =>
    rw [q] at e
    have e' : (b, o) = p := Option.some.inj e
    subst e'
    exact ⟨hb, q⟩
theorem Inv.pinned {pins : List (Addr × Obj)} {σ : St} {H : Hp} {s : Shared} {fp : List Addr} (I : Inv X pins σ H s) (hf : ∀ b ∈ fp, FpOk X pins H b) (ho : ∀ b ∈ fp, ∃ o, s.heap.get? b = some o ∧ ∀ v, o.data ≠ .cell v) : Inv X (pins ++ pinsAt fp s.heap) σ H s :=
  I.pins_of fun p hp => (List.mem_append.mp hp).elim (fun z => I.pin p (List.mem_append_right _ z)) fun z => by
    obtain ⟨hb, e⟩ := of_pinsAt z
    obtain ⟨f0, f1, f2, _⟩ := hf p.1 hb
    obtain ⟨o, e', d⟩ := ho p.1 hb
    rw [e] at e'; cases e'
    exact ⟨e, f0, f1, f2, d⟩
theorem Inv.unpinned {pins pl : List (Addr × Obj)} {σ : St} {H : Hp} {s : Shared} (I : Inv X (pins ++ pl) σ H s) : Inv X pins σ H s := I.pins_of fun p hp => I.pin p (List.mem_append_right _ (List.mem_append_left _ hp))
theorem ps_for {iter : Expr} {body : List Stmt} {wi : TI} {g : TG} {tb : TS} {pos : Pos} (hp : PassesOwn (model X.prog X.w) X.A X.env X.xe) (hc : X.calm = true) (hi : PI X tg iter wi) (hg : PG X tg g) (hb : PSs X body tb)
    (hs : ∀ x, foldedSetIterable iter X.env x = pure x := by intro _; rfl) : PS X (.For tg iter body [] pos) (tFor wi g tb) := by
  intro pins s σ H D I h
  refine wpAny_For (thn (hi pins s σ H _ I h) fun v s1 h1 => thn h1 fun itv s2 h2 => ?_) hs
  obtain ⟨it, fp, tn, J, H2, e, I2, T, st2, f2, W, ⟨m0, w0⟩, turn⟩ := h2
  subst e
  -- what stays true of the iterator's objects through the loop
  have stat : ∀ {H' : Hp}, (∀ b ∈ fp, H' b = none) → ∀ b ∈ fp, FpOk X pins H' b := fun hn b hb => ⟨hn b hb, (f2 b hb).2⟩
  refine codeAny_forLoop_any (fun n s' => ∃ i σ' H', Inv X pins σ' H' s' ∧ tn i s'.heap ∧ (∀ b ∈ fp, H' b = none) ∧ W i n σ' H') ?_ m0 ⟨0, σ, H2, I2, st2, fun b hb => (f2 b hb).1, w0⟩
  rintro n s3 ⟨i, σ3, H3, I3, st3, fr3, w3⟩
  rcases turn i n σ3 H3 w3 with ⟨stop, qn⟩ | ⟨go, N, hN, step⟩
  · refine wpAny_passesOwn hp (thn (T.done X rfl rfl rfl hc i pins s3 σ3 H3 X.xe I3 (stat fr3) st3 stop) fun r s4 ⟨hr, I4⟩ => ?_)
    subst hr
    exact wpAny_execs_nil ⟨σ3, H3, I4, qn⟩
  · refine wpAny_passesOwn hp (thn (T.item X rfl rfl rfl hc i pins s3 σ3 H3 X.xe I3 (stat fr3) st3 go) fun r s4 ⟨u, hr, h4⟩ => ?_)
    subst hr
    refine wpAny_passesOwn hp (thn h4 fun _ s5 ⟨x, H5, I5, r5, y5, st5, fr5⟩ => ?_)
    have I5' := I5.pinned (stat fr5) (T.obj _ _ st5)
    refine wpAny_passesOwn hp (thn (hg _ s5 σ3 H5 x u _ I5' r5 (step x H5 y5)) fun _ s6 ⟨σ6, H6, I6, q6⟩ => ?_)
    refine wpAny_passesOwn hp (thn (hb _ s6 σ6 H6 _ I6 q6) fun f s7 q7 => ?_)
    have again : ∀ {σ7 : St} {H7 : Hp}, Inv X (pins ++ pinsAt fp s5.heap) σ7 H7 s7 → N σ7 H7 → ∃ m, m < n ∧ ∃ i σ' H', Inv X pins σ' H' s7 ∧ tn i s7.heap ∧ (∀ b ∈ fp, H' b = none) ∧ W i m σ' H' := fun {σ7 H7} I7 n7 => by
      obtain ⟨m', hm, w7⟩ := hN σ7 H7 n7
      refine ⟨m', hm, i + 1, σ7, H7, I7.unpinned, T.keep _ _ _ st5 fun b hb o e => (I7.pin (b, o) (List.mem_append_right _ (List.mem_append_right _ (mem_pinsAt hb e)))).1, fun b hb => ?_, w7⟩
      obtain ⟨o, e, d⟩ := T.obj _ _ st5 b hb
      exact (I7.pin (b, o) (List.mem_append_right _ (List.mem_append_right _ (mem_pinsAt hb e)))).2.1
    cases f with
    | next => obtain ⟨σ7, H7, I7, n7⟩ := q7; exact again I7 n7
    | cont => obtain ⟨σ7, H7, I7, n7⟩ := q7; exact again I7 n7
    | brk => obtain ⟨σ7, H7, I7, q7⟩ := q7; exact ⟨σ7, H7, I7.unpinned, q7⟩
    | ret v => obtain ⟨x7, σ7, H7, I7, r7, q7⟩ := q7; exact ⟨x7, σ7, H7, I7.unpinned, r7, q7⟩
end

/-! ### the forms one uses -/
/-- over a list that the body leaves as it is -/
theorem for_list {K : PySem.W.Frag} {a : Addr} {xs : List V} {g : TG} {tb : TS} {D : Ends} {σ : St} {H : Hp} (Pv : Nat → St → Hp → Prop) (h0 : Pv 0 σ H) (hl : ∀ i σ H, i ≤ xs.length → Pv i σ H → SqL K H a xs)
    (hs : ∀ i x σ H, xs[i]? = some x → Pv i σ H → g x σ H fun σ2 H2 => tb { D with nx := Pv (i + 1), ct := Pv (i + 1), bk := D.nx } σ2 H2) (hd : ∀ σ H, Pv xs.length σ H → D.nx σ H) :
    ∃ W : Nat → Nat → St → Hp → Prop, (∃ m, W 0 m σ H) ∧ ∀ i m σ H, W i m σ H →
      ((Itl K a).stop i H ∧ D.nx σ H) ∨ ((Itl K a).go i H ∧ ∃ N : St → Hp → Prop, (∀ σ' H', N σ' H' → ∃ m', m' < m ∧ W (i + 1) m' σ' H') ∧ ∀ x H', (Itl K a).yld i H x H' → g x σ H' fun σ2 H2 => tb { D with nx := N, ct := N, bk := D.nx } σ2 H2) := by
  refine ⟨fun i m σ H => m = xs.length - i ∧ i ≤ xs.length ∧ Pv i σ H, ⟨xs.length, by simp, Nat.zero_le _, h0⟩, ?_⟩
  rintro i m σ H ⟨rfl, hi, p⟩
  have q := hl i σ H hi p
  by_cases hlt : i < xs.length
  · refine .inr ⟨⟨xs, xs[i], q, by simp [hlt]⟩, Pv (i + 1), fun σ' H' p' => ⟨xs.length - (i + 1), by omega, rfl, hlt, p'⟩, fun x H' y => ?_⟩
    obtain ⟨e, y⟩ := y
    subst e
    exact hs i x σ _ (y xs q) p
  · have e : i = xs.length := by omega
    subst e
    exact .inl ⟨⟨xs, q, Nat.le_refl _⟩, hd σ H p⟩
theorem for_range {lo : Int} {n : Nat} {g : TG} {tb : TS} {D : Ends} {σ : St} {H : Hp} (Pv : Nat → St → Hp → Prop) (h0 : Pv 0 σ H)
    (hs : ∀ i σ H, i < n → Pv i σ H → g (.int (lo + i)) σ H fun σ2 H2 => tb { D with nx := Pv (i + 1), ct := Pv (i + 1), bk := D.nx } σ2 H2) (hd : ∀ σ H, Pv n σ H → D.nx σ H) :
    ∃ W : Nat → Nat → St → Hp → Prop, (∃ m, W 0 m σ H) ∧ ∀ i m σ H, W i m σ H →
      ((Itr lo n).stop i H ∧ D.nx σ H) ∨ ((Itr lo n).go i H ∧ ∃ N : St → Hp → Prop, (∀ σ' H', N σ' H' → ∃ m', m' < m ∧ W (i + 1) m' σ' H') ∧ ∀ x H', (Itr lo n).yld i H x H' → g x σ H' fun σ2 H2 => tb { D with nx := N, ct := N, bk := D.nx } σ2 H2) := by
  refine ⟨fun i m σ H => m = n - i ∧ i ≤ n ∧ Pv i σ H, ⟨n, by simp, Nat.zero_le _, h0⟩, ?_⟩
  rintro i m σ H ⟨rfl, hi, p⟩
  by_cases hlt : i < n
  · refine .inr ⟨hlt, Pv (i + 1), fun σ' H' p' => ⟨n - (i + 1), by omega, rfl, hlt, p'⟩, fun x H' y => ?_⟩
    obtain ⟨e, y⟩ := y
    subst e y
    exact hs i σ _ hlt p
  · have e : i = n := by omega
    subst e
    exact .inl ⟨Nat.le_refl _, hd σ H p⟩
end L2

namespace L2
open PySem PySem.Spec PyProof.Rows

abbrev R2 := V → V → Hp → VK → Prop
/-- a two-place operation on values: f is binaryOp op, inplaceOp op or compareOp op -/
def OpR (X : Cx) (f : Value → Value → Sem Value) (r : R2) : Prop :=
  ∀ (pins : List (Addr × Obj)) (s : Shared) (σ : St) (H : Hp) (x y : V) (v u : Value) (Q : VK), Inv X pins σ H s → RelV x v → RelV y u → r x y H Q →
    wpAny (model X.prog X.w) X.A (f v u) (EP X pins σ Q) X.xe s
/-- a one-place operation -/
def UnR (X : Cx) (f : Value → Sem Value) (r : V → Hp → VK → Prop) : Prop :=
  ∀ (pins : List (Addr × Obj)) (s : Shared) (σ : St) (H : Hp) (x : V) (v : Value) (Q : VK), Inv X pins σ H s → RelV x v → r x H Q →
    wpAny (model X.prog X.w) X.A (f v) (EP X pins σ Q) X.xe s
/-- a call of a value that is known (a builtin, a type) with values -/
def CallR (X : Cx) (f : Value) (r : List V → Hp → VK → Prop) : Prop :=
  ∀ (pins : List (Addr × Obj)) (s : Shared) (σ : St) (H : Hp) (xs : List V) (us : List Value) (Q : VK), Inv X pins σ H s → Vals xs us → r xs H Q →
    wpAny (model X.prog X.w) X.A (call f us) (EP X pins σ Q) X.xe s
/-- a value's truth -/
def TruR (X : Cx) (r : V → Hp → (Bool → Hp → Prop) → Prop) : Prop :=
  ∀ (pins : List (Addr × Obj)) (s : Shared) (σ : St) (H : Hp) (x : V) (v : Value) (Q : Bool → Hp → Prop), Inv X pins σ H s → RelV x v → r x H Q →
    wpAny (model X.prog X.w) X.A (truthy v) (TP X pins σ Q) X.xe s

def tOp (r : R2) (ta tb : TE) : TE := fun σ H Q => ta σ H fun x H1 => tb σ H1 fun y H2 => r x y H2 Q
def tUn (r : V → Hp → VK → Prop) (ta : TE) : TE := fun σ H Q => ta σ H fun x H1 => r x H1 Q
/-- ints in, under C, and a value out -/
def rI (C : Int → Int → Prop) (g : Int → Int → V) : R2 := fun x y H Q => ∃ i j, x = .int i ∧ y = .int j ∧ C i j ∧ Q (g i j) H
def rI0 (g : Int → Int → V) : R2 := fun x y H Q => ∃ i j, x = .int i ∧ y = .int j ∧ Q (g i j) H
def rU (g : Int → V) : V → Hp → VK → Prop := fun x H Q => ∃ i, x = .int i ∧ Q (g i) H

section
variable {X : Cx} {a b c : Expr} {ta tb tc : TE} {pos : Pos}

theorem binT (ha : PE X a ta) (hb : PE X b tb) {pins : List (Addr × Obj)} {s : Shared} {σ : St} {H : Hp} {R : V → V → Hp → Prop} (I : Inv X pins σ H s)
    (h : ta σ H fun x H1 => tb σ H1 fun y H2 => R x y H2) {Q : Value → Shared → Prop} {f : Value → Value → Sem Value}
    (hf : ∀ v u s2 x y H2, Inv X pins σ H2 s2 → RelV x v → RelV y u → R x y H2 → wpAny (model X.prog X.w) X.A (f v u) Q X.xe s2) :
    wpAny (model X.prog X.w) X.A (eval a X.env) (fun v s₁ => wpAny (model X.prog X.w) X.A (eval b X.env) (fun u s₂ => wpAny (model X.prog X.w) X.A (f v u) Q X.xe s₂) X.xe s₁) X.xe s := by
  refine thn (ha pins s σ H _ I h) fun v s1 ⟨x, H1, I1, r1, q1⟩ => ?_
  refine thn (hb pins s1 σ H1 _ I1 q1) fun u s2 ⟨y, H2, I2, r2, q2⟩ => ?_
  exact hf v u s2 x y H2 I2 r1 r2 q2

theorem pe_op {op : Operator} {r : R2} (ho : OpR X (binaryOp op) r) (ha : PE X a ta) (hb : PE X b tb) : PE X (.BinOp a op b pos) (tOp r ta tb) := by
  intro pins s σ H Q I h
  exact wpAny_BinOp (binT ha hb I h fun v u s2 x y H2 I2 rx ry q => ho pins s2 σ H2 x y v u Q I2 rx ry q)
theorem pe_un {op : UnaryOp} {r : V → Hp → VK → Prop} (ho : UnR X (unaryOp op) r) (ha : PE X a ta) : PE X (.UnaryOp op a pos) (tUn r ta) := by
  intro pins s σ H Q I h
  exact UnaryOp_ (thn (ha pins s σ H _ I h) fun v s1 ⟨x, H1, I1, r1, q1⟩ => ho pins s1 σ H1 x v Q I1 r1 q1)

/-! ### ints -/
theorem opI {f : Value → Value → Sem Value} {C : Int → Int → Prop} {g : Int → Int → Int}
    (rule : ∀ (i j : Int) (t u : Tok) (s : Shared) (Q : Value → Shared → Prop) (E : Value → Shared → Prop), C i j → Q (.int (g i j) s.toks) { s with toks := s.toks + 1 } → wpAny (model X.prog X.w) X.A (f (.int i t) (.int j u)) Q E s) :
    OpR X f (rI C fun i j => .int (g i j)) := by
  intro pins s σ H x y v u Q I rx ry h
  obtain ⟨i, j, rfl, rfl, hc, q⟩ := h
  obtain ⟨t, rfl⟩ := rx
  obtain ⟨t', rfl⟩ := ry
  exact rule i j t t' s _ _ hc ⟨.int (g i j), H, I.tok _, ⟨_, rfl⟩, q⟩
theorem opI0 {f : Value → Value → Sem Value} {g : Int → Int → Int}
    (rule : ∀ (i j : Int) (t u : Tok) (s : Shared) (Q : Value → Shared → Prop) (E : Value → Shared → Prop), Q (.int (g i j) s.toks) { s with toks := s.toks + 1 } → wpAny (model X.prog X.w) X.A (f (.int i t) (.int j u)) Q E s) :
    OpR X f (rI0 fun i j => .int (g i j)) := by
  intro pins s σ H x y v u Q I rx ry h
  obtain ⟨i, j, rfl, rfl, q⟩ := h
  obtain ⟨t, rfl⟩ := rx
  obtain ⟨t', rfl⟩ := ry
  exact rule i j t t' s _ _ ⟨.int (g i j), H, I.tok _, ⟨_, rfl⟩, q⟩
theorem opB0 {f : Value → Value → Sem Value} {g : Int → Int → Bool}
    (rule : ∀ (i j : Int) (t u : Tok) (s : Shared) (Q : Value → Shared → Prop) (E : Value → Shared → Prop), Q (.bool (g i j)) s → wpAny (model X.prog X.w) X.A (f (.int i t) (.int j u)) Q E s) :
    OpR X f (rI0 fun i j => .bl (g i j)) := by
  intro pins s σ H x y v u Q I rx ry h
  obtain ⟨i, j, rfl, rfl, q⟩ := h
  obtain ⟨t, rfl⟩ := rx
  obtain ⟨t', rfl⟩ := ry
  exact rule i j t t' s _ _ ⟨.bl (g i j), H, I, rfl, q⟩

def CDiv (i j : Int) : Prop := 0 < j ∧ j < 1073741824
def CDivN (i j : Int) : Prop := j ≠ 0 ∧ j.natAbs < 1073741824
def CPow (i j : Int) : Prop := 0 ≤ j ∧ j ≤ 1000000 ∧ i.natAbs < 2 ^ 64
def CMul (i j : Int) : Prop := (-(2 ^ 64) < i ∧ i < 2 ^ 64) ∨ (-(2 ^ 64) < j ∧ j < 2 ^ 64)
theorem CMul.ok {i j : Int} (h : CMul i j) : IntMulOk i j := by
  rcases h with ⟨h1, h2⟩ | ⟨h1, h2⟩
  · exact .of_left (intBits_le_64 h1 h2)
  · exact .of_right (intBits_le_64 h1 h2)

theorem op_add : OpR X (binaryOp .Add) (rI0 fun i j => .int (i + j)) := opI0 fun _ _ _ _ _ _ _ q => add_int q
theorem op_mul : OpR X (binaryOp .Mult) (rI CMul fun i j => .int (i * j)) := opI fun _ _ _ _ _ _ _ hc q => mul_int q hc.ok
/-- // by a positive divisor -/
theorem op_fdiv : OpR X (binaryOp .FloorDiv) (rI CDiv fun i j => .int (i / j)) := opI fun i j _ _ _ _ _ hc q => by
  have h1 : (0 : Int) < j := hc.1
  have h2 : j < 1073741824 := hc.2
  exact floordiv_int (by omega) (by rw [Int.fdiv_eq_ediv_of_nonneg i (by omega)]; exact q) (.inl (PyProof.noPylong_small (by omega)))
/-- % by a positive divisor of any size -/
theorem op_mod : OpR X (binaryOp .Mod) (rI (fun _ j => 0 < j) fun i j => .int (i % j)) := opI fun i j _ _ _ _ _ hc q => by
  have h1 : (0 : Int) < j := hc
  exact mod_int' (by omega) (by rw [Int.fmod_eq_emod_of_nonneg i (by omega)]; exact q)
theorem op_pow : OpR X (binaryOp .Pow) (rI CPow fun i j => .int (i ^ j.toNat)) := opI fun _ _ _ _ _ _ _ hc q => pow_int_small hc.1 hc.2.1 hc.2.2 q


theorem unI {f : Value → Sem Value} {g : Int → Int}
    (rule : ∀ (i : Int) (t : Tok) (s : Shared) (Q : Value → Shared → Prop) (E : Value → Shared → Prop), Q (.int (g i) s.toks) { s with toks := s.toks + 1 } → wpAny (model X.prog X.w) X.A (f (.int i t)) Q E s) :
    UnR X f (rU fun i => .int (g i)) := by
  intro pins s σ H x v Q I rx h
  obtain ⟨i, rfl, q⟩ := h
  obtain ⟨t, rfl⟩ := rx
  exact rule i t s _ _ ⟨.int (g i), H, I.tok _, ⟨_, rfl⟩, q⟩
theorem un_neg : UnR X (unaryOp .USub) (rU fun i => .int (-i)) := unI fun _ _ _ _ _ q => neg_int q

/-! ### bools among ints: n += (a < b) -/
end

/-! ### comparisons -/
/-- the scalars that == tells apart as data does -/
def scal : V → V → Bool
  | .non, .non => true | .non, .int _ => true | .int _, .non => true | .non, .bl _ => true | .bl _, .non => true | .non, .str _ => true | .str _, .non => true
  | .int _, .int _ => true | .bl _, .bl _ => true | .str _, .str _ => true | .byt _, .byt _ => true
  | .int _, .str _ => true | .str _, .int _ => true | .bl _, .str _ => true | .str _, .bl _ => true
  | _, _ => false
def rEq : R2 := fun x y H Q => scal x y = true ∧ Q (.bl (decide (x = y))) H
def rNe : R2 := fun x y H Q => scal x y = true ∧ Q (.bl (!decide (x = y))) H

theorem dec_int {i j : Int} : decide (V.int i = V.int j) = (i == j) := by
  rw [Bool.eq_iff_iff]
  simp
theorem dec_bl {i j : Bool} : decide (V.bl i = V.bl j) = (i == j) := by
  rw [Bool.eq_iff_iff]
  simp
theorem dec_str {i j : Str} : decide (V.str i = V.str j) = (i == j) := by
  rw [Bool.eq_iff_iff]
  simp
theorem dec_byt {i j : Array UInt8} : decide (V.byt i = V.byt j) = (i.toList == j.toList) := by
  rw [Bool.eq_iff_iff]
  cases i
  cases j
  simp

section
variable {X : Cx} {a b c : Expr} {ta tb tc : TE} {pos : Pos}
theorem fin_bl {pins : List (Addr × Obj)} {σ : St} {H : Hp} {s : Shared} {Q : VK} {k k' : Bool} (I : Inv X pins σ H s) (q : Q (.bl k) H) (e : k = k') : EP X pins σ Q (.bool k') s := by
  subst e
  exact ⟨.bl k, H, I, rfl, q⟩
theorem op_eq : OpR X (compareOp .Eq) rEq := by
  intro pins s σ H x y v u Q I rx ry h
  obtain ⟨hs, q⟩ := h
  cases x with
  | non =>
    cases rx
    cases y with
    | non => cases ry; exact PySem.EqNone.eq_none_none (fin_bl I q (by simp))
    | bl j => cases ry; exact PySem.EqNone.eq_none_bool (fin_bl I q (by simp))
    | int j => obtain ⟨t', rfl⟩ := ry; exact PySem.EqNone.eq_none_int (fin_bl I q (by simp))
    | str j => obtain ⟨t', rfl⟩ := ry; exact PySem.EqNone.eq_none_str (fin_bl I q (by simp))
    | _ => exact absurd (show false = true from hs) Bool.false_ne_true
  | bl i =>
    cases rx
    cases y with
    | non => cases ry; exact PySem.EqNone.eq_bool_none (fin_bl I q (by simp))
    | bl j => cases ry; exact eq_bool (fin_bl I q dec_bl)
    | str j => obtain ⟨t', rfl⟩ := ry; exact PySem.EqMixed.eq_bool_str (fin_bl I q (by simp))
    | _ => exact absurd (show false = true from hs) Bool.false_ne_true
  | int i =>
    obtain ⟨t, rfl⟩ := rx
    cases y with
    | non => cases ry; exact PySem.EqNone.eq_int_none (fin_bl I q (by simp))
    | int j => obtain ⟨t', rfl⟩ := ry; exact eq_int (fin_bl I q dec_int)
    | str j => obtain ⟨t', rfl⟩ := ry; exact PySem.EqMixed.eq_int_str (fin_bl I q (by simp))
    | _ => exact absurd (show false = true from hs) Bool.false_ne_true
  | str i =>
    obtain ⟨t, rfl⟩ := rx
    cases y with
    | non => cases ry; exact PySem.EqNone.eq_str_none (fin_bl I q (by simp))
    | bl j => cases ry; exact PySem.EqMixed.eq_str_bool (fin_bl I q (by simp))
    | int j => obtain ⟨t', rfl⟩ := ry; exact PySem.EqMixed.eq_str_int (fin_bl I q (by simp))
    | str j => obtain ⟨t', rfl⟩ := ry; exact eq_str (fin_bl I q dec_str)
    | _ => exact absurd (show false = true from hs) Bool.false_ne_true
  | byt i =>
    obtain ⟨t, rfl⟩ := rx
    cases y with
    | byt j => obtain ⟨t', rfl⟩ := ry; exact PySem.W.eq_bytes (fin_bl I q dec_byt)
    | _ => exact absurd (show false = true from hs) Bool.false_ne_true
  | _ => cases y <;> exact absurd (show false = true from hs) Bool.false_ne_true
theorem op_ne : OpR X (compareOp .NotEq) rNe := by
  intro pins s σ H x y v u Q I rx ry h
  obtain ⟨hs, q⟩ := h
  cases x with
  | non =>
    cases rx
    cases y with
    | non => cases ry; exact PySem.EqNone.ne_none_none (fin_bl I q (by simp))
    | bl j => cases ry; exact PySem.EqNone.ne_none_bool (fin_bl I q (by simp))
    | int j => obtain ⟨t', rfl⟩ := ry; exact PySem.EqNone.ne_none_int (fin_bl I q (by simp))
    | str j => obtain ⟨t', rfl⟩ := ry; exact PySem.EqNone.ne_none_str (fin_bl I q (by simp))
    | _ => exact absurd (show false = true from hs) Bool.false_ne_true
  | bl i =>
    cases rx
    cases y with
    | non => cases ry; exact PySem.EqNone.ne_bool_none (fin_bl I q (by simp))
    | bl j => cases ry; exact ne_bool (fin_bl I q (congrArg not dec_bl))
    | str j => obtain ⟨t', rfl⟩ := ry; exact PySem.EqMixed.ne_bool_str (fin_bl I q (by simp))
    | _ => exact absurd (show false = true from hs) Bool.false_ne_true
  | int i =>
    obtain ⟨t, rfl⟩ := rx
    cases y with
    | non => cases ry; exact PySem.EqNone.ne_int_none (fin_bl I q (by simp))
    | int j => obtain ⟨t', rfl⟩ := ry; exact ne_int (fin_bl I q (congrArg not dec_int))
    | str j => obtain ⟨t', rfl⟩ := ry; exact PySem.EqMixed.ne_int_str (fin_bl I q (by simp))
    | _ => exact absurd (show false = true from hs) Bool.false_ne_true
  | str i =>
    obtain ⟨t, rfl⟩ := rx
    cases y with
    | non => cases ry; exact PySem.EqNone.ne_str_none (fin_bl I q (by simp))
    | bl j => cases ry; exact PySem.EqMixed.ne_str_bool (fin_bl I q (by simp))
    | int j => obtain ⟨t', rfl⟩ := ry; exact PySem.EqMixed.ne_str_int (fin_bl I q (by simp))
    | str j => obtain ⟨t', rfl⟩ := ry; exact ne_str (fin_bl I q (congrArg not dec_str))
    | _ => exact absurd (show false = true from hs) Bool.false_ne_true
  | byt i =>
    obtain ⟨t, rfl⟩ := rx
    cases y with
    | byt j => obtain ⟨t', rfl⟩ := ry; exact PySem.W.ne_bytes (fin_bl I q (congrArg not dec_byt))
    | _ => exact absurd (show false = true from hs) Bool.false_ne_true
  | _ => cases y <;> exact absurd (show false = true from hs) Bool.false_ne_true

theorem op_lt : OpR X (compareOp .Lt) (rI0 fun i j => .bl (decide (i < j))) := opB0 fun _ _ _ _ _ _ _ q => lt_int q
theorem op_le : OpR X (compareOp .LtE) (rI0 fun i j => .bl (decide (i ≤ j))) := opB0 fun _ _ _ _ _ _ _ q => le_int q
theorem op_gt : OpR X (compareOp .Gt) (rI0 fun i j => .bl (decide (j < i))) := opB0 fun _ _ _ _ _ _ _ q => gt_int q


/-- is, is not of two objects that are tracked lists or instances -/
def isObj : HO → Bool
  | .lst _ => true
  | .ins _ _ _ => true
  | _ => false


theorem nomark (b : Expr) {op : CmpOp} (h : op ≠ .In := by decide) (h2 : op ≠ .NotIn := by decide) : behindInMarks op b = false := by
  have e1 : (op == CmpOp.In) = false := by cases op <;> first | rfl | exact absurd rfl h
  have e2 : (op == CmpOp.NotIn) = false := by cases op <;> first | rfl | exact absurd rfl h2
  cases b <;> simp [behindInMarks, e1, e2]
/-- a comparison as a value; hm: nomark b, or (for in, not in) by with_unfolding_all rfl -/
theorem pe_cmpR {op : CmpOp} {r : R2} (ho : OpR X (compareOp op) r) (ha : PE X a ta) (hb : PE X b tb) (hm : behindInMarks op b = false) : PE X (.Compare a [op] [b] pos) (tOp r ta tb) := by
  intro pins s σ H Q I h
  exact wpAny_Compare1 (binT ha hb I h fun v u s2 x y H2 I2 rx ry q => ho pins s2 σ H2 x y v u Q I2 rx ry q) hm
/-- a reading of a value as a test -/
def tTest (t : TE) : TT := fun σ H Q => t σ H fun x H' => ∃ k, x = .bl k ∧ Q k H'
theorem pt_cmpR {op : CmpOp} {r : R2} (ho : OpR X (compareOp op) r) (ha : PE X a ta) (hb : PE X b tb) (hm : behindInMarks op b = false) : PT X (.Compare a [op] [b] pos) (tTest (tOp r ta tb)) := by
  intro pins s σ H Q I h
  refine wpAny_isTrue_Compare1 (thn (ha pins s σ H _ I h) fun v s1 ⟨x, H1, I1, r1, q1⟩ => thn (hb pins s1 σ H1 _ I1 q1) fun u s2 ⟨y, H2, I2, r2, q2⟩ =>
    thn (ho pins s2 σ H2 x y v u _ I2 r1 r2 q2) fun c s3 ⟨z, H3, I3, r3, k, e, q3⟩ => ?_) hm
  subst e
  cases r3
  exact wpAny_truthy_bool ⟨H3, I3, q3⟩
/-- a op1 b op2 c -/
def tChain (r r' : R2) (ta tb tc : TE) : TE := fun σ H Q => ta σ H fun x H1 => tb σ H1 fun y H2 => r x y H2 fun z H3 => ∃ k, z = .bl k ∧
  (if k = true then tc σ H3 fun w' H4 => r' y w' H4 Q else Q (.bl false) H3)
theorem pe_chain {op op' : CmpOp} {r r' : R2} (ho : OpR X (compareOp op) r) (ho' : OpR X (compareOp op') r') (ha : PE X a ta) (hb : PE X b tb) (hc : PE X c tc)
    (hm : lastMarks [op, op'] [b, c] = false := by with_unfolding_all rfl) : PE X (.Compare a [op, op'] [b, c] pos) (tChain r r' ta tb tc) := by
  intro pins s σ H Q I h
  refine Compare_chain (thn (ha pins s σ H _ I h) fun v s1 ⟨x, H1, I1, r1, q1⟩ => chain_link (thn (hb pins s1 σ H1 _ I1 q1) fun u s2 ⟨y, H2, I2, r2, q2⟩ =>
    thn (ho pins s2 σ H2 x y v u _ I2 r1 r2 q2) fun d s3 ⟨z, H3, I3, r3, k, e, q3⟩ => ?_)) hm
  subst e
  cases r3
  refine wpAny_truthy_bool ?_
  cases k with
  | false => exact ite_ff ⟨.bl false, H3, I3, rfl, q3⟩
  | true => exact ite_tt (chain_last (thn (hc pins s3 σ H3 _ I3 q3) fun w' s4 ⟨z', H4, I4, r4, q4⟩ => ho' pins s4 σ H4 y z' u w' Q I4 r2 r4 q4))

/-! ### truth -/
/-- a value's truth by the abstract heap -/
def TruV (K : PySem.W.Frag) (x : V) (H : Hp) (k : Bool) : Prop :=
  match x with
  | .non => k = false
  | .bl b => k = b
  | .int i => k = (i != 0)
  | .str y => y.length ≤ sizeLine ∧ k = ((y.length : Int) != 0)
  | .byt y => y.size ≤ sizeLine ∧ k = ((y.size : Int) != 0)
  | .ref p => (∃ xs, SqL K H p xs ∧ k = !xs.isEmpty) ∨ (∃ xs, SqT K H p xs ∧ k = !xs.isEmpty) ∨ ∃ kvs, H p = some (.dK kvs) ∧ k = !kvs.isEmpty
  | _ => False
theorem line63 : (sizeLine : Nat) < 2 ^ 63 := by rw [sizeLine_eq]; decide

/-! ### strs and bytes -/

def PlainIxT (b : Expr) : Prop := ∀ o i, subscripted b false o i = operate [o, i] (getItem o i)

/-! ### scalar builtins, by CallR -/
theorem vals1 {x : V} {us : List Value} (r : Vals [x] us) : ∃ u, us = [u] ∧ RelV x u := by
  cases r with
  | cons r1 r2 => cases r2; exact ⟨_, rfl, r1⟩
theorem call_abs : CallR X (.builtin "abs") (fun xs H Q => ∃ i, xs = [.int i] ∧ Q (.int (if i < 0 then -i else i)) H) := by
  intro pins s σ H xs us Q I r h
  obtain ⟨i, rfl, q⟩ := h
  obtain ⟨u, rfl, t, rfl⟩ := vals1 r
  exact call_abs_int fun u tk => ⟨.int (if i < 0 then -i else i), H, I.tok _, ⟨_, rfl⟩, q⟩
/-- len of a str, a bytes, a list, a tuple -/
def LenV (K : PySem.W.Frag) (x : V) (H : Hp) (n : Nat) : Prop :=
  match x with
  | .str y => y.length ≤ sizeLine ∧ n = y.length
  | .byt y => y.size ≤ sizeLine ∧ n = y.size
  | .ref p => (∃ xs, SqL K H p xs ∧ n = xs.length) ∨ ∃ xs, SqT K H p xs ∧ n = xs.length
  | _ => False
end
end L2

namespace L2
open PySem PySem.Spec PyProof.Rows

/-! ### an instance, its attributes a map -/
structure ObjM (h : Heap) (x dx C : Addr) (mA : Str → Option Value) : Prop where
  obj : h.get? x = some (PySem.W.instObj C dx)
  ns : h.Ns1 dx mA
  ne : dx ≠ x

theorem lookIn_ns {h : Heap} {dx : Addr} {mA : Str → Option Value} (n : h.Ns1 dx mA) : ∃ od, h.get? dx = some od ∧ ∀ name, PySem.W.lookIn name od = some (mA name) := by
  obtain ⟨o, es, ep, ho, hd, hk, _, hm⟩ := n
  refine ⟨o, ho, fun name => ?_⟩
  have e := hm name
  unfold nsFind findBy at e
  rw [← Array.find?_toList] at e
  unfold PySem.W.lookIn
  rw [hd]
  dsimp only
  split
  · rename_i y q
    rw [q] at e
    exact congrArg some e
  · rename_i q
    rw [q] at e
    have a : es.toList.any (·.refKey) = false := by
      rw [List.any_eq_false]
      intro y hy
      obtain ⟨z, t, hkey⟩ := hk y (Array.mem_toList_iff.mp hy)
      simp [DictEntry.refKey, hkey]
    have a' : ¬ es.toList.any (·.refKey) = true := by rw [a]; exact Bool.false_ne_true
    rw [if_neg a']
    exact congrArg some e

theorem ObjM.look {h : Heap} {x dx C : Addr} {mA : Str → Option Value} (I : ObjM h x dx C mA) : ∃ od, PySem.W.InstAt h x (PySem.W.instObj C dx) C (some od) ∧ ∀ name, PySem.W.lookIn name od = some (mA name) :=
  let ⟨od, ho, hl⟩ := lookIn_ns I.ns
  ⟨od, ⟨I.obj, rfl, rfl, ho⟩, hl⟩

section
variable {prog : Program} {w : World} {A : Around} {E : Value → Shared → Prop} {s : Shared} {K : PySem.W.Frag} {x dx C f : Addr} {mA : Str → Option Value} {name : Str} {v : Value}

theorem get_map {expr : Bool} {Q : Value → Shared → Prop} (X : K.In s.heap) (I : ObjM s.heap x dx C mA) (hg : PySem.W.plainGet K C name = true) (hh : PySem.W.hasDictIn K C = true)
    (ha : PySem.W.findIn K (.ref C) name = some none) (hv : mA name = some v) (hv' : PySem.W.handedIn v = true) (h : Q v { s with toks := s.toks + 1 }) :
    wpAny (model prog w) A (getAttr (.ref x) name expr) Q E s := by
  obtain ⟨od, J, hl⟩ := I.look
  exact PySem.W.get_value X J (PySem.W.plainGet_of hg).1 (PySem.W.findObj_own hh ha rfl (by rw [hl, hv])) hv' h


theorem get_meth {pl : Sem Bool} {Q : Value × List Value → Shared → Prop} (X : K.In s.heap) (I : ObjM s.heap x dx C mA) (hg : PySem.W.plainGet K C name = true)
    (hf : PySem.W.findIn K (.ref C) name = some (some (.ref f))) (ht : PySem.W.isFn K (.ref f) = true) (hv : mA name = none) (h : Q (.ref f, [.ref x]) s) :
    wpAny (model prog w) A (getMethod (.ref x) name pl) Q E s := by
  obtain ⟨od, J, hl⟩ := I.look
  exact PySem.W.method_fn X J (PySem.W.plainGet_of hg).1 (PySem.W.plainGet_of hg).2 hf (beq_iff_eq.mp ht) (by show (PySem.W.lookIn name od).map (·.isSome) = some false; rw [hl, hv]; rfl) h

theorem set_map {ns : List Str} {Q : Unit → Shared → Prop} (X : K.In s.heap) (I : ObjM s.heap x dx C mA)
    (hs : PySem.W.findIn K (.ref C) "__setattr__" = some (some (.builtin "object.__setattr__"))) (hp : PySem.W.plainOver K C = true) (ht : PySem.W.takerIn K C name = some none) (hh : PySem.W.hasDictIn K C = true)
    (hw : PySem.Within mA ns) (hsz : ns.length ≤ sizeLine)
    (h : ∀ h', ObjM h' x dx C (fun y => if y = name then some v else mA y) → Heap.SameBut dx s.heap h' → Q () { s with heap := h', toks := s.toks + 2 }) :
    wpAny (model prog w) A (setAttr (.ref x) name v) Q E s := by
  obtain ⟨od, J, hl⟩ := I.look
  refine PySem.W.set_plain X J hs (PySem.W.osa_open (s := { s with toks := s.toks + 1 }) (r := none) X J hp ht fun b => ?_)
  obtain ⟨cd, hc, hd'⟩ := PySem.W.any_some hh
  have hx : s.heap.get? x = some ⟨.ref C, some dx, .plain, #[]⟩ := I.obj
  refine wpAny_bind (wpAny_pure (wpAny_bind (wpAny_bind (wpAny_loadPart hx (wpAny_bind (PySem.W.Looks.here (s := { s with toks := s.toks + 1 }) (PySem.W.looks_clsIn X hc) ?_))))))
  rw [hd']
  refine wpAny_pure (a := some dx) (wpAny_bind (wpAny_pure (wpAny_bind ?_)))
  refine wpAny_nsSet1 (s := { s with toks := s.toks + 1 }) I.ns fun h' hn2 hs2 => ?_
  obtain ⟨oD, esD, epD, hoD, hdD, hcD⟩ := hn2.count (PySem.Within.cons name v hw)
  refine wpAny_bind (wpAny_lookBehind hoD (by rw [hdD]; exact pastItsLine_dict (Nat.le_trans hcD (by rw [List.length_cons]; omega))) ?_)
  exact wpAny_pure (h _ ⟨(hs2.2 _ (Ne.symm I.ne)).trans I.obj, hn2, I.ne⟩ hs2)

/-- C(..): the dict at the heap's end, the instance behind it; then its __init__ -/
theorem make_map {R : Result → Shared → Prop} {vs : List Value} {kw : List (Str × Value)} (X : K.In s.heap) (hm : PySem.W.makesIn K C = true)
    (hi : PySem.W.findIn K (.ref C) "__init__" = some (some (.ref f))) (hf : PySem.W.typeIn K (.ref f) = some (.type "function"))
    (h : codeAny (model prog w) (A.under (.builtin "type.__call__" ⟨.ref C :: vs, kw⟩)) (.call (.ref f) ⟨.ref (s.heap.objs.size + 1) :: vs, kw⟩) (PySem.W.InitBack (s.heap.objs.size + 1) R)
      { s with heap := (s.heap.push PySem.W.emptyDict).push (PySem.W.instObj C s.heap.objs.size) }) :
    codeAny (model prog w) A (.call (.ref C) ⟨vs, kw⟩) R s := by
  obtain ⟨hh, g, d, t, os⟩ := s
  exact PySem.W.make_core (PySem.W.makes_of X hm) (PySem.W.looks_findIn X hi) (fun self => PySem.W.bind_fn X self hf) (.inl rfl) h
end

/-! ### the attributes as a list of pairs -/
def putF (f : Str) (v : V) : List (Str × V) → List (Str × V)
  | [] => [(f, v)]
  | (g, x) :: r => if g = f then (g, v) :: r else (g, x) :: putF f v r
theorem lookup_putF (f g : Str) (v : V) : ∀ fs : List (Str × V), (putF f v fs).lookup g = if g = f then some v else fs.lookup g
  | [] => by
    show List.lookup g [(f, v)] = _
    by_cases h : g = f
    · have hb : (g == f) = true := beq_iff_eq.mpr h
      simp only [List.lookup, hb, if_pos h]
    · have hb : (g == f) = false := beq_eq_false_iff_ne.mpr h
      simp only [List.lookup, hb, if_neg h]
  | (k, x) :: r => by
    have ih := lookup_putF f g v r
    rw [show putF f v ((k, x) :: r) = (if k = f then (k, v) :: r else (k, x) :: putF f v r) from rfl]
    by_cases hk : k = f
    · rw [if_pos hk]
      by_cases h : g = k
      · have hb : (g == k) = true := beq_iff_eq.mpr h
        simp only [List.lookup, hb, if_pos (h.trans hk)]
      · have hb : (g == k) = false := beq_eq_false_iff_ne.mpr h
        simp only [List.lookup, hb, if_neg (fun e : g = f => h (e.trans hk.symm))]
    · rw [if_neg hk]
      by_cases h : g = k
      · have hb : (g == k) = true := beq_iff_eq.mpr h
        simp only [List.lookup, hb, if_neg (fun e : g = f => hk (h.symm.trans e))]
      · have hb : (g == k) = false := beq_eq_false_iff_ne.mpr h
        simp only [List.lookup, hb]
        exact ih
theorem keys_putF (f : Str) (v : V) : ∀ fs : List (Str × V), f ∈ (putF f v fs).map (·.1) ∧ ∀ g, g ∈ fs.map (·.1) → g ∈ (putF f v fs).map (·.1)
  | [] => ⟨by simp [putF], fun g h => by simp at h⟩
  | (k, x) :: r => by
    obtain ⟨i1, i2⟩ := keys_putF f v r
    rw [show putF f v ((k, x) :: r) = (if k = f then (k, v) :: r else (k, x) :: putF f v r) from rfl]
    by_cases hk : k = f
    · rw [if_pos hk]
      subst hk
      exact ⟨by simp, fun g h => by simpa using h⟩
    · rw [if_neg hk]
      refine ⟨?_, fun g h => ?_⟩
      · rw [List.map_cons]
        exact List.mem_cons_of_mem _ i1
      · rw [List.map_cons] at h ⊢
        rcases List.mem_cons.mp h with e | e
        · exact List.mem_cons.mpr (.inl e)
        · exact List.mem_cons_of_mem _ (i2 g e)
theorem length_putF (f : Str) (v : V) : ∀ fs : List (Str × V), (putF f v fs).length ≤ fs.length + 1
  | [] => by simp [putF]
  | (k, x) :: r => by
    have ih := length_putF f v r
    rw [show putF f v ((k, x) :: r) = (if k = f then (k, v) :: r else (k, x) :: putF f v r) from rfl]
    by_cases hk : k = f
    · rw [if_pos hk, List.length_cons, List.length_cons]; omega
    · rw [if_neg hk, List.length_cons, List.length_cons]; omega

theorem RelO.some_of {v : V} {o : Option Value} (r : RelO (some v) o) : ∃ u, o = some u ∧ RelV v u := by
  cases o with
  | none => exact (show False from r).elim
  | some u => exact ⟨u, rfl, r⟩
theorem RelO.none_of {o : Option Value} (r : RelO none o) : o = none := by
  cases o with
  | none => rfl
  | some u => exact (show False from r).elim
theorem handed_of {v : V} {u : Value} (r : RelV v u) : PySem.W.handedIn u = true := by
  cases v with
  | non => cases (show u = Value.none from r); rfl
  | bl b => cases (show u = Value.bool b from r); rfl
  | int i => obtain ⟨t, e⟩ := (show ∃ t, u = Value.int i t from r); cases e; rfl
  | str x => obtain ⟨t, e⟩ := (show ∃ t, u = Value.str x t from r); cases e; rfl
  | byt b => obtain ⟨t, e⟩ := (show ∃ t, u = Value.bytes b t from r); cases e; rfl
  | flt b => obtain ⟨t, e⟩ := (show ∃ t, u = Value.float b t from r); cases e; rfl
  | ref a => cases (show u = Value.ref a from r); rfl
  | ty n => cases (show u = Value.type n from r); rfl

section
variable {P : Program} {w : World} {H H' : Hp} {h h' : Heap} {a C dx : Addr} {fs fs' : List (Str × V)}
theorem ins_get (hok : HOk P w H h) (e : H a = some (.ins C dx fs)) : ∃ mA, ObjM h a dx C mA ∧ (∀ f, RelO (fs.lookup f) (mA f)) ∧ PySem.Within mA (fs.map (·.1)) ∧ fs.length ≤ 1000 ∧ H dx = some (.own a) := by
  obtain ⟨d, z, ne, ob, mA, n, r, q⟩ := (show ObjOk P w H h a (.ins C dx fs) from hok a _ e)
  exact ⟨mA, ⟨ob, n, ne⟩, r, q, z, d⟩
end

/-! ### what of the text a class must have -/
structure Cls (K : PySem.W.Frag) (C : Addr) : Prop where
  pg : PySem.W.plainGet K C Str.empty = true
  hd : PySem.W.hasDictIn K C = true
  po : PySem.W.plainOver K C = true
  sa : PySem.W.findIn K (.ref C) "__setattr__" = some (some (.builtin "object.__setattr__"))
theorem Cls.get {K : PySem.W.Frag} {C : Addr} (c : Cls K C) (f : Str) : PySem.W.plainGet K C f = true := c.pg
/-- no class of it has the name -/
def NoAttr (K : PySem.W.Frag) (C : Addr) (f : Str) : Prop := PySem.W.findIn K (.ref C) f = some none
theorem NoAttr.taker {K : PySem.W.Frag} {C : Addr} {f : Str} (n : NoAttr K C f) : PySem.W.takerIn K C f = some none := by
  unfold PySem.W.takerIn
  rw [show PySem.W.findIn K (.ref C) f = some none from n]
  rfl
/-- a constant of the class -/
structure Con (K : PySem.W.Frag) (C : Addr) (f : Str) (v : V) (u : Value) : Prop where
  at_ : PySem.W.findIn K (.ref C) f = some (some u)
  rel : RelV v u
  get : PySem.W.specialIn K u "__get__" = some none
  cp : PySem.W.copiedNames.contains f = false
/-- a method: a plain def of the class or of one above it -/
structure Meth (K : PySem.W.Frag) (C : Addr) (m : Str) (f : Addr) : Prop where
  at_ : PySem.W.findIn K (.ref C) m = some (some (.ref f))
  fn : PySem.W.isFn K (.ref f) = true
  kp : PySem.W.keepIn K (.ref f) = true

section
variable {X : Cx} {pins : List (Addr × Obj)} {σ : St} {H : Hp} {s : Shared} {a C dx : Addr} {fs : List (Str × V)} {f : Str} {v : V} {A : Around} {E : Value → Shared → Prop}

theorem getattr_ok {b : Bool} {Q : Value → Shared → Prop} (I : Inv X pins σ H s) (e : H a = some (.ins C dx fs)) (c : Cls X.K C) (n : NoAttr X.K C f) (l : fs.lookup f = some v)
    (h : ∀ u s', Inv X pins σ H s' → RelV v u → Q u s') : wpAny (model X.prog X.w) A (getAttr (.ref a) f b) Q E s := by
  obtain ⟨mA, O, r, _, _, _⟩ := ins_get I.hok e
  obtain ⟨u, hu, ru⟩ := RelO.some_of (v := v) (o := mA f) (by rw [← l]; exact r f)
  exact get_map I.kIn O (c.get f) c.hd n hu (handed_of ru) (h u _ (I.tok _) ru)


theorem getmeth_ok {m : Str} {g : Addr} {pl : Sem Bool} {Q : Value × List Value → Shared → Prop} (I : Inv X pins σ H s) (e : H a = some (.ins C dx fs)) (c : Cls X.K C) (k : Meth X.K C m g) (l : fs.lookup m = none)
    (h : Q (.ref g, [.ref a]) s) : wpAny (model X.prog X.w) A (getMethod (.ref a) m pl) Q E s := by
  obtain ⟨mA, O, r, _, _, _⟩ := ins_get I.hok e
  have hn : mA m = none := RelO.none_of (by rw [← l]; exact r m)
  exact get_meth I.kIn O (c.get m) k.at_ k.fn hn h

theorem setattr_ok {y : V} {u : Value} {Q : Unit → Shared → Prop} (I : Inv X pins σ H s) (e : H a = some (.ins C dx fs)) (c : Cls X.K C) (n : NoAttr X.K C f) (hl : fs.length < 1000) (ry : RelV y u)
    (h : ∀ s', Inv X pins σ (upd H a (.ins C dx (putF f y fs))) s' → Q () s') : wpAny (model X.prog X.w) A (setAttr (.ref a) f u) Q E s := by
  obtain ⟨mA, O, r, wi, _, ho⟩ := ins_get I.hok e
  have hz : (fs.map (·.1)).length ≤ sizeLine := by rw [List.length_map, sizeLine_eq]; omega
  refine set_map I.kIn O c.sa c.po n.taker c.hd wi hz fun h' O' sb => h _ ?_
  have hd : ∃ o, h'.get? dx = some o := let ⟨o, _, _, e', _⟩ := O'.ns; ⟨o, e'⟩
  refine I.write (x := a) (e := dx) (by rw [e]; exact True.intro) (.inr ho) (fun b q hb z => (sb.2 b hb).trans z) hd ?_
  refine ⟨by rw [upd_ne O.ne]; exact ho, ?_, O.ne, O'.obj, _, O'.ns, fun g => ?_, fun g hg => ?_⟩
  · have := length_putF f y fs; omega
  · show RelO ((putF f y fs).lookup g) (if g = f then some u else mA g)
    rw [lookup_putF]
    by_cases q : g = f
    · rw [if_pos q, if_pos q]; exact ry
    · rw [if_neg q, if_neg q]; exact r g
  · by_cases q : g = f
    · rw [q]; exact (keys_putF f y fs).1
    · refine (keys_putF f y fs).2 g (wi g fun z => hg ?_)
      show (if g = f then some u else mA g) = none
      rw [if_neg q]; exact z

/-- a new instance, tracked, without attributes -/
theorem Inv.made (I : Inv X pins σ H s) : Inv X pins σ (upd (upd H s.heap.objs.size (.own (s.heap.objs.size + 1))) (s.heap.objs.size + 1) (.ins C s.heap.objs.size []))
    { s with heap := (s.heap.push PySem.W.emptyDict).push (PySem.W.instObj C s.heap.objs.size) } := by
  have e1 : (s.heap.push PySem.W.emptyDict).get? s.heap.objs.size = some PySem.W.emptyDict := Heap.get?_push_size s.heap rfl
  have e2 : ((s.heap.push PySem.W.emptyDict).push (PySem.W.instObj C s.heap.objs.size)).get? (s.heap.objs.size + 1) = some (PySem.W.instObj C s.heap.objs.size) := by
    have := Heap.get?_push_size (s.heap.push PySem.W.emptyDict) (o := PySem.W.instObj C s.heap.objs.size) rfl
    rwa [Heap.size_push] at this
  have e3 : (s.heap.push PySem.W.emptyDict).Ns s.heap.objs.size (fun _ => none) := ⟨PySem.W.emptyDict, #[], _, e1, rfl, (fun e he => absurd he (by simp)), fun _ => rfl⟩
  have I1 := I.laid (a := s.heap.objs.size) (o := .own (s.heap.objs.size + 1)) (h' := s.heap.push PySem.W.emptyDict) (t' := s.toks) (fun b u q => Heap.get?_push_of_some _ q) (Nat.le_refl _) ⟨_, e1⟩
  refine I1.laid (a := s.heap.objs.size + 1) (o := .ins C s.heap.objs.size []) (t' := s.toks) (fun b u q => Heap.get?_push_of_some _ q) (Nat.le_of_eq (Heap.size_push _ _)) ?_
  have ne : s.heap.objs.size ≠ s.heap.objs.size + 1 := Nat.ne_of_lt (Nat.lt_succ_self _)
  refine ⟨by rw [upd_ne ne, upd_same], Nat.zero_le _, ne, e2, fun _ => none, (Heap.Ns1.of_empty e3).at fun o q => Heap.get?_push_of_some _ q, fun _ => True.intro, fun y hy => absurd rfl hy⟩

/-- e.f where nothing but the object is asked: through attributeBase (super) and the last hold -/
theorem attr_of {prog : Program} {w : World} {env : Env} {e : Expr} {f : Str} {pos : Pos} {s : Shared} {Q : Value → Shared → Prop} (hb : attributeBase e f env (eval e env) = eval e env)
    (h : wpAny (model prog w) A (eval e env) (fun o s₁ => wpAny (model prog w) A (getAttr o f true) Q E s₁) E s) : wpAny (model prog w) A (eval (.Attribute e f pos) env) Q E s :=
  Attribute_any_ h (by rw [arm_eval_Attribute, hb])
end

/-! ### readings and rules -/
/-- e.f, an attribute of the instance -/
def tFld (K : PySem.W.Frag) (ta : TE) (f : Str) : TE := fun σ H Q => ta σ H fun x H1 => ∃ a C dx fs v, x = .ref a ∧ H1 a = some (.ins C dx fs) ∧ Cls K C ∧ NoAttr K C f ∧ fs.lookup f = some v ∧ Q v H1
/-- e.f, a constant of the class -/
def tCon (K : PySem.W.Frag) (ta : TE) (f : Str) : TE := fun σ H Q => ta σ H fun x H1 => ∃ a C dx fs v u, x = .ref a ∧ H1 a = some (.ins C dx fs) ∧ Cls K C ∧ Con K C f v u ∧ fs.lookup f = none ∧ Q v H1
/-- e.f = value -/
def sFld (K : PySem.W.Frag) (ta tv : TE) (f : Str) : TS := fun D σ H => tv σ H fun y H1 => ta σ H1 fun x H2 => ∃ a C dx fs, x = .ref a ∧ H2 a = some (.ins C dx fs) ∧ Cls K C ∧ NoAttr K C f ∧ fs.length < 1000 ∧
  D.nx σ (upd H2 a (.ins C dx (putF f y fs)))
/-- an augmented operator on two values -/
def InOp (X : Cx) (op : Operator) (rd : V → V → Hp → VK → Prop) : Prop :=
  ∀ (pins : List (Addr × Obj)) (s : Shared) (σ : St) (H : Hp) (x y : V) (u v : Value) (Q : VK), Inv X pins σ H s → RelV x u → RelV y v → rd x y H Q → wpAny (model X.prog X.w) X.A (inplaceOp op u v) (EP X pins σ Q) X.xe s
/-- e.f op= value -/
def sFldAug (K : PySem.W.Frag) (ta tv : TE) (rd : V → V → Hp → VK → Prop) (f : Str) : TS := fun D σ H => ta σ H fun x H1 => ∃ a C dx fs v, x = .ref a ∧ H1 a = some (.ins C dx fs) ∧ Cls K C ∧ NoAttr K C f ∧ fs.lookup f = some v ∧
  tv σ H1 fun y H2 => rd v y H2 fun z H3 => ∃ dx' fs', H3 a = some (.ins C dx' fs') ∧ fs'.length < 1000 ∧ D.nx σ (upd H3 a (.ins C dx' (putF f z fs')))

section
variable {X : Cx} {o e value : Expr} {f : Str} {pos pos' tpos : Pos} {ta tv : TE}
theorem pe_fld (he : PE X e ta) (hb : attributeBase e f X.env (eval e X.env) = eval e X.env) : PE X (.Attribute e f pos) (tFld X.K ta f) := by
  intro pins s σ H Q I h
  refine attr_of hb (thn (he pins s σ H _ I h) fun u s1 ⟨x, H1, I1, rx, a, C, dx, fs, v, ex, ea, c, n, l, q⟩ => ?_)
  subst ex
  obtain rfl : u = Value.ref a := rx
  exact getattr_ok I1 ea c n l fun u' s2 I2 ru => ⟨v, H1, I2, ru, q⟩
theorem ps_fld (ha : PE X o ta) (hv : PE X value tv) (hs : swapsWith value (some (.Attribute o f pos')) pos.line X.env = pure false) : PS X (.Assign [.Attribute o f pos'] value pos) (sFld X.K ta tv f) := by
  intro pins s σ H D I h
  refine plainObj_wpAny_Assign_Attribute (thn (hv pins s σ H _ I h) fun u s1 ⟨y, H1, I1, ry, q⟩ => thn (ha pins s1 σ H1 _ I1 q) fun ov s2 ⟨x, H2, I2, rx, a, C, dx, fs, ex, ea, c, n, l, q2⟩ => ?_) hs
  subst ex
  obtain rfl : ov = Value.ref a := rx
  exact setattr_ok I2 ea c n l ry fun s3 I3 => ⟨σ, _, I3, q2⟩
def rAdd : V → V → Hp → VK → Prop := fun x y H Q => ∃ i j, x = .int i ∧ y = .int j ∧ Q (.int (i + j)) H
def rSub : V → V → Hp → VK → Prop := fun x y H Q => ∃ i j, x = .int i ∧ y = .int j ∧ Q (.int (i - j)) H

end

/-! ### isinstance -/
section
variable {X : Cx} {pins : List (Addr × Obj)} {σ : St} {H : Hp} {s : Shared} {A : Around} {E : Value → Shared → Prop} {Q : Value → Shared → Prop} {c : Value} {b : Bool}
/-- the type of a value, as the fragment's deciders take it; for an instance its class -/
inductive TyOf (K : PySem.W.Frag) (H : Hp) : V → Value → Prop where
  | non : TyOf K H .non (.type "NoneType")
  | bl (x : Bool) : TyOf K H (.bl x) (.type "bool")
  | int (i : Int) : TyOf K H (.int i) (.type "int")
  | str (x : Str) : TyOf K H (.str x) (.type "str")
  | flt (x : UInt64) : TyOf K H (.flt x) (.type "float")
  | lst {a : Addr} {xs : List V} (e : H a = some (.lst xs)) : TyOf K H (.ref a) (.type "list")
  | frz {a : Addr} {o : Obj} {xs : List V} (e : H a = some (.frz o (.lst xs))) : TyOf K H (.ref a) (.type "list")
  | tup {a : Addr} {xs : List V} (e : H a = some (.tup xs)) : TyOf K H (.ref a) (.type "tuple")
  | dK {a : Addr} {kvs : List (Key × V)} (e : H a = some (.dK kvs)) : TyOf K H (.ref a) (.type "dict")
  | dT {a : Addr} {kvs : List (List Key × V)} (e : H a = some (.dT kvs)) : TyOf K H (.ref a) (.type "dict")
  | ins {a C dx : Addr} {fs : List (Str × V)} (e : H a = some (.ins C dx fs)) (cl : Cls K C) (ha : PySem.W.findIn K (.ref C) "__class__" = some (some (.builtin "object.__class__")))
      (hn : PySem.W.specialIn K (.builtin "object.__class__") "__get__" = some (some (.builtin "getset_descriptor.__get__"))) (htk : PySem.W.takesIn K (.builtin "object.__class__") = some true)
      (hm : PySem.W.mroIn K C (.type "object") = some true) : TyOf K H (.ref a) (.ref C)
/-- isinstance(x, c) for one class c, a built-in or an own one: kitOne's answer -/
theorem isinst_ok {x : V} {u t : Value} (I : Inv X pins σ H s) (rx : RelV x u) (ty : TyOf X.K H x t) (e : PySem.W.kitOne X.K t c = some b) (h : ∀ tk, Q (.bool b) { s with toks := tk }) :
    wpAny (model X.prog X.w) A (call (.builtin "isinstance") [u, c]) Q E s := by
  cases ty with
  | non => cases (show u = Value.none from rx); exact PySem.W.kia_one PySem.W.kitx_none I.kIn True.intro e (fun z => nomatch z) h
  | bl y => cases (show u = Value.bool y from rx); exact PySem.W.kia_one PySem.W.kitx_bool I.kIn True.intro e (fun z => nomatch z) h
  | int i => obtain ⟨t, q⟩ := (show ∃ t, u = Value.int i t from rx); cases q; exact PySem.W.kia_one PySem.W.kitx_int I.kIn True.intro e (fun z => nomatch z) h
  | str y => obtain ⟨t, q⟩ := (show ∃ t, u = Value.str y t from rx); cases q; exact PySem.W.kia_one PySem.W.kitx_str I.kIn True.intro e (fun z => nomatch z) h
  | flt y => obtain ⟨t, q⟩ := (show ∃ t, u = Value.float y t from rx); cases q; exact PySem.W.kia_one PySem.W.kitx_float I.kIn True.intro e (fun z => nomatch z) h
  | @lst a xs ea =>
    cases (show u = Value.ref a from rx)
    obtain ⟨_, _, n, _, h1⟩ := (show ObjOk X.prog X.w H s.heap a (.lst xs) from I.hok a _ ea)
    exact PySem.W.kia_one PySem.W.kitx_list I.kIn ⟨_, h1, rfl⟩ e (fun z => nomatch z) h
  | @frz a ob xs ea =>
    cases (show u = Value.ref a from rx)
    obtain ⟨_, _, _, n, _, h1⟩ := (show ObjOk X.prog X.w H s.heap a (.frz ob (.lst xs)) from I.hok a _ ea)
    exact PySem.W.kia_one PySem.W.kitx_list I.kIn ⟨_, h1, rfl⟩ e (fun z => nomatch z) h
  | @tup a xs ea =>
    cases (show u = Value.ref a from rx)
    obtain ⟨_, _, _, p⟩ := (show ObjOk X.prog X.w H s.heap a (.tup xs) from I.hok a _ ea)
    obtain ⟨o, h1, h2, _⟩ := p
    exact PySem.W.kia_one PySem.W.kitx_tuple I.kIn ⟨o, h1, h2⟩ e (fun z => nomatch z) h
  | @dK a kvs ea =>
    cases (show u = Value.ref a from rx)
    obtain ⟨_, _, vs, _, p⟩ := (show ObjOk X.prog X.w H s.heap a (.dK kvs) from I.hok a _ ea)
    obtain ⟨o, es, ep, h1, h2, _⟩ := p
    exact PySem.W.kia_one PySem.W.kitx_dict I.kIn ⟨o, h1, h2.1⟩ e (fun z => nomatch z) h
  | @dT a kvs ea =>
    cases (show u = Value.ref a from rx)
    obtain ⟨_, _, xs, _, o, es, ep, h1, h2, _⟩ := (show ObjOk X.prog X.w H s.heap a (.dT kvs) from I.hok a _ ea)
    exact PySem.W.kia_one PySem.W.kitx_dict I.kIn ⟨o, h1, h2.1⟩ e (fun z => nomatch z) h
  | @ins a C dx fs ea cl ha hn htk hm =>
    cases (show u = Value.ref a from rx)
    obtain ⟨mA, O, _⟩ := ins_get I.hok ea
    obtain ⟨od, J, _⟩ := O.look
    exact PySem.W.kia_one (PySem.W.kitx_own (cl.get _) cl.hd ha hn htk hm) I.kIn J e (fun z => nomatch z) h
end
end L2

namespace L2
open PySem PySem.Spec PyProof.Rows

/-! ### room -/
structure Room (k : Nat) (A : Around) : Prop where
  hd : A.handled = none
  dp : A.depth + 3 * k + 5 < recursionLimit
  un : A.units + 16 * k + 200 < cLine
theorem Room.mono {j k : Nat} {A : Around} (r : Room k A) (h : j ≤ k) : Room j A := ⟨r.hd, by have := r.dp; omega, by have := r.un; omega⟩
theorem Room.deeper {k : Nat} {A : Around} (r : Room (k + 1) A) (env : Env) : Room k (A.deeper env) :=
  ⟨r.hd, by have := r.dp; show A.depth + 1 + 3 * k + 5 < _; omega, by have := r.un; show A.units + 3 + 16 * k + 200 < _; omega⟩
theorem make_depth {A : Around} {C : Addr} {us : List Value} {kw : List (Str × Value)} : (A.under (.builtin "type.__call__" ⟨.ref C :: us, kw⟩)).depth = A.depth + 1 := by
  first | rfl | simp [Around.under, Code.weight, Code.isCreation, Code.isGuard, Code.isCaller, Code.frames, Code.isFrame, guardIds]
theorem make_units {A : Around} {C : Addr} {us : List Value} {kw : List (Str × Value)} : (A.under (.builtin "type.__call__" ⟨.ref C :: us, kw⟩)).units = A.units + 1 := by
  first | rfl | simp [Around.under, Code.cUnits, Code.frames, Code.isFrame]
theorem Room.make {k : Nat} {A : Around} (r : Room (k + 1) A) (C : Addr) (us : List Value) (kw : List (Str × Value)) : Room k (A.under (.builtin "type.__call__" ⟨.ref C :: us, kw⟩)) :=
  ⟨r.hd, by have := r.dp; rw [make_depth]; omega, by have := r.un; rw [make_units]; omega⟩
theorem Room.depth {k : Nat} {A : Around} (r : Room k A) : A.depth < recursionLimit := by have := r.dp; omega
theorem Room.units {k : Nat} {A : Around} (r : Room k A) : A.units + 64 < cLine := by have := r.un; omega

/-! ### argument lists and displays -/
def tNil : TA := fun _ H Q => Q [] H
def tCons (ta : TE) (tr : TA) : TA := fun σ H Q => ta σ H fun x H1 => tr σ H1 fun xs H2 => Q (x :: xs) H2
section
variable {X : Cx} {e : Expr} {es : List Expr} {te : TE} {t : TA} {pos : Pos}
theorem pa_nil : PA X [] tNil := fun _ _ _ _ H Q I h => Calls.spliced_nil ⟨[], H, I, .nil, h⟩
theorem pa_cons (ha : PE X e te) (hr : PA X es t) (hs : starEach (e :: es) X.env = (false, eval e X.env) :: starEach es X.env := by rfl) : PA X (e :: es) (tCons te t) := by
  intro pos pins s σ H Q I h
  rw [hs]
  show wpAny _ _ (spliced ((false, eval e X.env) :: backTo pos (starEach es X.env))) _ _ s
  refine Calls.spliced_cons (thn (ha pins s σ H _ I h) fun u s1 ⟨x, H1, I1, r1, q1⟩ => ?_)
  exact thn (hr pos pins s1 σ H1 _ I1 q1) fun us s2 ⟨xs, H2, I2, r2, q2⟩ => ⟨x :: xs, H2, I2, .cons r1 r2, q2⟩

/-- a tuple, a list of written items -/
def tTup (t : TA) : TE := fun σ H Q => t σ H fun xs H1 => xs.length ≤ sizeLine ∧ ∀ p, H1 p = none → Q (.ref p) (upd H1 p (.tup xs))
def tLst (t : TA) : TE := fun σ H Q => t σ H fun xs H1 => xs.length ≤ sizeLine ∧ ∀ p, H1 p = none → Q (.ref p) (upd H1 p (.lst xs))
theorem pe_tup {x1} (h : PA X es t) : PE X (.Tuple es x1 pos) (tTup t) := by
  intro pins s σ H Q I hq
  refine wpAny_Tuple_spliced (thn (h pos pins s σ H _ I hq) fun us s1 ⟨xs, H1, I1, r, z, q⟩ => ⟨by rw [← r.length]; exact z, ?_⟩)
  have hf : H1 s1.heap.objs.size = none := I1.hok.fresh (Nat.le_refl _)
  refine ⟨.ref s1.heap.objs.size, upd H1 s1.heap.objs.size (.tup xs), I1.laid (t' := s1.toks) (fun b u e => Heap.get?_push_of_some _ e) (Nat.le_refl _) ?_, rfl, q _ hf⟩
  exact ⟨z, us, r, ⟨_, Heap.get?_push_size _ rfl, rfl, _, rfl⟩⟩
theorem pe_lst (h : PA X es t) : PE X (.List es pos) (tLst t) := by
  intro pins s σ H Q I hq
  refine wpAny_List_spliced (thn (h pos pins s σ H _ I hq) fun us s1 ⟨xs, H1, I1, r, z, q⟩ => ⟨by rw [← r.length]; exact z, ?_⟩)
  have hf : H1 s1.heap.objs.size = none := I1.hok.fresh (Nat.le_refl _)
  refine ⟨.ref s1.heap.objs.size, upd H1 s1.heap.objs.size (.lst xs), I1.laid (t' := s1.toks) (fun b u e => Heap.get?_push_of_some _ e) (Nat.le_refl _) ?_, rfl, q _ hf⟩
  exact ⟨z, us, 0, r, Heap.get?_push_size _ rfl⟩
end

/-! ### what a def promises -/
/-- a def's promise: the bound arguments in the parameters' order, the heap, the wanted end, the wanted exception -/
abbrev Sp := List V → Hp → VK → XK → Prop
/-- how an exception lies behind a call (file 08 gives it): the callers' frames, abstract heap and state ahead of the call, the wish, the exception, the state -/
abbrev CXT := List Env → Hp → Shared → XK → Value → Shared → Prop

/-- the state at a call -/
structure Env0 (P : Program) (w : World) (K : PySem.W.Frag) (mg : Str → Option Value) (base : Heap) (A : Around) (outer : List Env) (s : Shared) (H : Hp) : Prop where
  frames : A.frames = some outer
  mod : Mod K mg base
  bs : ∀ b o, base.get? b = some o → s.heap.get? b = some o ∧ H b = none
  bsz : base.objs.size ≤ s.heap.objs.size
  funs : s.heap.FunFrames base outer
  frf : ∀ b ∈ frs outer, H b = none
  hok : HOk P w H s.heap
  bare : AllBare s.gens
/-- a call's end -/
def CE (outer : List Env) (P : Program) (w : World) (H : Hp) (s : Shared) (Q : VK) (u : Value) (s' : Shared) : Prop :=
  ∃ v H', s'.os = s.os ∧ AllBare s'.gens ∧ Un (frs outer) [] H H' s.heap s'.heap ∧ HOk P w H' s'.heap ∧ RelV v u ∧ Q v H'
def CR (CX : CXT) (outer : List Env) (P : Program) (w : World) (H : Hp) (s : Shared) (Q : VK) (E : XK) (r : Result) (s' : Shared) : Prop :=
  match r with
  | .ok (.ret u) => CE outer P w H s Q u s'
  | .ok _ => False
  | .error e => CX outer H s E e s'
structure FnOk (P : Program) (w : World) (K : PySem.W.Frag) (mg : Str → Option Value) (base : Heap) (CX : CXT) (k : Nat) (f : Addr) (fd : FuncData) (ps : List Str) (sp : Sp) : Prop where
  len : ∀ vs H Q E, sp vs H Q E → vs.length = ps.length
  run : ∀ (A : Around) (outer : List Env) (s : Shared) (H : Hp) (args : Args) (us : List Value) (vs : List V) (Q : VK) (E : XK), Room k A → Env0 P w K mg base A outer s H → BindsTo s fd args (ps.zip us) → Vals vs us → sp vs H Q E →
    codeAny (model P w) A (.call (.ref f) args) (CR CX outer P w H s Q E) s

theorem Env0.make {P : Program} {w : World} {K : PySem.W.Frag} {mg : Str → Option Value} {base : Heap} {A : Around} {outer : List Env} {s : Shared} {H : Hp} (e : Env0 P w K mg base A outer s H) (C : Addr) (us : List Value) (kw : List (Str × Value)) :
    Env0 P w K mg base (A.under (.builtin "type.__call__" ⟨.ref C :: us, kw⟩)) outer s H := ⟨by first | exact e.frames | (simpa [Around.under, Code.envs, Code.isFrame, pushEnvs] using e.frames), e.mod, e.bs, e.bsz, e.funs, e.frf, e.hok, e.bare⟩

section
variable {X : Cx} {pins : List (Addr × Obj)} {σ : St} {H : Hp} {s s' : Shared}
/-- from a body: what a callee wants -/
theorem Inv.env0 (I : Inv X pins σ H s) : Env0 X.prog X.w X.K X.mg X.base X.A X.stack s H :=
  ⟨I.ok.frames, I.ok.mod, I.bs, Nat.le_trans I.ok.bsz I.sz, I.stack, I.stkFree, I.hok, I.bare⟩
/-- behind a call -/
theorem Inv.after {Q : VK} {u : Value} (I : Inv X pins σ H s) (h : CE X.stack X.prog X.w H s Q u s') : EP X pins σ Q u s' := by
  obtain ⟨v, H', os, bare, un, hok, r, q⟩ := h
  obtain ⟨hh, g, d, t, os'⟩ := s'
  obtain rfl : os' = s.os := os
  exact ⟨v, H', I.call (h' := hh) (g' := g) (d' := d) (t' := t) (ch := []) un hok bare (fun b z => absurd z (by simp)), r, q⟩
end

/-! ### calls -/
/-- f(..): the written arguments, then the defaults dvs; E: what is wanted of an exception -/
def tCall (sp : Sp) (dvs : List V) (E : XK) (t : TA) : TE := fun σ H Q => t σ H fun vs H1 => sp (vs ++ dvs) H1 Q E
/-- o.m(..) of an instance of the class at C -/
def tMeth (C : Addr) (m : Str) (sp : Sp) (dvs : List V) (E : XK) (ta : TE) (t : TA) : TE := fun σ H Q => ta σ H fun x H1 => ∃ a dx fs, x = .ref a ∧ H1 a = some (.ins C dx fs) ∧ fs.lookup m = none ∧
  t σ H1 fun vs H2 => sp (x :: (vs ++ dvs)) H2 Q E
/-- C(..): a new instance and its dict, then __init__ -/
def tMake (C : Addr) (sp : Sp) (dvs : List V) (E : XK) (t : TA) : TE := fun σ H Q => t σ H fun vs H1 => ∀ x dx, H1 x = none → H1 dx = none → dx ≠ x →
  sp (.ref x :: (vs ++ dvs)) (upd (upd H1 dx (.own x)) x (.ins C dx [])) (fun v H2 => v = .non ∧ Q (.ref x) H2) E

/-- how the parameters are bound: us the positional arguments, kw the keywords' values by name, ds the defaults that fill up -/
def Binds (K : PySem.W.Frag) (fd : FuncData) (ps : List Str) (ds : List Value) : Prop :=
  ∀ (s : Shared) (us : List Value), K.In s.heap → (us ++ ds).length = ps.length → BindsTo s fd ⟨us, []⟩ (ps.zip (us ++ ds))
/-- every parameter is given -/
theorem Binds.all {K : PySem.W.Frag} {fd : FuncData} {ps : List Str} (h : ∀ us : List Value, us.length = ps.length → bindArgs fd ⟨us, []⟩ = pure (ps.zip us)) : Binds K fd ps [] := fun s us _ hl => by
  rw [List.append_nil] at hl ⊢
  exact .of_eq (h us hl)

/-- an exception of a callee reaches what this body wants of exceptions -/
def Passes (CX : CXT) (X : Cx) (E : XK) : Prop := ∀ (pins : List (Addr × Obj)) (σ : St) (H : Hp) (s : Shared) (e : Value) (s' : Shared), Inv X pins σ H s → CX X.stack H s E e s' → X.xe e s'

section
variable {X : Cx} {CX : CXT} {k : Nat} {f C : Addr} {fd : FuncData} {ps : List Str} {sp : Sp} {dvs : List V} {ds : List Value} {E : XK} {x m : Str} {p pos apos : Pos} {e o : Expr} {es : List Expr} {ta : TE} {t : TA}

/-- the callee runs -/
theorem run_fn {pins : List (Addr × Obj)} {σ : St} {H : Hp} {s : Shared} {Q : VK} {us : List Value} {vs : List V} (F : FnOk X.prog X.w X.K X.mg X.base CX k f fd ps sp) (hr : Room k X.A) (hb : Binds X.K fd ps ds) (hd : Vals dvs ds) (hx : Passes CX X E)
    (I : Inv X pins σ H s) (r : Vals vs us) (h : sp (vs ++ dvs) H Q E) : wpAny (model X.prog X.w) X.A (call (.ref f) us) (EP X pins σ Q) X.xe s := by
  have r2 : Vals (vs ++ dvs) (us ++ ds) := r.append hd
  have hl : (us ++ ds).length = ps.length := by rw [← r2.length]; exact F.len _ _ _ _ h
  refine wpAny_call (codeAny_mono (F.run X.A X.stack s H ⟨us, []⟩ (us ++ ds) (vs ++ dvs) Q E hr I.env0 (hb s us I.kIn hl) r2 h) fun r s' hq => ?_)
  cases r with
  | error e => exact hx pins σ H s e s' I hq
  | ok fl =>
    cases fl with
    | ret u => exact I.after hq
    | next => exact False.elim hq
    | brk => exact False.elim hq
    | cont => exact False.elim hq

theorem pe_call (F : FnOk X.prog X.w X.K X.mg X.base CX k f fd ps sp) (hr : Room k X.A) (hg : Gl X x) (hm : X.mg x = some (.ref f)) (hk : PySem.W.keepIn X.K (.ref f) = true) (hb : Binds X.K fd ps ds) (hd : Vals dvs ds) (hx : Passes CX X E)
    (ha : PA X (e :: es) t) (hdb : (x == ("__debug__" : Str)) = false := by decide) (he : starEach (e :: es) X.env = (false, eval e X.env) :: starEach es X.env := by rfl) (hpl : (backTo pos (starEach es X.env)).any (·.1) = false := by rfl) :
    PE X (.Call (.Name x p) (e :: es) [] pos) (tCall sp dvs E t) := by
  intro pins s σ H Q I h
  refine wpAny_Call_Name_kw (ld_glob I hg hm ?_ hdb)
  refine PySem.W.callWith_K (h₀ := X.base) I.ok.mod.kin hk (thn (ha pos pins s σ H _ I h) fun us s1 ⟨vs, H1, I1, r, q⟩ => ⟨I1.kIn, ?_⟩) he hpl
  exact run_fn F hr hb hd hx I1 r q

/-- o.m(e, ..) -/
theorem pe_meth {pl : Sem Bool} (he : PE X o ta) (c : Cls X.K C) (hm : Meth X.K C m f) (F : FnOk X.prog X.w X.K X.mg X.base CX k f fd ps sp) (hr : Room k X.A) (hb : Binds X.K fd ps ds) (hd : Vals dvs ds) (hx : Passes CX X E) (ha : PA X (e :: es) t)
    (hst : starEach (e :: es) X.env = (false, eval e X.env) :: starEach es X.env := by rfl) (hpl : (backTo pos (starEach es X.env)).any (·.1) = false := by rfl)
    (ht : eval (.Call (.Attribute o m apos) (e :: es) [] pos) X.env = (do
      let ov ← eval o X.env
      standAt apos.atName
      let (f, first) ← holding [ov] (getMethod ov m pl)
      callWith pos f first (backTo pos (starEach (e :: es) X.env)) (backToKw pos (keywordEach [] X.env))) := by rfl) :
    PE X (.Call (.Attribute o m apos) (e :: es) [] pos) (tMeth C m sp dvs E ta t) := by
  intro pins s σ H Q I h
  refine PySem.W.methodCall_KW (pl := pl) (thn (he pins s σ H _ I h) fun u s1 ⟨x, H1, I1, rx, a, dx, fs, ex, ea, l, q⟩ => ?_) ht
  subst ex
  obtain rfl : u = Value.ref a := rx
  refine getmeth_ok I1 ea c hm l ?_
  refine PySem.W.callWith_K (first := [.ref a]) (h₀ := X.base) I.ok.mod.kin hm.kp (thn (ha pos pins s1 σ H1 _ I1 q) fun us s2 ⟨vs, H2, I2, r, q2⟩ => ⟨I2.kIn, ?_⟩) hst hpl
  exact run_fn (us := .ref a :: us) (vs := .ref a :: vs) F hr hb hd hx I2 (.cons rfl r) q2
/-- o.m() -/
theorem pe_meth0 {pl : Sem Bool} (he : PE X o ta) (c : Cls X.K C) (hm : Meth X.K C m f) (F : FnOk X.prog X.w X.K X.mg X.base CX k f fd ps sp) (hr : Room k X.A) (hb : Binds X.K fd ps ds) (hd : Vals dvs ds) (hx : Passes CX X E)
    (ht : eval (.Call (.Attribute o m apos) [] [] pos) X.env = (do
      let ov ← eval o X.env
      standAt apos.atName
      let (f, first) ← holding [ov] (getMethod ov m pl)
      callWith pos f first (backTo pos (starEach [] X.env)) (backToKw pos (keywordEach [] X.env))) := by rfl) :
    PE X (.Call (.Attribute o m apos) [] [] pos) (tMeth C m sp dvs E ta tNil) := by
  intro pins s σ H Q I h
  refine PySem.W.methodCall_KW (pl := pl) (thn (he pins s σ H _ I h) fun u s1 ⟨x, H1, I1, rx, a, dx, fs, ex, ea, l, q⟩ => ?_) ht
  subst ex
  obtain rfl : u = Value.ref a := rx
  refine getmeth_ok I1 ea c hm l ?_
  exact PySem.W.callWith_K0 (first := [.ref a]) I1.kIn hm.kp (run_fn (us := [.ref a]) (vs := [.ref a]) F hr hb hd hx I1 (.cons rfl .nil) q)

/-- what a class must have to be made -/
structure Mk (K : PySem.W.Frag) (C f : Addr) : Prop where
  makes : PySem.W.makesIn K C = true
  init : PySem.W.findIn K (.ref C) "__init__" = some (some (.ref f))
  fn : PySem.W.isFn K (.ref f) = true
  kp : PySem.W.keepIn K (.ref C) = true

theorem run_make {pins : List (Addr × Obj)} {σ : St} {H : Hp} {s : Shared} {Q : VK} {us : List Value} {vs : List V} (M : Mk X.K C f) (F : FnOk X.prog X.w X.K X.mg X.base CX k f fd ps sp) (hr : Room (k + 1) X.A) (hb : Binds X.K fd ps ds) (hd : Vals dvs ds)
    (hx : Passes CX X E) (I : Inv X pins σ H s) (r : Vals vs us)
    (h : ∀ x dx, H x = none → H dx = none → dx ≠ x → sp (.ref x :: (vs ++ dvs)) (upd (upd H dx (.own x)) x (.ins C dx [])) (fun v H2 => v = .non ∧ Q (.ref x) H2) E) :
    wpAny (model X.prog X.w) X.A (call (.ref C) us) (EP X pins σ Q) X.xe s := by
  have hq := h (s.heap.objs.size + 1) s.heap.objs.size (I.hok.fresh (Nat.le_succ _)) (I.hok.fresh (Nat.le_refl _)) (Nat.ne_of_lt (Nat.lt_succ_self _))
  have I2 := Inv.made (C := C) I
  have r2 : Vals (V.ref (s.heap.objs.size + 1) :: (vs ++ dvs)) (Value.ref (s.heap.objs.size + 1) :: (us ++ ds)) := .cons rfl (r.append hd)
  have hl : (Value.ref (s.heap.objs.size + 1) :: us ++ ds).length = ps.length := by
    have e := r2.length
    rw [F.len _ _ _ _ hq] at e
    exact e.symm
  refine wpAny_call (make_map (f := f) I.kIn M.makes M.init (beq_iff_eq.mp M.fn) (codeAny_mono (F.run _ X.stack _ _ ⟨Value.ref (s.heap.objs.size + 1) :: us, []⟩ (Value.ref (s.heap.objs.size + 1) :: (us ++ ds)) _ _ E (hr.make C us [])
    (I2.env0.make C us []) (hb _ (Value.ref (s.heap.objs.size + 1) :: us) I2.kIn hl) r2 hq) fun r s' hq' => ?_))
  cases r with
  | error e => exact hx pins σ _ _ e s' I2 hq'
  | ok fl =>
    cases fl with
    | ret u =>
      obtain ⟨v, H', I3, rv, ev, q3⟩ := I2.after hq'
      subst ev
      exact ⟨rv, ⟨V.ref (s.heap.objs.size + 1), H', I3, rfl, q3⟩⟩
    | next => exact False.elim hq'
    | brk => exact False.elim hq'
    | cont => exact False.elim hq'
theorem pe_make (M : Mk X.K C f) (F : FnOk X.prog X.w X.K X.mg X.base CX k f fd ps sp) (hr : Room (k + 1) X.A) (hg : Gl X x) (hm : X.mg x = some (.ref C)) (hb : Binds X.K fd ps ds) (hd : Vals dvs ds) (hx : Passes CX X E)
    (ha : PA X (e :: es) t) (hdb : (x == ("__debug__" : Str)) = false := by decide) (he : starEach (e :: es) X.env = (false, eval e X.env) :: starEach es X.env := by rfl) (hpl : (backTo pos (starEach es X.env)).any (·.1) = false := by rfl) :
    PE X (.Call (.Name x p) (e :: es) [] pos) (tMake C sp dvs E t) := by
  intro pins s σ H Q I h
  refine wpAny_Call_Name_kw (ld_glob I hg hm ?_ hdb)
  refine PySem.W.callWith_K (h₀ := X.base) I.ok.mod.kin M.kp (thn (ha pos pins s σ H _ I h) fun us s1 ⟨vs, H1, I1, r, q⟩ => ⟨I1.kIn, ?_⟩) he hpl
  exact run_make M F hr hb hd hx I1 r q
end

/-! ### keywords -/
/-- the values of the keywords, from the left -/
def PK (X : Cx) (kws : List Keyword) (t : TA) : Prop :=
  ∀ (pos : Pos) (pins : List (Addr × Obj)) (s : Shared) (σ : St) (H : Hp) (Q : List V → Hp → Prop), Inv X pins σ H s → t σ H Q → wpAny (model X.prog X.w) X.A (evalAll ((backToKw pos (keywordEach kws X.env)).map (·.2))) (AP X pins σ Q) X.xe s
section
variable {X : Cx} {CX : CXT} {k : Nat} {f C : Addr} {fd : FuncData} {ps ks : List Str} {sp : Sp} {E : XK} {x m : Str} {p pos apos kpos : Pos} {e o : Expr} {es : List Expr} {kws : List Keyword} {te ta : TE} {t tk : TA} {nm : Option Str}

/-- how a call with keywords binds: g puts the positional values us and the keywords' values ws (names ks) in the parameters' order, defaults among them -/
structure KBinds (K : PySem.W.Frag) (fd : FuncData) (ps ks : List Str) (g : List Value → List Value → List Value) (gV : List V → List V → List V) : Prop where
  to : ∀ (s : Shared) (us ws : List Value), K.In s.heap → (g us ws).length = ps.length → BindsTo s fd ⟨us, ks.zip ws⟩ (ps.zip (g us ws))
  rel : ∀ {vs : List V} {us : List Value} {zs : List V} {ws : List Value}, Vals vs us → Vals zs ws → Vals (gV vs zs) (g us ws)
def tCallK (sp : Sp) (gV : List V → List V → List V) (E : XK) (t tk : TA) : TE := fun σ H Q => t σ H fun vs H1 => tk σ H1 fun zs H2 => sp (gV vs zs) H2 Q E
variable {g : List Value → List Value → List Value} {gV : List V → List V → List V}
end

/-! ### a def's body keeps its promise -/
/-- names: the parameters first -/
structure FnScope (N P : List Str) (sc : Scope) : Prop where
  kind : sc.kind = .function
  co : sc.isCoroutine = false
  gen : sc.isGenerator = false
  nd : N.Nodup
  pre : N.take P.length = P
  par : ∀ x ∈ P, sc.names.lookup x = some .local ∨ sc.names.lookup x = some .cell
  nofree : ∀ y ∈ sc.names, y.2 ≠ .free

theorem bindL_out {kindOf : Str → Option NameKind} {x : Str} : ∀ {binds : List (Str × Value)} {m : Str → Option Value}, (∀ v, (x, v) ∉ binds) → bindL kindOf binds m x = m x
  | [], _, _ => rfl
  | (n, v) :: r, m, h => by
    unfold bindL
    rw [bindL_out fun w hw => h w (List.mem_cons_of_mem _ hw)]
    split
    · have : x ≠ n := by rintro rfl; exact h v List.mem_cons_self
      simp [this]
    · rfl
theorem bindC_out {kindOf : Str → Option NameKind} {x : Str} : ∀ {binds : List (Str × Value)} {m : Str → Option Value}, (∀ v, (x, v) ∉ binds) → bindC kindOf binds m x = m x
  | [], _, _ => rfl
  | (n, v) :: r, m, h => by
    unfold bindC
    rw [bindC_out fun w hw => h w (List.mem_cons_of_mem _ hw)]
    split
    · rfl
    · have : x ≠ n := by rintro rfl; exact h v List.mem_cons_self
      simp [this]
theorem bindL_get {kindOf : Str → Option NameKind} {x : Str} {v : Value} : ∀ {P : List Str} {vs : List Value} {i : Nat} {m : Str → Option Value}, P.Nodup → P[i]? = some x → vs[i]? = some v → kindOf x = some .local →
    bindL kindOf (P.zip vs) m x = some v
  | [], _, _, _, _, h, _, _ => by simp at h
  | _ :: _, [], _, _, _, _, h, _ => by simp at h
  | p :: P, w :: vs, 0, m, nd, h1, h2, hk => by
    simp at h1 h2; subst h1; subst h2
    show bindL kindOf ((p, w) :: P.zip vs) m p = _
    unfold bindL
    rw [bindL_out fun v hv => (List.nodup_cons.mp nd).1 (List.of_mem_zip hv).1, if_pos hk]
    simp
  | p :: P, w :: vs, i + 1, m, nd, h1, h2, hk => by
    show bindL kindOf ((p, w) :: P.zip vs) m x = _
    unfold bindL
    exact bindL_get (i := i) (List.nodup_cons.mp nd).2 (by simpa using h1) (by simpa using h2) hk
theorem bindC_get {kindOf : Str → Option NameKind} {x : Str} {v : Value} : ∀ {P : List Str} {vs : List Value} {i : Nat} {m : Str → Option Value}, P.Nodup → P[i]? = some x → vs[i]? = some v → kindOf x ≠ some .local →
    bindC kindOf (P.zip vs) m x = some v
  | [], _, _, _, _, h, _, _ => by simp at h
  | _ :: _, [], _, _, _, _, h, _ => by simp at h
  | p :: P, w :: vs, 0, m, nd, h1, h2, hk => by
    simp at h1 h2; subst h1; subst h2
    show bindC kindOf ((p, w) :: P.zip vs) m p = _
    unfold bindC
    rw [bindC_out fun v hv => (List.nodup_cons.mp nd).1 (List.of_mem_zip hv).1, if_neg hk]
    simp
  | p :: P, w :: vs, i + 1, m, nd, h1, h2, hk => by
    show bindC kindOf ((p, w) :: P.zip vs) m x = _
    unfold bindC
    exact bindC_get (i := i) (List.nodup_cons.mp nd).2 (by simpa using h1) (by simpa using h2) hk

/-- the names' values at the entry -/
def start (N : List Str) (vs : List V) : St := vs.map some ++ List.replicate (N.length - vs.length) none

/-- the context of a def's body, at its entry; an exception leaves the frame, then lies as CX says -/
def cxOf (CX : CXT) (P : Program) (w : World) (K : PySem.W.Frag) (mg : Str → Option Value) (base : Heap) (N : List Str) (qual : Str) (scope : Scope) (f : Addr) (cd : Value) (A : Around) (outer : List Env) (s : Shared) (H : Hp) (E : XK) : Cx where
  prog := P
  w := w
  K := K
  mg := mg
  base := base
  A := A.deeper (envOfC qual scope s.heap.objs.size f cd)
  N := N
  s₀ := s
  H₀ := H
  env := envOfC qual scope s.heap.objs.size f cd
  outer := outer
  stack := envOfC qual scope s.heap.objs.size f cd :: outer
  ex := []
  calm := true
  fn := fun _ => true
  pn := []
  xe := fun e s' => wpAny (model P w) (A.deeper (envOfC qual scope s.heap.objs.size f cd)) (leaving (envOfC qual scope s.heap.objs.size f cd) e) (fun _ s'' => CX outer H s E e s'') (fun e' s'' => CX outer H s E e' s'') s'

theorem cell_has {sc : Scope} {n : Nat} {x : Str} (h : sc.names.lookup x = some .cell) : ∃ c, (cellsFrom n sc.names []).lookup x = some c := by
  have q := PySem.W.cellsFrom_some sc.names n [] (.inl h)
  exact Option.isSome_iff_exists.mp q

theorem inv_start {CX : CXT} {P : Program} {w : World} {K : PySem.W.Frag} {mg : Str → Option Value} {base : Heap} {N ps : List Str} {qual : Str} {scope : Scope} {f : Addr} {cd : Value} {A : Around} {outer : List Env} {s s1 : Shared} {H : Hp} {E : XK} {us : List Value} {vs : List V}
    (S : FnScope N ps scope) (hd : A.handled = none) (e0 : Env0 P w K mg base A outer s H) (hl : vs.length = ps.length) (r : Vals vs us)
    (x : InCallC s s.heap.objs.size (bindL (envOfC qual scope s.heap.objs.size f cd).kindOf (ps.zip us) fun _ => none) (cellsFrom (s.heap.objs.size + 1) scope.names []) (bindC (envOfC qual scope s.heap.objs.size f cd).kindOf (ps.zip us) fun _ => none) s1) :
    Inv (cxOf CX P w K mg base N qual scope f cd A outer s H E) [] (start N vs) H s1 := by
  have hpl : ps.length ≤ N.length := by have := congrArg List.length S.pre; rw [List.length_take] at this; omega
  obtain ⟨h1, tk, rfl, hk⟩ := x.done
  have noA : ∀ b : Addr, b ∉ (cxOf CX P w K mg base N qual scope f cd A outer s H E).ex := fun b z => absurd (show b ∈ ([] : List Addr) from z) (by simp)
  refine ⟨⟨e0.mod, S.kind, rfl, rfl, Nat.le_refl _, fun y z c h1 h2 => ?_, fun y hy => ?_, fun y c _ h => ?_, fun _ => hd, Around.frames_deeper e0.frames, .inr ⟨rfl, rfl⟩, fun b z => absurd z (noA b), e0.bs, e0.bsz, fun b _ _ => noA b, fun b z => absurd z (noA b), e0.funs, e0.frf⟩,
    rfl, e0.bare, Un.kept hk, ⟨_, x.toInCall.ns, fun i y v h1 h2 h3 => ?_⟩, fun y c h => ⟨_, x.cell y c h⟩, e0.hok.fresh (Nat.le_refl _), fun y c h => ?_, fun p hp => absurd (show p ∈ ([] : List (Addr × Obj)) from hp) (by simp), e0.hok.kept hk, ?_⟩
  · exact name_of_addr x.apart (PySem.mem_of_lookup h1) (PySem.mem_of_lookup h2)
  · have hy : scope.names.lookup y = some .cell ∨ scope.names.lookup y = some .free := hy
    rcases hy with hy | hy
    · exact cell_has hy
    · exact absurd rfl (S.nofree _ (PySem.mem_of_lookup hy))
  · exact Nat.le_of_lt (x.above y c (PySem.mem_of_lookup h))
  · have hi : i < vs.length := by
      unfold start at h2
      by_cases hi : i < vs.length
      · exact hi
      · rw [List.getElem?_append_right (by simpa using hi)] at h2
        rw [List.getElem?_replicate] at h2
        split at h2 <;> cases h2
    have ha : vs[i]? = some v := by
      unfold start at h2
      rw [List.getElem?_append_left (by simpa using hi), List.getElem?_map] at h2
      cases e : vs[i]? with
      | none => rw [e] at h2; cases h2
      | some a => rw [e] at h2; cases h2; rfl
    obtain ⟨u, hu, rv⟩ := r.get ha
    have hp : ps[i]? = some y := by
      rw [← S.pre, List.getElem?_take_of_lt (by omega)]; exact h1
    have ndP : ps.Nodup := by rw [← S.pre]; exact S.nd.sublist (List.take_sublist _ _)
    refine ⟨u, rv, ?_⟩
    rcases S.par y (List.mem_of_getElem? hp) with k | k
    · exact .inl ⟨k, bindL_get ndP hp hu k⟩
    · obtain ⟨c, e⟩ := cell_has (n := s.heap.objs.size + 1) k
      refine .inr ⟨.inl k, c, e, ?_⟩
      have q := x.cell y c e
      rw [bindC_get ndP hp hu (by show scope.names.lookup y ≠ _; rw [k]; decide)] at q
      exact q
  · exact e0.hok.fresh (Nat.le_of_lt (x.above y c (PySem.mem_of_lookup h)))
  · unfold start
    show _ = N.length
    rw [List.length_append, List.length_map, List.length_replicate]
    omega

/-- THE RULE: a def (or a method) of the text, by its body. The body's reading t is chosen for each entry; it is run at the parameters' values -/
theorem fn_of {CX : CXT} {P : Program} {w : World} {K : PySem.W.Frag} {mg : Str → Option Value} {base : Heap} {k : Nat} {f : Addr} {name qual : Str} {params : Arguments} {body : List Stmt} {scope : Scope} {dV kV doc pm cdv ct oc : Value} {an od : Option Addr}
    {osl : Array (Option Value)} {N ps : List Str} {sp : Sp} (lk : K.lookup f = some ⟨oc, od, .func (PySem.W.fnOf name qual params body scope dV kV doc pm an cdv ct), osl⟩) (hcd : PySem.W.codeIn K cdv qual = true) (S : FnScope N ps scope)
    (len : ∀ vs H Q E, sp vs H Q E → vs.length = ps.length)
    (hbody : ∀ (A : Around) (outer : List Env) (s : Shared) (H : Hp) (vs : List V) (Q : VK) (E : XK), Room k (A.deeper (envOfC qual scope s.heap.objs.size f cdv)) → sp vs H Q E →
      ∃ t, PSs (cxOf CX P w K mg base N qual scope f cdv A outer s H E) body t ∧ t { nx := fun _ H' => Q .non H', rt := Q } (start N vs) H) :
    FnOk P w K mg base CX (k + 1) f (PySem.W.fnOf name qual params body scope dV kV doc pm an cdv ct) ps sp := by
  refine ⟨len, fun A outer s H args us vs Q E hr e0 hb r hsp => ?_⟩
  have hl := len _ _ _ _ hsp
  have KX : K.In s.heap := e0.mod.kin.keeps fun b o e => (e0.bs b o e).1
  have lim : s.heap.NoLimit := e0.mod.nolimit.keeps fun b o e => (e0.bs b o e).1
  have hkind : ∀ y ∈ ps.zip us, scope.names.lookup y.1 = some .local ∨ (scope.names.lookup y.1 = some .cell ∧ ((cellsFrom (s.heap.objs.size + 1) scope.names []).lookup y.1).isSome = true) := fun ⟨n, v⟩ hy => by
    rcases S.par n (List.of_mem_zip hy).1 with q | q
    · exact .inl q
    · exact .inr ⟨q, PySem.W.cellsFrom_some _ _ _ (.inl q)⟩
  refine codeAny_call_function hr.depth (KX _ _ lk) rfl S.co S.gen rfl (PySem.W.codeRec_of KX hcd) (hb _ _ _ _ ?_)
  refine wpAny_newFunctionEnv_cells S.kind hkind fun env he s1 x => ?_
  subst he
  refine ⟨lim.keeps x.toInCall.keep, codeAny_func ?_⟩
  obtain ⟨t, ht, hq⟩ := hbody A outer s H vs Q E (hr.deeper _) hsp
  have I : Inv (cxOf CX P w K mg base N qual scope f cdv A outer s H E) [] (start N vs) H s1 := inv_start S hr.hd e0 hl r x
  refine wpAny_mono (ht [] s1 (start N vs) H _ I hq) (fun fl s' hs => ?_) fun e s' hs => hs
  have fin : ∀ {σ' : St} {H' : Hp} {v : V} {u : Value}, Inv (cxOf CX P w K mg base N qual scope f cdv A outer s H E) [] σ' H' s' → RelV v u → Q v H' → CE outer P w H s Q u s' :=
    fun {σ' H' v u} J rv q => ⟨v, H', J.os, J.bare, J.base, J.hok, rv, q⟩
  cases fl with
  | ret u =>
    obtain ⟨v, σ', H', J, rv, q⟩ := hs
    exact fin J rv q
  | next =>
    obtain ⟨σ', H', J, q⟩ := hs
    exact fin (v := V.non) (u := Value.none) J rfl q
  | brk =>
    obtain ⟨_, _, _, q⟩ := hs
    exact False.elim q
  | cont =>
    obtain ⟨_, _, _, q⟩ := hs
    exact False.elim q
end L2

namespace L2
open PySem PySem.Spec PyProof.Rows
section
variable {X : Cx} {x : Str} {p pos : Pos} {e : Expr} {es : List Expr} {t : TA} {id T : String} {r : List V → Hp → VK → Prop}

def tCB (r : List V → Hp → VK → Prop) (t : TA) : TE := fun σ H Q => t σ H fun vs H1 => r vs H1 Q
/-- f(e, ..), f a built-in function -/
theorem pe_callB (hc : CallR X (.builtin id) r) (hg : Gl X x) (hm : X.mg x = none) (hv : bootBuiltins x = some (.builtin id)) (ha : PA X (e :: es) t) (hn : x ≠ "__name__" := by decide) (hdb : (x == ("__debug__" : Str)) = false := by decide)
    (he : starEach (e :: es) X.env = (false, eval e X.env) :: starEach es X.env := by rfl) (hpl : (backTo pos (starEach es X.env)).any (·.1) = false := by rfl) : PE X (.Call (.Name x p) (e :: es) [] pos) (tCB r t) := by
  intro pins s σ H Q I h
  refine wpAny_Call_Name_kw (ld_blt I hg hm hv ?_ hn hdb)
  exact PyProof.Rows.callWith_builtin1 (thn (ha pos pins s σ H _ I h) fun us s1 ⟨vs, H1, I1, r1, q1⟩ => hc pins s1 σ H1 vs us Q I1 r1 q1) he hpl
/-- T(e, ..), T a built-in type -/
theorem pe_callTy (hc : CallR X (.type T) r) (hg : Gl X x) (hm : X.mg x = none) (hv : bootBuiltins x = some (.type T)) (ha : PA X (e :: es) t) (hn : x ≠ "__name__" := by decide) (hdb : (x == ("__debug__" : Str)) = false := by decide)
    (he : starEach (e :: es) X.env = (false, eval e X.env) :: starEach es X.env := by rfl) (hpl : (backTo pos (starEach es X.env)).any (·.1) = false := by rfl) : PE X (.Call (.Name x p) (e :: es) [] pos) (tCB r t) := by
  intro pins s σ H Q I h
  refine wpAny_Call_Name_kw (ld_blt I hg hm hv ?_ hn hdb)
  exact PyProof.Rows.callWith_type1 (thn (ha pos pins s σ H _ I h) fun us s1 ⟨vs, H1, I1, r1, q1⟩ => hc pins s1 σ H1 vs us Q I1 r1 q1) he hpl
end
end L2

namespace HT
open PySem PyProof.Rows

/-- t < u of tuples of ints -/
def lexLt : List Int → List Int → Bool
  | [], [] => false
  | [], _ :: _ => true
  | _ :: _, [] => false
  | x :: xs, y :: ys => if x = y then lexLt xs ys else decide (x < y)


section
open PySem.SeqAt
open PySem.AutoSeq1 (wpAny_loadPart')
open PySem.MeetsSeq PySem.MeetsSeq2 PySem.MeetsSeq3

end

section
variable {prog : Program} {w : World} {A : Around} {E : Value → Shared → Prop} {s : Shared}



/-! ### t[a:b], not the whole -/
/-- a slice's bound as a place among n (d where it is left out) -/
def sIx (n d : Nat) : Option Int → Nat
  | none => d
  | some v => if v < 0 then (v + (n : Int)).toNat else min v.toNat n
theorem sIx_none (n d : Nat) : sIx n d none = d := rfl
theorem sIx_nat (n d k : Nat) : sIx n d (some (k : Int)) = min k n := by
  show (if (k : Int) < 0 then ((k : Int) + (n : Int)).toNat else min (k : Int).toNat n) = min k n
  rw [if_neg (by omega), Int.toNat_natCast]

end
end HT

namespace L2
open PySem PySem.Spec PyProof.Rows

/-! ### the parts of a slice -/
abbrev TO := St → Hp → (Option Int → Hp → Prop) → Prop
/-- a slice's part (left out, or an int) -/
def PO (X : Cx) (e : Option Expr) (t : TO) : Prop :=
  ∀ (pins : List (Addr × Obj)) (s : Shared) (σ : St) (H : Hp) (Q : Option Int → Hp → Prop), Inv X pins σ H s → t σ H Q →
    wpAny (model X.prog X.w) X.A (evalPart e X.env) (fun u s' => ∃ o H', Inv X pins σ H' s' ∧ IsPart u o ∧ Q o H') X.xe s
def tNoPart : TO := fun _ H Q => Q none H
def tPart (t : TE) : TO := fun σ H Q => t σ H fun x H1 => ∃ i, x = .int i ∧ Q (some i) H1


section
variable {X : Cx} {e : Expr} {te : TE} {lo hi : Option Expr} {tl th : TO} {pos p2 : Pos}

theorem po_none : PO X none tNoPart := by
  intro pins s σ H Q I h
  rw [evalPart_none]
  exact wpAny_pure ⟨none, H, I, .none, h⟩
theorem po_some (h : PE X e te) : PO X (some e) (tPart te) := by
  intro pins s σ H Q I hw
  rw [evalPart_some]
  refine thn (h pins s σ H _ I hw) fun u s1 ⟨x, H1, I1, r1, q1⟩ => ?_
  obtain ⟨i, rfl, q⟩ := q1
  obtain ⟨t, rfl⟩ := r1
  exact ⟨some i, H1, I1, .int i t, q⟩

/-- what a slice of a value is, by values: the slice object stands at sl -/
def SlR (X : Cx) (r : V → Option Int → Option Int → Hp → VK → Prop) : Prop :=
  ∀ (pins : List (Addr × Obj)) (s : Shared) (σ : St) (H : Hp) (x : V) (v vl vu : Value) (lo hi : Option Int) (sl : Addr) (Q : VK), Inv X pins σ H s → RelV x v → s.heap.IsSliceOf sl vl vu .none → IsPart vl lo → IsPart vu hi → r x lo hi H Q →
    ∃ T id, typeLookup (.type T) "__getitem__" = pure (some (.builtin id)) ∧ s.TypeIs v T ∧ wpAny (model X.prog X.w) X.A (getItem v (.ref sl)) (EP X pins σ Q) X.xe s
def tSl (r : V → Option Int → Option Int → Hp → VK → Prop) (te : TE) (tl th : TO) : TE := fun σ H Q => te σ H fun x H1 => tl σ H1 fun l H2 => th σ H2 fun u H3 => r x l u H3 Q
/-- a[lo:hi], any a -/
theorem pe_slice {r : V → Option Int → Option Int → Hp → VK → Prop} (hr : SlR X r) (he : PE X e te) (hl : PO X lo tl) (hu : PO X hi th) : PE X (.Subscript e (.Slice lo hi none p2) pos) (tSl r te tl th) := by
  intro pins s σ H Q I h
  refine Subscript_ (thn (he pins s σ H _ I h) fun v s1 ⟨x, H1, I1, r1, q1⟩ => ?_)
  refine wpAny_Slice (thn (hl pins s1 σ H1 _ I1 q1) fun vl s2 ⟨l, H2, I2, pl, q2⟩ => thn (hu pins s2 σ H2 _ I2 q2) fun vu s3 ⟨u, H3, I3, pu, q3⟩ => ?_)
  rw [evalPart_none]
  refine wpAny_pure ?_
  have I4 : Inv X pins σ H3 { s3 with heap := s3.heap.push { cls := .type "slice", data := .fields #[vl, vu, .none] } } := I3.kept (t' := s3.toks) fun b ob q => Heap.get?_push_of_some _ q
  obtain ⟨T, id, hT, ht, hg⟩ := hr pins { s3 with heap := s3.heap.push { cls := .type "slice", data := .fields #[vl, vu, .none] } } σ H3 x v vl vu l u s3.heap.objs.size Q I4 r1 (Heap.IsSliceOf.new ..) pl pu q3
  show wpAny (model X.prog X.w) X.A (subscriptTail e (.Slice lo hi none p2) v (.ref s3.heap.objs.size)) (EP X pins σ Q) X.xe { s3 with heap := s3.heap.push { cls := .type "slice", data := .fields #[vl, vu, .none] } }
  exact tail_any (ops := [.ref s3.heap.objs.size, v]) ht hT hg (by with_unfolding_all rfl)

/-- the items of xs[lo:hi] -/
def cutV (xs : List V) (lo hi : Option Int) : List V := (xs.drop (HT.sIx xs.length 0 lo)).take (HT.sIx xs.length xs.length hi - HT.sIx xs.length 0 lo)
theorem cutV_length (xs : List V) (lo hi : Option Int) : (cutV xs lo hi).length ≤ xs.length := by
  unfold cutV
  rw [List.length_take, List.length_drop]
  omega
/-- t[lo:hi], not the whole of it (the whole would be t itself) -/
def rSlT (K : PySem.W.Frag) : V → Option Int → Option Int → Hp → VK → Prop := fun x lo hi H Q => ∃ a xs, x = .ref a ∧ SqT K H a xs ∧
  ¬ (HT.sIx xs.length 0 lo = 0 ∧ HT.sIx xs.length xs.length hi = xs.length) ∧ ∀ p, H p = none → Q (.ref p) (upd H p (.tup (cutV xs lo hi)))

/-! ### t < u, t + u -/
def rLtT (K : PySem.W.Frag) : R2 := fun x y H Q => ∃ a b ns ms, x = .ref a ∧ y = .ref b ∧ SqT K H a (ns.map V.int) ∧ SqT K H b (ms.map V.int) ∧ Q (.bl (HT.lexLt ns ms)) H
/-- t + u, t not empty: u empty gives t itself -/
def rCatT (K : PySem.W.Frag) : R2 := fun x y H Q => ∃ a b xs ys, x = .ref a ∧ y = .ref b ∧ SqT K H a xs ∧ SqT K H b ys ∧ xs ≠ [] ∧ xs.length + ys.length ≤ sizeLine ∧
  (ys = [] → Q (.ref a) H) ∧ (ys ≠ [] → ∀ p, H p = none → Q (.ref p) (upd H p (.tup (xs ++ ys))))
end
end L2

namespace L2
open PySem PySem.Spec PyProof.Rows

/-! ### places -/
/-- the place that an index of any sign means -/
def ixN (n : Nat) (i : Int) : Option Nat := if 0 ≤ i then (if i < n then some i.toNat else none) else if -(n : Int) ≤ i then some (i + n).toNat else none
def atI {α : Type} (xs : List α) (i : Int) : Option α := (ixN xs.length i).bind fun j => xs[j]?
theorem ixN_seq {n : Nat} {i : Int} {j : Nat} (h : ixN n i = some j) : seqIndex? i n = some j ∧ j < n ∧ -(n : Int) ≤ i ∧ i < n := by
  unfold ixN at h
  by_cases h0 : 0 ≤ i
  · rw [if_pos h0] at h
    by_cases h1 : i < n
    · rw [if_pos h1] at h
      have e : i.toNat = j := Option.some.inj h
      exact ⟨by rw [seqIndex_of h0 h1, e], by omega, by omega, h1⟩
    · rw [if_neg h1] at h; cases h
  · rw [if_neg h0] at h
    by_cases h1 : -(n : Int) ≤ i
    · rw [if_pos h1] at h
      have e : (i + n).toNat = j := Option.some.inj h
      exact ⟨by rw [seqIndex_neg (by omega) h1, e], by omega, h1, by omega⟩
    · rw [if_neg h1] at h; cases h
theorem atI_get {α : Type} {xs : List α} {i : Int} {v : α} (h : atI xs i = some v) : ∃ j, seqIndex? i xs.length = some j ∧ xs[j]? = some v ∧ j < xs.length ∧ -(xs.length : Int) ≤ i ∧ i < xs.length := by
  unfold atI at h
  cases e : ixN xs.length i with
  | none => rw [e] at h; cases h
  | some j =>
    rw [e] at h
    obtain ⟨h1, h2, h3, h4⟩ := ixN_seq e
    exact ⟨j, h1, h, h2, h3, h4⟩
theorem atI_nat {α : Type} {xs : List α} {j : Nat} {v : α} (h : xs[j]? = some v) : atI xs (j : Int) = some v := by
  have hj : j < xs.length := (List.getElem?_eq_some_iff.mp h).1
  have e : ixN xs.length (j : Int) = some j := by
    unfold ixN
    rw [if_pos (by omega), if_pos (by omega)]; simp
  unfold atI; rw [e]; exact h

/-! ### what may be subscripted -/
/-- what stands as an index of a plain subscript -/
def PlainIx (b : Expr) : Prop := ∀ o i, subscripted b false o i = operate [o, i] (getItem o i)
/-- a subscript by values -/
def IxR (X : Cx) (r : R2) : Prop :=
  ∀ (value slice : Expr) (pins : List (Addr × Obj)) (s : Shared) (σ : St) (H : Hp) (x y : V) (v u : Value) (Q : VK), Inv X pins σ H s → RelV x v → RelV y u → r x y H Q →
    subscripted slice false v u = operate [v, u] (getItem v u) → wpAny (model X.prog X.w) X.A (subscriptTail value slice v u) (EP X pins σ Q) X.xe s
/-- a call of a builtin's method by values: the receiver, the arguments -/
def MtR (X : Cx) (id : String) (r : V → List V → Hp → VK → Prop) : Prop :=
  ∀ (pins : List (Addr × Obj)) (s : Shared) (σ : St) (H : Hp) (x : V) (xs : List V) (v : Value) (us : List Value) (Q : VK), Inv X pins σ H s → RelV x v → Vals xs us → r x xs H Q →
    wpAny (model X.prog X.w) X.A (call (.builtin id) (v :: us)) (EP X pins σ Q) X.xe s
section
variable {X : Cx} {a b : Expr} {ta tb : TE} {pos : Pos}
/-- a[b] -/
theorem pe_ix {r : R2} (hr : IxR X r) (ha : PE X a ta) (hb : PE X b tb) (hs : PlainIx b) : PE X (.Subscript a b pos) (tOp r ta tb) := by
  intro pins s σ H Q I h
  exact Subscript_ (binT ha hb I h fun v u s2 x y H2 I2 rx ry q => hr a b pins s2 σ H2 x y v u Q I2 rx ry q (hs _ _))

def rIxL (K : PySem.W.Frag) : R2 := fun x y H Q => ∃ p xs i v, x = .ref p ∧ y = .int i ∧ SqL K H p xs ∧ atI xs i = some v ∧ Q v H
def rIxT (K : PySem.W.Frag) : R2 := fun x y H Q => ∃ p xs i v, x = .ref p ∧ y = .int i ∧ SqT K H p xs ∧ atI xs i = some v ∧ Q v H
def rIxS : R2 := fun x y H Q => ∃ z i c, x = .str z ∧ y = .int i ∧ z.length ≤ sizeLine ∧ atI z.cps.toList i = some c ∧ Q (.str ⟨#[c]⟩) H
theorem ix_list : IxR X (rIxL X.K) := by
  intro value slice pins s σ H x y v u Q I rx ry h hs
  obtain ⟨p, xs, i, z, rfl, rfl, hq, he, q⟩ := h
  cases rx
  obtain ⟨t, rfl⟩ := ry
  obtain ⟨its, r, pl, hz⟩ := I.list hq
  obtain ⟨j, h1, h2, h3, h4, h5⟩ := atI_get he
  obtain ⟨w, ew, rw'⟩ := r.get h2
  have hl := r.length
  have hn := line63
  have fin : EP X pins σ Q w s := ⟨z, H, I, rw', q⟩
  by_cases h0 : 0 ≤ i
  · have hj : i.toNat = j := by
      rw [seqIndex_of h0 h5] at h1
      exact Option.some.inj h1
    exact item_listR pl.isList h0 (by omega) (by rw [hj]; simpa using ew) fin hs
  · have hj : (i + (its.toArray.size : Int)).toNat = j := by
      rw [seqIndex_neg (by omega) h4] at h1
      rw [List.size_toArray, ← hl]
      exact Option.some.inj h1
    exact subscriptTail_builtinR (x := w) pl.isList.typeIs slot_list_getitem.lookup
      (wpAny_getItem_list_neg (Q := fun r s' => r = w ∧ EP X pins σ Q r s') pl.isList (by omega) (by rw [List.size_toArray] <;> omega) (by omega) (by rw [hj]; simpa using ew) ⟨rfl, fin⟩) hs
theorem ix_tup : IxR X (rIxT X.K) := by
  intro value slice pins s σ H x y v u Q I rx ry h hs
  obtain ⟨p, xs, i, z, rfl, rfl, hq, he, q⟩ := h
  cases rx
  obtain ⟨t, rfl⟩ := ry
  obtain ⟨its, r, pl, hz⟩ := I.tuple hq
  obtain ⟨j, h1, h2, h3, h4, h5⟩ := atI_get he
  obtain ⟨w, ew, rw'⟩ := r.get h2
  have hl := r.length
  have hn := line63
  have fin : EP X pins σ Q w s := ⟨z, H, I, rw', q⟩
  exact subscriptTail_builtinR (x := w) pl.typeIs slot_tuple_getitem.lookup
    (getItem_tuple (j := j) (Q := fun r s' => r = w ∧ EP X pins σ Q r s') pl (by omega) (by omega) (by rw [List.size_toArray, ← hl]; exact h1) (by simpa using ew) ⟨rfl, fin⟩) hs
/-- list, tuple or str -/
def rIx (K : PySem.W.Frag) : R2 := fun x y H Q => rIxL K x y H Q ∨ rIxT K x y H Q ∨ rIxS x y H Q

/-! ### xs[i] = v, any sign -/
def rSetL : V → V → V → Hp → (Hp → Prop) → Prop := fun o i v H Q => ∃ p xs k j, o = .ref p ∧ i = .int k ∧ H p = some (.lst xs) ∧ ixN xs.length k = some j ∧ Q (upd H p (.lst (xs.set j v)))

/-! ### slices -/
theorem slice_bounds (lo hi : Option Int) (n : Nat) : (sliceBounds lo hi none n).1 = ((HT.sIx n 0 lo : Nat) : Int) ∧ (sliceBounds lo hi none n).2.1 = ((HT.sIx n n hi : Nat) : Int) ∧ (sliceBounds lo hi none n).2.2 = 1 := by
  refine ⟨?_, ?_, rfl⟩
  · cases lo with
    | none => simp [sliceBounds, HT.sIx]
    | some i =>
      simp only [sliceBounds, HT.sIx, Option.getD_none, show (1 : Int) > 0 by decide, if_true]
      by_cases h : i < 0
      · simp only [h, if_true] <;> omega
      · simp only [h, if_false] <;> omega
  · cases hi with
    | none => simp [sliceBounds, HT.sIx]
    | some i =>
      simp only [sliceBounds, HT.sIx, Option.getD_none, show (1 : Int) > 0 by decide, if_true]
      by_cases h : i < 0
      · simp only [h, if_true] <;> omega
      · simp only [h, if_false] <;> omega
theorem slicePick_cut (its : List Value) (lo hi : Option Int) : slicePick its.toArray lo hi none = ((its.drop (HT.sIx its.length 0 lo)).take (HT.sIx its.length its.length hi - HT.sIx its.length 0 lo)).toArray := by
  obtain ⟨h1, h2, h3⟩ := slice_bounds lo hi its.toArray.size
  unfold slicePick
  rw [h1, h2, h3]
  simp only [sliceRange_one, pick_run, List.size_toArray] <;> rfl
/-- xs[lo:hi] of a list: a new list -/
def rSlL (K : PySem.W.Frag) : V → Option Int → Option Int → Hp → VK → Prop := fun x lo hi H Q => ∃ a xs, x = .ref a ∧ SqL K H a xs ∧ ∀ p, H p = none → Q (.ref p) (upd H p (.lst (cutV xs lo hi)))
theorem sl_list : SlR X (rSlL X.K) := by
  intro pins s σ H x v vl vu lo hi sl Q I rx hs pl pu h
  obtain ⟨a, xs, rfl, hx, q⟩ := h
  cases rx
  obtain ⟨its, r, ht, hz⟩ := I.list hx
  have hlen := r.length
  refine ⟨"list", _, slot_list_getitem.lookup, ht.isList.typeIs, ?_⟩
  refine wpAny_getItem_list_slice ht.isList hs pl pu .none (by simp) ?_ (by rw [List.size_toArray] <;> omega)
  rw [slicePick_cut, ← hlen]
  refine ⟨.ref s.heap.objs.size, _, I.laid (t' := s.toks) (o := .lst (cutV xs lo hi)) (fun b ob q => Heap.get?_push_of_some _ q) (Nat.le_refl _) ?_, rfl, q _ (I.hok.fresh (Nat.le_refl _))⟩
  exact ⟨Nat.le_trans (cutV_length xs lo hi) hz, _, 0, (r.drop (HT.sIx xs.length 0 lo)).take (HT.sIx xs.length xs.length hi - HT.sIx xs.length 0 lo), Heap.get?_push_size _ rfl⟩

/-! ### in, not in: flat items -/
def flatV : V → Bool
  | .non => true
  | .bl _ => true
  | .int _ => true
  | .str _ => true
  | _ => false
/-- == of flat values -/
def eqV : V → V → Bool
  | .non, .non => true
  | .bl a, .bl b => a == b
  | .bl a, .int b => (if a then 1 else 0) == b
  | .int a, .bl b => a == (if b then 1 else 0)
  | .int a, .int b => a == b
  | .str a, .str b => a == b
  | _, _ => false
/-- the items' answers, read off the values (a value's own answer does not lean on its token) -/
def eqU (x : V) (u : Value) : Bool := match u with
  | .none => eqV .non x
  | .bool b => eqV (.bl b) x
  | .int i _ => eqV (.int i) x
  | .str z _ => eqV (.str z) x
  | _ => false
def inV (x : V) (xs : List V) : Bool := xs.any fun y => eqV y x
/-- x in a list or tuple of flat items -/
def rIn (K : PySem.W.Frag) (neg : Bool) : R2 := fun x y H Q => ∃ p xs, y = .ref p ∧ (SqL K H p xs ∨ SqT K H p xs) ∧ flatV x = true ∧ xs.all flatV = true ∧ Q (.bl (if neg then !inV x xs else inV x xs)) H

/-! ### len, list(x), tuple(x) of any list or tuple that is read -/
theorem call_len_seq : CallR X (.builtin "len") (fun xs H Q => ∃ p ys, xs = [.ref p] ∧ (SqL X.K H p ys ∨ SqT X.K H p ys) ∧ Q (.int ys.length) H) := by
  intro pins s σ H xs us Q I r h
  obtain ⟨p, ys, rfl, hq, q⟩ := h
  obtain ⟨u, rfl, rx⟩ := vals1 r
  cases rx
  have hn := line63
  rcases hq with hq | hq
  · obtain ⟨its, r', pl, hz⟩ := I.list hq
    have hlen := r'.length
    exact Calls.call_len_list pl.isList (by simp only [List.size_toArray] <;> omega) ⟨.int ys.length, H, I.tok _, ⟨s.toks + 1, by rw [List.size_toArray, hlen]⟩, q⟩
  · obtain ⟨its, r', pl, hz⟩ := I.tuple hq
    have hlen := r'.length
    exact len_tuple pl (by simp only [List.size_toArray] <;> omega) ⟨.int ys.length, H, I.tok _, ⟨s.toks + 1, by rw [List.size_toArray, hlen]⟩, q⟩
theorem call_list_of : CallR X (.type "list") (fun xs H Q => ∃ p ys, xs = [.ref p] ∧ (SqL X.K H p ys ∨ SqT X.K H p ys) ∧ ∀ l, H l = none → Q (.ref l) (upd H l (.lst ys))) := by
  intro pins s σ H xs us Q I r h
  obtain ⟨p, ys, rfl, hq, q⟩ := h
  obtain ⟨u, rfl, rx⟩ := vals1 r
  cases rx
  have fin : ∀ (its : List Value), Vals ys its → ys.length ≤ sizeLine → ∀ (h' : Heap) (c' : Nat), (∀ b o', s.heap.get? b = some o' → h'.get? b = some o') →
      h'.get? s.heap.objs.size = some { cls := .type "list", dict := none, data := .seq its.toArray c', slots := #[] } → EP X pins σ Q (.ref s.heap.objs.size) { s with heap := h' } := fun its r' hz h' c' kp e =>
    ⟨.ref s.heap.objs.size, _, I.laid (t' := s.toks) kp (Nat.le_refl _) (show ObjOk X.prog X.w _ h' _ (.lst ys) from ⟨hz, its, c', r', e⟩), rfl, q _ (I.hok.fresh (Nat.le_refl _))⟩
  rcases hq with hq | hq
  · obtain ⟨its, r', pl, hz⟩ := I.list hq
    have hlen := r'.length
    obtain ⟨o, ho, hc, n, hd⟩ := pl.isList
    exact call_list_seq p (.inl rfl) ho hc hd (fun h' c' kp e => fin its r' hz h' c' kp e) (by simp only [List.size_toArray] <;> omega)
  · obtain ⟨its, r', pl, hz⟩ := I.tuple hq
    have hlen := r'.length
    obtain ⟨o, ho, hc, n, hd⟩ := pl
    exact call_list_seq p (.inr rfl) ho hc hd (fun h' c' kp e => fin its r' hz h' c' kp e) (by simp only [List.size_toArray] <;> omega)
theorem call_tuple_of : CallR X (.type "tuple") (fun xs H Q => ∃ p ys, xs = [.ref p] ∧ ((SqL X.K H p ys ∧ ∀ l, H l = none → Q (.ref l) (upd H l (.tup ys))) ∨ (SqT X.K H p ys ∧ Q (.ref p) H))) := by
  intro pins s σ H xs us Q I r h
  obtain ⟨p, ys, rfl, h⟩ := h
  obtain ⟨u, rfl, rx⟩ := vals1 r
  cases rx
  rcases h with ⟨hq, q⟩ | ⟨hq, q⟩
  · obtain ⟨its, r', pl, hz⟩ := I.list hq
    have hlen := r'.length
    refine call_tuple_list pl.isList (fun h' kp => ?_) (by simp only [List.size_toArray] <;> omega)
    have I1 : Inv X pins σ H { s with heap := h' } := I.kept (t' := s.toks) kp
    have I2 : Inv X pins σ (upd H h'.objs.size (.tup ys)) { s with heap := h'.push { cls := .type "tuple", data := .seq its.toArray } } :=
      I1.laid (t' := s.toks) (fun b o e => Heap.get?_push_of_some _ e) (Nat.le_refl _) (show ObjOk X.prog X.w _ _ _ (.tup ys) from ⟨hz, its, r', IsTup.new _ _⟩)
    exact ⟨.ref h'.objs.size, _, I2, rfl, q _ (I1.hok.fresh (Nat.le_refl _))⟩
  · obtain ⟨its, r', pl, hz⟩ := I.tuple hq
    exact call_tuple_same pl ⟨.ref p, H, I, rfl, q⟩

/-! ### the call of a builtin's method: o.m(..) -/
/-- the value is of that builtin type -/
def tyV (K : PySem.W.Frag) (T : String) (x : V) (H : Hp) : Prop := match x with
  | .str _ => T = "str"
  | .int _ => T = "int"
  | .ref p => (T = "list" ∧ ∃ xs, SqL K H p xs) ∨ (T = "tuple" ∧ ∃ o, K.lookup p = some o ∧ o.cls = .type "tuple" ∧ o.dict = none) ∨
      (T = "dict" ∧ ((∃ kvs, H p = some (.dK kvs)) ∨ ∃ kvs, H p = some (.dT kvs))) ∨ (T = "set" ∧ ∃ S n, H p = some (.set S n))
  | _ => False
theorem tyV_is {pins : List (Addr × Obj)} {σ : St} {H : Hp} {s : Shared} {T : String} {x : V} {v : Value} (I : Inv X pins σ H s) (r : RelV x v) (ty : tyV X.K T x H) :
    s.TypeIs v T ∧ ∀ a, v = .ref a → ∃ ob, s.heap.get? a = some ob ∧ ob.dict = none := by
  cases x with
  | str z =>
    obtain ⟨t, rfl⟩ := r
    cases (show T = "str" from ty)
    exact ⟨typeIs_str s z t, fun _ e => nomatch e⟩
  | int i =>
    obtain ⟨t, rfl⟩ := r
    cases (show T = "int" from ty)
    exact ⟨typeIs_int s i t, fun _ e => nomatch e⟩
  | ref p =>
    cases r
    rcases ty with ⟨rfl, xs, hq⟩ | ⟨rfl, o, hk, hc, hd⟩ | ⟨rfl, hk⟩ | ⟨rfl, S, n, hk⟩
    · obtain ⟨its, _, pl, _⟩ := I.list hq
      refine ⟨pl.isList.typeIs, fun a e => ?_⟩
      cases e
      obtain ⟨o, n, e, c, hd, _⟩ := pl
      exact ⟨o, e, hd⟩
    · refine ⟨⟨o, I.kIn p o hk, hc⟩, fun a e => ?_⟩
      cases e
      exact ⟨o, I.kIn _ o hk, hd⟩
    · have z : ∃ o, s.heap.get? p = some o ∧ o.ExactDict := by
        rcases hk with ⟨kvs, hk⟩ | ⟨kvs, hk⟩
        · obtain ⟨_, _, _, _, o, _, _, e, ex, _⟩ := I.hok p _ hk
          exact ⟨o, e, ex⟩
        · obtain ⟨_, _, _, _, o, _, _, e, ex, _⟩ := I.hok p _ hk
          exact ⟨o, e, ex⟩
      obtain ⟨o, e, ex⟩ := z
      refine ⟨⟨o, e, ex.1⟩, fun a e2 => ?_⟩
      cases e2
      exact ⟨o, e, ex.2.1⟩
    · obtain ⟨o, _, _, _, e, ex, _⟩ := I.hok p _ hk
      refine ⟨⟨o, e, ex.1⟩, fun a e2 => ?_⟩
      cases e2
      exact ⟨o, e, ex.2.1⟩
  | _ => exact False.elim ty
def tBM0 (K : PySem.W.Frag) (T : String) (r : V → List V → Hp → VK → Prop) (to : TE) : TE := fun σ H Q => to σ H fun x H1 => tyV K T x H1 ∧ r x [] H1 Q
def tBM (K : PySem.W.Frag) (T : String) (r : V → List V → Hp → VK → Prop) (to : TE) (t : TA) : TE := fun σ H Q => to σ H fun x H1 => tyV K T x H1 ∧ t σ H1 fun xs H2 => r x xs H2 Q
variable {o e : Expr} {es : List Expr} {to : TE} {t : TA} {name : Str} {apos cpos : Pos} {T id : String} {r : V → List V → Hp → VK → Prop}
theorem pe_bm (pa : PlainAttrs T) (slot : Slot T name id) (hty : typeOf (.builtin id) = pure (.type "method_descriptor")) (hm : MtR X id r) (ho : PE X o to) (ha : PA X (e :: es) t)
    (hbase : attributeBase o name X.env (eval o X.env) = eval o X.env := by rfl)
    (hfew : ((backTo cpos (starEach (e :: es) X.env)).all (fun x => !x.1) && (backToKw cpos (keywordEach [] X.env)).all (fun x => x.1.isSome)
      && decide ((e :: es).length + ([] : List Keyword).length + (if ([] : List Keyword).isEmpty then 0 else 1) < 30)) = true := by rfl)
    (hline : (apos.endLine == cpos.line) = true := by rfl) (hs : starEach (e :: es) X.env = (false, eval e X.env) :: starEach es X.env := by rfl) (hplain : (backTo cpos (starEach es X.env)).any (·.1) = false := by rfl) :
    PE X (.Call (.Attribute o name apos) (e :: es) [] cpos) (tBM X.K T r to t) := by
  intro pins s σ H Q I h
  refine wpAny_Call_method_late hbase hfew hline rfl (thn (ho pins s σ H _ I h) fun v s1 ⟨x, H1, I1, r1, ty, q1⟩ => ?_)
  obtain ⟨h1, h2⟩ := tyV_is I1 r1 ty
  refine ⟨T, id, pa, slot, hty, h1, h2, ?_⟩
  have hA := ha cpos pins s1 σ H1 _ I1 q1
  rw [hs] at hA ⊢
  refine Calls.callWith_builtin (by show (false || (backTo cpos (starEach es X.env)).any (·.1)) = false; rw [hplain] <;> rfl) (Calls.evalArgs_plain ?_)
  exact thn hA fun us s2 ⟨vs, H2, I2, r2, q2⟩ => hm pins s2 σ H2 x vs v us Q I2 r1 r2 q2
/- xs.append(e), list.index on a module's tuple .. are MtR facts of 06m -/
end
end L2

namespace L2
open PySem PySem.Spec PyProof.Rows

def MtM (X : Cx) (id : String) (r : V → List V → Hp → VK → Prop) : Prop :=
  ∀ (pins : List (Addr × Obj)) (s : Shared) (σ : St) (H : Hp) (x : V) (xs : List V) (v : Value) (us : List Value) (Q : VK), Inv X pins σ H s → RelV x v → Vals xs us → r x xs H Q →
    wpAny (model X.prog X.w) X.A (call (.builtin id) (v :: us)) (EP X pins σ Q) X.xe s

/-! ### lists of values -/
theorem Vals.one : ∀ {x : V} {us : List Value}, Vals [x] us → ∃ u, us = [u] ∧ RelV x u
  | _, _, .cons r .nil => ⟨_, rfl, r⟩
theorem Vals.two : ∀ {x y : V} {us : List Value}, Vals [x, y] us → ∃ u v, us = [u, v] ∧ RelV x u ∧ RelV y v
  | _, _, _, .cons r (.cons q .nil) => ⟨_, _, rfl, r, q⟩

section
variable {X : Cx} {pins : List (Addr × Obj)} {σ : St} {H : Hp} {s : Shared} {l b : Addr} {xs ys zs : List V}

/-! ### the two steps: a tracked list is rewritten, a new list is laid -/
theorem Inv.lset {its its' : List Value} {n : Nat} {f : Array Value → Array Value} {t' : Nat} (I : Inv X pins σ H s) (hH : H l = some (.lst xs))
    (e : s.heap.get? l = some { cls := .type "list", data := .seq its.toArray n }) (hf : f its.toArray = its'.toArray) (hv : Vals ys its') (hz : ys.length ≤ sizeLine) :
    Inv X pins σ (upd H l (.lst ys)) { s with heap := s.heap.update l (Obj.mapSeq f), toks := t' } := by
  have q := PySem.IsL.update e f
  rw [hf] at q
  refine I.write (x := l) (e := l) (by rw [hH]; exact trivial) (.inl rfl) (fun b' u hb hu => (Heap.get?_update_other s.heap (Obj.mapSeq f) (Ne.symm hb)).trans hu) ⟨_, q⟩ ?_
  exact ⟨hz, its', _, hv, q⟩
theorem Inv.lstM (I : Inv X pins σ H s) (hH : H l = some (.lst xs)) : xs.length ≤ sizeLine ∧ ∃ (its : List Value) (n : Nat), Vals xs its ∧ xs.length = its.length ∧ s.heap.get? l = some { cls := .type "list", data := .seq its.toArray n } := by
  obtain ⟨z, its, n, r, e⟩ := I.hok l _ hH
  exact ⟨z, its, n, r, r.length, e⟩

end

section
variable {X : Cx}

/-! ### methods -/
def rAppend : V → List V → Hp → VK → Prop := fun x vs H Q => ∃ l xs y, x = .ref l ∧ vs = [y] ∧ H l = some (.lst xs) ∧ xs.length < sizeLine ∧ Q .non (upd H l (.lst (xs ++ [y])))
theorem mt_append : MtM X "list.append" rAppend := by
  intro pins s σ H x vs v us Q I rx rv h
  obtain ⟨l, xs, y, rfl, rfl, hH, hz, q⟩ := h
  cases rx
  obtain ⟨u, rfl, ru⟩ := rv.one
  obtain ⟨z, its, n, r, hl, e⟩ := I.lstM hH
  refine call_meets F.slot_list_append ⟨_, e, rfl⟩ F.entry_list_append (F.args_list_append_2 _ _) (PySem.list_append l its.toArray n u (by rw [List.size_toArray]; omega)) ⟨e, ?_⟩
  refine ⟨.non, _, I.lset (its' := its ++ [u]) hH e (by simp) (r.append (.cons ru .nil)) ?_, rfl, q⟩
  rw [List.length_append, List.length_singleton]
  omega

def rExtend : V → List V → Hp → VK → Prop := fun x vs H Q => ∃ l b xs zs, x = .ref l ∧ vs = [.ref b] ∧ H l = some (.lst xs) ∧ H b = some (.lst zs) ∧ xs.length + zs.length ≤ sizeLine ∧ Q .non (upd H l (.lst (xs ++ zs)))

def rPop : V → List V → Hp → VK → Prop := fun x vs H Q => ∃ l xs y, x = .ref l ∧ vs = [] ∧ H l = some (.lst xs) ∧ xs[xs.length - 1]? = some y ∧ Q y (upd H l (.lst xs.dropLast))

def rPopAt : V → List V → Hp → VK → Prop := fun x vs H Q => ∃ l xs i k y, x = .ref l ∧ vs = [.int i] ∧ H l = some (.lst xs) ∧ -(2 ^ 63) ≤ i ∧ i < 2 ^ 63 ∧ seqIndex? i xs.length = some k ∧ xs[k]? = some y ∧ Q y (upd H l (.lst (xs.eraseIdx k)))

def rReverse : V → List V → Hp → VK → Prop := fun x vs H Q => ∃ l xs, x = .ref l ∧ vs = [] ∧ H l = some (.lst xs) ∧ Q .non (upd H l (.lst xs.reverse))

def rClear : V → List V → Hp → VK → Prop := fun x vs H Q => ∃ l xs, x = .ref l ∧ vs = [] ∧ H l = some (.lst xs) ∧ Q .non (upd H l (.lst []))

/-! ### list + list, list += list, list * int -/
def rCat : R2 := fun x y H Q => ∃ l b xs zs, x = .ref l ∧ y = .ref b ∧ H l = some (.lst xs) ∧ H b = some (.lst zs) ∧ xs.length + zs.length ≤ sizeLine ∧ ∀ p, H p = none → Q (.ref p) (upd H p (.lst (xs ++ zs)))
/-- a list times an int (a negative one is nothing) -/
def rRep : R2 := fun x y H Q => ∃ l k xs, x = .ref l ∧ y = .int k ∧ H l = some (.lst xs) ∧ -(2 ^ 63) ≤ k ∧ k < 2 ^ 63 ∧ xs.length * k.toNat ≤ sizeLine ∧
  ∀ p, H p = none → Q (.ref p) (upd H p (.lst (List.replicate k.toNat xs).flatten))

/-! ### del xs[i] -/
end

/-! ### xs[a:b] = ys -/
section
variable {prog : Program} {w : World} {A : Around} {E : Value → Shared → Prop} {s : Shared}
set_option maxRecDepth 100000 in
end

section
variable {X : Cx}
end
end L2

namespace Att
open PySem PySem.W PySem.Calls PyProof.Rows

/-! ### the script -/
theorem ints_of_wellAll {P : Params} {h : Heap} : ∀ (ns : List Int) (vs : List Value), WellAll P h vs (ns.map WData.int) → IntsAre vs ns := by
  intro ns
  induction ns with
  | nil =>
    intro vs w
    rw [List.map_nil] at w
    cases w
    exact .nil
  | cons n ns ih =>
    intro vs w
    rw [List.map_cons] at w
    cases w with
    | cons a b =>
      cases a
      exact .cons _ _ (ih _ b)

theorem script_of {l : OpenLaw} {n : Nat} (hn : l.most = some n) {P : Params} {h : Heap} {args : List WData} {vals : List Value}
    (hpre : l.row.toRowW.claim.pre args = true) (hwl : WellAll P h vals args) :
    ∃ a vs ns, vals = [Value.ref a] ∧ args = [WData.list (ns.map WData.int)] ∧ h.get? a = some { cls := .type "list", data := .seq vs.toArray } ∧ IntsAre vs ns ∧ ns.length ≤ n := by
  have hsh : WShape.hasAll [] args [.list .int] = true := (pre_splitW hpre).1
  have hc : l.pre.holds [] { args := args } = true := (pre_splitW hpre).2
  obtain ⟨d, r, rfl, h1, h2⟩ := hasAllW_cons hsh
  obtain rfl := hasAllW_nil h2
  obtain ⟨xs, rfl, h3⟩ := hasW_list h1
  obtain ⟨ns, rfl⟩ := items_int h3
  have hlen : ns.length ≤ n := by
    unfold OpenLaw.pre at hc
    have h4 : (WTm.not (.lt (.lit (.int (n : Int))) (.len (.arg 0)))).holds [] { args := [.list (ns.map .int)] } = true := by
      have h4 := (holds_andW hc).1
      rw [hn] at h4
      exact h4
    have h5 := condW_of h4 (w_not (w_lt w_lit (w_len_list (w_arg rfl))))
    rw [List.length_map] at h5
    refine Nat.le_of_not_lt fun q => ?_
    have q' : (n : Int) < ((ns.length : Nat) : Int) := by omega
    first
      | (rw [decide_eq_true q'] at h5; exact absurd h5 (by decide))
      | (simp at h5; omega)
  cases hwl with
  | cons w1 w2 =>
    cases w2
    cases w1 with
    | list ho hall => exact ⟨_, _, ns, rfl, rfl, ho, ints_of_wellAll ns _ hall, hlen⟩

theorem post_true (l : OpenLaw) (args : List WData) : l.row.toRowW.claim.post args (.bool true) args = true :=
  postW_of (r := l.row.toRowW) (X := (true == true))
    (show WShape.has [] (.bool true) .bool = true by first | rfl | decide | simp [WShape.has, WShape.arms, WShape.armsAll])
    (show (WTm.eq .res (.lit (.bool true))).value [] { args := args, res := some (.bool true), after := args } = some (.bool (true == true)) from w_eq_bool (w_res rfl) w_lit) rfl

/-! ### the attachment: holds_open's last premise (the goal 'hc' behind k_head) from a wpAny of the law's body -/

/-- the same from a codeAny of the CALL (for a layer whose function contracts speak of calls) -/
theorem attach_call {l : OpenLaw} {n : Nat} {q : Program} {loose : List Str} {XP : (Str → Option Value) → Heap → Prop} {YP : World → Heap → Prop} {d : DefRec}
    (hn : l.most = some n) (hdf : d.params.defaults = [])
    (call : ∀ (w : World) (s₀ s₁ : Shared) (mg mb : Str → Option Value) (fa : Addr) (o : Obj) (pm cd doc : Value) (a : Addr) (vs : List Value) (ns : List Int),
      Ground q loose [] XP w s₀ mg mb s₁.heap → YP w s₁.heap →
      s₁.heap.get? fa = some o → o.data = .func (docDef d.name d.params d.body d.scope pm cd doc) → s₁.heap.CodeRec cd d.name → mg d.name = some (.ref fa) →
      s₁.heap.get? a = some { cls := .type "list", data := .seq vs.toArray } → IntsAre vs ns → ns.length ≤ n → s₁.gens = #[] →
      codeAny (model l.prog w) callerA (.call (.ref fa) ⟨[.ref a], []⟩) (fun r s' => r = .ok (.ret (.bool true)) ∧ OldK s₁.heap s'.heap ∧ s'.os = s₁.os ∧ AllBare s'.gens) s₁) :
    WalkO q loose XP YP l.row.toRowW d [] (fun f vs => PySem.call f vs) := by
  intro w s₀ s₁ mg mb G Y fa o pm cd doc dV kV ho hd hcd hD hmg hg args vals as hpre hlay hrd hwl hlo
  obtain rfl : dV = .none := Dflts.none hD hdf
  obtain rfl : kV = .none := Dflts.noKw hD
  obtain ⟨a, vs, ns, rfl, rfl, hobj, hints, hlen⟩ := script_of hn hpre hwl
  refine enter_call (codeAny_mono (call w s₀ s₁ mg mb fa o pm cd doc a vs ns G Y ho (fd_plain hd) hcd hmg hobj hints hlen hg) fun r s' hq => ?_)
  obtain ⟨rfl, h2, h3, h4⟩ := hq
  exact ⟨.inl ⟨.bool true, .bool true, [], rfl, fun _ => rfl, .bool true, post_true l _, fun _ => ⟨List.Pairwise.nil, fun _ hm => (nomatch hm)⟩⟩, h2, h3, h4⟩


/-! ### rules over ANY heap (no ledger) from facts about the written part K: the library's own take a ledger (News) for what they write -/
section
variable {prog : Program} {w : World} {A : Around} {E : Value → Shared → Prop} {s : Shared} {K : Frag}





/-! the whole heap as the ledger: makes every rule that writes through a ledger a rule over any heap -/
def noObjs (h : Heap) : Heap := { h with objs := #[] }
def ledger (h : Heap) (L d : Addr) : List (Addr × Obj) := (List.range h.objs.size).filterMap fun a => if a = L ∨ a = d then none else (h.get? a).map fun o => (a, o)

end
end Att

namespace L2
open PySem PySem.Spec PyProof.Rows

theorem vals_ints : ∀ {vs : List Value} {ns : List Int}, IntsAre vs ns → Vals (ns.map V.int) vs
  | _, _, .nil => .nil
  | _, _, .cons n t h => .cons ⟨t, rfl⟩ (vals_ints h)

/-- nothing is tracked but the script, known to the object (or it is an object of the module) -/
def Only (H : Hp) : Prop := ∀ b, H b = none ∨ ∃ o xs, H b = some (.frz o (.lst xs))

/-- THE HEAD: the law's promise, at the heap behind the top. F, the promise of the law's def, may use that base is part of the heap (so K.In base, base.Ns mainGlobals mg stand in Mod) -/
theorem law_call {P : Program} {w : World} {K : PySem.W.Frag} {mg mb : Str → Option Value} {CX : CXT} {k : Nat} {fa a : Addr} {fd : FuncData} {x : Str} {sp : Sp} {s₁ : Shared} {vs : List Value} {ns : List Int}
    (KX : K.In s₁.heap) (hns : s₁.heap.Ns mainGlobals mg) (hb : s₁.heap.Ns builtinsNs mb) (hbb : ∀ x : Str, x ≠ "__name__" → mb x = bootBuiltins x) (hlim : s₁.heap.NoLimit) (hg : s₁.gens = #[])
    (ha : s₁.heap.get? a = some { cls := .type "list", data := .seq vs.toArray }) (hi : IntsAre vs ns) (hl : ns.length ≤ sizeLine) (hr : Room k callerA)
    (F : ∀ base : Heap, K.In base → base.Ns mainGlobals mg → FnOk P w K mg base CX k fa fd [x] sp) (hbind : ∀ (s : Shared) (u : Value), BindsTo s fd ⟨[u], []⟩ [(x, u)])
    (hsp : ∀ H : Hp, Only H → SqL K H a (ns.map V.int) → sp [.ref a] H (fun v _ => v = .bl true) fun _ _ _ => False)
    (hCX : ∀ H e s', CX [] H s₁ (fun _ _ _ => False) e s' → False) :
    codeAny (model P w) callerA (.call (.ref fa) ⟨[.ref a], []⟩) (fun r s' => r = .ok (.ret (.bool true)) ∧ OldK s₁.heap s'.heap ∧ s'.os = s₁.os ∧ AllBare s'.gens) s₁ := by
  have rv := vals_ints hi
  have lenV := hi.length
  -- from an abstract heap in which nothing but the script may be tracked
  have core : ∀ H : Hp, Only H → SqL K H a (ns.map V.int) → HOk P w H s₁.heap → (∀ b, H b ≠ none → b = a) → (H a ≠ none → K.lookup a = none) →
      codeAny (model P w) callerA (.call (.ref fa) ⟨[.ref a], []⟩) (fun r s' => r = .ok (.ret (.bool true)) ∧ OldK s₁.heap s'.heap ∧ s'.os = s₁.os ∧ AllBare s'.gens) s₁ := by
    intro H hO hS hok hA hK
    have base_of : ∀ {b : Addr} {o : Obj}, s₁.heap.get? b = some o → H b = none → (hidT s₁.heap H).get? b = some o := fun e n => hidT_get e n
    have noA : ∀ {b : Addr} {o : Obj} {es : Array DictEntry} {ep : Nat}, s₁.heap.get? b = some o → o.data = .dict es ep → H b = none := fun {b o es ep} e d => by
      cases q : H b with
      | none => rfl
      | some u =>
        have e' : b = a := hA b (by rw [q]; simp)
        subst e'
        rw [ha] at e; cases e
        have d' : Data.seq vs.toArray _ = Data.dict es ep := d
        cases d'
    have nsK : ∀ {b : Addr} {m : Str → Option Value}, s₁.heap.Ns b m → (hidT s₁.heap H).Ns b m := fun {b m} ⟨o, es, ep, e, d, r⟩ => ⟨o, es, ep, base_of e (noA e d), d, r⟩
    have hKb : K.In (hidT s₁.heap H) := fun b o e => base_of (KX b o e) (by
      cases q : H b with
      | none => rfl
      | some u =>
        have e' : b = a := hA b (by rw [q]; simp)
        subst e'
        rw [hK (by rw [q]; simp)] at e; cases e)
    have hM : Mod K mg (hidT s₁.heap H) := ⟨hKb, nsK hns, ⟨mb, nsK hb, hbb⟩, let ⟨mc, h1, h2⟩ := hlim; ⟨mc, nsK h1, h2⟩⟩
    have e0 : Env0 P w K mg (hidT s₁.heap H) callerA [] s₁ H := ⟨rfl, hM, fun b o e => of_hidT e, Nat.le_of_eq (hidT_size _ _), trivial, fun b hb => absurd (show b ∈ ([] : List Addr) from hb) (by simp), hok, .of_eq hg⟩
    refine codeAny_mono ((F _ hKb (nsK hns)).run callerA [] s₁ H ⟨[.ref a], []⟩ [.ref a] [.ref a] _ _ hr e0 (hbind s₁ (.ref a)) (.cons rfl .nil) (hsp H hO hS)) fun r s' h => ?_
    cases r with
    | error e => exact (hCX H e s' h).elim
    | ok fl =>
      cases fl with
      | next => exact False.elim h
      | brk => exact False.elim h
      | cont => exact False.elim h
      | ret u =>
        obtain ⟨v, H', os, bare, un, hok', r', q⟩ := h
        have q' : v = .bl true := q
        subst q'
        obtain rfl : u = Value.bool true := r'
        refine ⟨rfl, OldK.of_keep fun b o e => ?_, os, bare⟩
        cases q : H b with
        | none => exact un.keep b o e q (by intro z; exact absurd (show b ∈ ([] : List Addr) from z) (by simp)) (by simp)
        | some u =>
          rcases hO b with z | ⟨ob, xs, z⟩
          · rw [q] at z; cases z
          · have z2 := un.frzs b ob _ z
            obtain ⟨e1, _⟩ := hok b _ z
            obtain ⟨e2, _⟩ := hok' b _ z2
            rw [e] at e1; cases e1
            exact e2
  cases hk : K.lookup a with
  | some o =>
    -- the script is one of the module's own objects
    have e := KX a o hk
    rw [ha] at e
    cases e
    refine core (fun _ => none) (fun _ => .inl rfl) (.inr ⟨_, vs.toArray, _, hk, rfl, rfl, rfl, by rw [List.size_toArray, lenV]; exact hl, by simpa using rv⟩) (fun b u z => by have z' : (none : Option HO) = some u := z; cases z') (fun b z => absurd rfl z) fun z => absurd rfl z
  | none =>
    refine core (fun b => if b = a then some (.frz { cls := .type "list", data := .seq vs.toArray } (.lst (ns.map V.int))) else none) (fun b => ?_) (.inl (.inr ⟨{ cls := .type "list", data := .seq vs.toArray }, if_pos rfl⟩)) (fun b u z => ?_) (fun b z => ?_) fun _ => hk
    · by_cases hb : b = a
      · exact .inr ⟨_, _, if_pos hb⟩
      · exact .inl (if_neg hb)
    · by_cases hb : b = a
      · have z' := (if_pos hb).symm.trans z
        cases z'
        subst hb
        exact ⟨ha, by rw [List.length_map]; exact hl, vs, _, rv, ha⟩
      · have z' := (if_neg hb).symm.trans z
        cases z'
    · by_cases hb : b = a
      · exact hb
      · exact absurd (if_neg hb) z
end L2

namespace L2
open PySem PySem.Spec PyProof.Rows

abbrev KOf {K : PySem.W.Frag} {h : Heap} (_ : K.In h) : PySem.W.Frag := K

/-- the goal that k_head leaves (case hc), from the law's promise. F gives the function object fd (K's own) once, then the promise over every base -/
theorem walk_of {l : PySem.W.OpenLaw} {n k : Nat} {q : Program} {loose : List Str} {XP : (Str → Option Value) → Heap → Prop} {YP : World → Heap → Prop} {d : DefRec} {K : Params → PySem.W.Frag} {CX : World → CXT} {sp : World → Sp} {x : Str}
    (hn : l.most = some n) (hn2 : n ≤ sizeLine) (hdf : d.params.defaults = []) (hr : Room k callerA)
    (hY : ∀ (w : World) (h : Heap), YP w h → (K w.params).In h)
    (F : ∀ (w : World) (mg : Str → Option Value) (fa : Addr) (h : Heap), (K w.params).In h → h.Ns mainGlobals mg → mg d.name = some (.ref fa) →
      ∃ fd : FuncData, (∀ (s : Shared) (u : Value), BindsTo s fd ⟨[u], []⟩ [(x, u)]) ∧
        ∀ base : Heap, (K w.params).In base → base.Ns mainGlobals mg → FnOk l.prog w (K w.params) mg base (CX w) k fa fd [x] (sp w))
    (hsp : ∀ (w : World) (H : Hp) (a : Addr) (ns : List Int), ns.length ≤ n → Only H → SqL (K w.params) H a (ns.map V.int) → sp w [.ref a] H (fun v _ => v = .bl true) fun _ _ _ => False)
    (hCX : ∀ (w : World) (H : Hp) (s : Shared) (e : Value) (s' : Shared), CX w [] H s (fun _ _ _ => False) e s' → False) :
    PySem.W.WalkO q loose XP YP l.row.toRowW d [] (fun f vs => PySem.call f vs) := by
  refine Att.attach_call hn hdf fun w s₀ s₁ mg mb fa o pm cd doc a vs ns G Y ho hd hcd hmg hobj hints hlen hg => ?_
  have KX := hY w _ Y
  obtain ⟨fd, hb, hF⟩ := F w mg fa _ KX G.T.g hmg
  exact law_call KX G.T.g G.T.b G.T.builtins G.T.nolimit hg hobj hints (Nat.le_trans hlen hn2) hr hF hb (fun H hO hS => hsp w H a ns hlen hO hS) fun H e s' => hCX w H s₁ e s'
/-- the same where the promise hangs on the written part alone: (sp := My.sp_law), no hole under a binder -/
theorem walk_ofK {l : PySem.W.OpenLaw} {n k : Nat} {q : Program} {loose : List Str} {XP : (Str → Option Value) → Heap → Prop} {YP : World → Heap → Prop} {d : DefRec} {K : Params → PySem.W.Frag} {CX : CXT} {sp : PySem.W.Frag → Sp} {x : Str}
    (hn : l.most = some n) (hn2 : n ≤ sizeLine) (hdf : d.params.defaults = []) (hr : Room k callerA)
    (hY : ∀ (w : World) (h : Heap), YP w h → (K w.params).In h)
    (F : ∀ (w : World) (mg : Str → Option Value) (fa : Addr) (h : Heap), (K w.params).In h → h.Ns mainGlobals mg → mg d.name = some (.ref fa) →
      ∃ fd : FuncData, (∀ (s : Shared) (u : Value), BindsTo s fd ⟨[u], []⟩ [(x, u)]) ∧
        ∀ base : Heap, (K w.params).In base → base.Ns mainGlobals mg → FnOk l.prog w (K w.params) mg base CX k fa fd [x] (sp (K w.params)))
    (hsp : ∀ (K : PySem.W.Frag) (H : Hp) (a : Addr) (ns : List Int), ns.length ≤ n → Only H → SqL K H a (ns.map V.int) → sp K [.ref a] H (fun v _ => v = .bl true) fun _ _ _ => False)
    (hCX : ∀ (H : Hp) (s : Shared) (e : Value) (s' : Shared), CX [] H s (fun _ _ _ => False) e s' → False) :
    PySem.W.WalkO q loose XP YP l.row.toRowW d [] (fun f vs => PySem.call f vs) :=
  walk_of (K := K) (CX := fun _ => CX) (sp := fun w => sp (K w.params)) hn hn2 hdf hr hY F (fun w H a ns h1 h2 h3 => hsp (K w.params) H a ns h1 h2 h3) fun _ H s e s' => hCX H s e s'
end L2

/- THE LAST THEOREM (shape; LID, My.* are yours):
   My.Adr: a structure of the addresses that your layer names (classes, functions); My.Txt K t: a structure (Prop) of the equations over K;
   My.txt_mk : {K} {implicit addresses ..} (e1 : nsIn K mainGlobals "law" = some (some (.ref f))) (e2 : K.lookup f = some ⟨oc, od, .func (fnOf "law" "law" params body scope dV kV doc pm an cdv ct), sl⟩) (e3 : codeIn K cdv "law" = true) .. : ∃ t, My.Txt K t

set_option maxRecDepth 100000 in
set_option maxHeartbeats 0 in
theorem PySem.Challenge.cw_LID_holds : PySem.Challenge.rw_LID.Holds := by
  w_on; o_law; k_head; (case hw => w_witness2)
  k_fill
  refine L2.walk_of (l := PySem.Challenge.rw_LID) (n := 63) (k := 40) (x := "script") (CX := fun w => ..) (sp := fun _ => My.sp_law) rfl (by decide) rfl ⟨rfl, by decide, by decide⟩ (fun w h Y => PySem.W.kIn_of Y) ?F ?S ?C
  case F =>
    intro w mg fa h KX G hmg
    have T : ∃ t, My.Txt (L2.KOf KX) t := by
      dsimp only [L2.KOf]                          -- K must stand as «<heap const> w.params» for k_is
      refine' My.txt_mk ?e1 ?e2 ?e3 ..
      (case e1 => PySem.W.k_is)                    -- in the order: a name -> its address -> its object -> its parts
      (case e2 => PySem.W.k_is)
      ..
    obtain ⟨t, T⟩ := T
    have e0 := hmg.symm.trans (PySem.W.mg_of KX G T.law)
    cases e0                                       -- fa is the law's own address
    exact ⟨_, fun s u => .of_eq rfl, fun base kb nb => My.law_fn T kb nb⟩     -- if «.of_eq rfl» comes too early: refine' ⟨_, ?b, fun base kb nb => My.law_fn T kb nb⟩; exact fun s u => .of_eq rfl
  case S => exact fun w H a ns hl hO hS => ..
  case C => exact ..
(the tactic k_is has no namespace: write k_is) -/

/-! SHORT WORDS over the layer: a def of the text, its body, what a loop and a test want. -/
namespace L2
open PySem PySem.Spec PyProof.Rows

/-! ### the text by places -/
/-- the j-th statement of a class's body -/
def inClass (s : Stmt) (j : Nat) : Stmt := match s with
  | .ClassDef _ _ _ body _ _ _ _ _ _ _ => body.getD j (.Pass ⟨0, 0, 0, 0⟩)
  | _ => .Pass ⟨0, 0, 0, 0⟩
def defArgs (s : Stmt) : Arguments := match s with
  | .FunctionDef _ a _ _ _ _ _ _ _ _ => a
  | _ => { posonlyargs := [], args := [], vararg := none, kwonlyargs := [], kw_defaults := [], kwarg := none, defaults := [] }
def defBody (s : Stmt) : List Stmt := match s with
  | .FunctionDef _ _ b _ _ _ _ _ _ _ => b
  | _ => []
def defScope (s : Stmt) : Scope := match s with
  | .FunctionDef _ _ _ _ _ _ sc _ _ _ => sc
  | _ => { kind := .function, names := [], isGenerator := false, isCoroutine := false }

/-! ### no exception leaves a def -/
abbrev CX0 : CXT := fun _ _ _ _ _ _ => False
abbrev E0 : XK := fun _ _ _ => False
theorem pass0 {X : Cx} : Passes CX0 X E0 := fun _ _ _ _ _ _ _ h => h.elim

/-! ### a def (or method) of the text as it stands behind the top -/
structure Fun (K : PySem.W.Frag) (x qual : Str) (st : Stmt) (f : Addr) (fd : FuncData) : Prop where
  ex : ∃ (oc : Value) (od : Option Addr) (kV doc pm : Value) (an : Option Addr) (cdv ct : Value) (osl : Array (Option Value)),
    fd = PySem.W.fnOf x qual (defArgs st) (defBody st) (defScope st) .none kV doc pm an cdv ct ∧ K.lookup f = some ⟨oc, od, .func fd, osl⟩ ∧ PySem.W.codeIn K cdv qual = true
  kp : PySem.W.keepIn K (.ref f) = true
section
variable {P : Program} {w : World} {K : PySem.W.Frag} {mg : Str → Option Value} {base : Heap}
/-- THE RULE for a def: its body as a term of rules, and the reading of that term -/
theorem Fun.ok {x qual : Str} {st : Stmt} {f : Addr} {fd : FuncData} {N ps : List Str} {k : Nat} {sp : Sp} (F : Fun K x qual st f fd) (S : FnScope N ps (defScope st)) (len : ∀ vs H Q E, sp vs H Q E → vs.length = ps.length)
    (hbody : ∀ (cdv : Value) (A : Around) (outer : List Env) (s : Shared) (H : Hp) (vs : List V) (Q : VK) (E : XK), Room k (A.deeper (envOfC qual (defScope st) s.heap.objs.size f cdv)) → sp vs H Q E →
      ∃ t, PSs (cxOf CX0 P w K mg base N qual (defScope st) f cdv A outer s H E).nox (defBody st) t ∧ t { nx := fun _ H' => Q .non H', rt := Q } (start N vs) H) : FnOk P w K mg base CX0 (k + 1) f fd ps sp := by
  obtain ⟨oc, od, kV, doc, pm, an, cdv, ct, osl, rfl, lk, hcd⟩ := F.ex
  refine fn_of lk hcd S len fun A outer s H vs Q E hr hsp => ?_
  obtain ⟨t, h, q⟩ := hbody cdv A outer s H vs Q E hr hsp
  exact ⟨t, h.nox, q⟩
/-- how its arguments bind (no defaults): h is «fun _ _ _ _ _ _ us hl => match us, hl with | [_, _], _ => rfl», one _ a parameter -/
theorem Fun.binds {x qual : Str} {st : Stmt} {f : Addr} {fd : FuncData} {ps : List Str} (F : Fun K x qual st f fd)
    (h : ∀ (kV doc pm : Value) (an : Option Addr) (cdv ct : Value) (us : List Value), us.length = ps.length → bindArgs (PySem.W.fnOf x qual (defArgs st) (defBody st) (defScope st) .none kV doc pm an cdv ct) ⟨us, []⟩ = pure (ps.zip us)) : Binds K fd ps [] := by
  obtain ⟨oc, od, kV, doc, pm, an, cdv, ct, osl, rfl, lk, hcd⟩ := F.ex
  exact .all (h kV doc pm an cdv ct)
theorem fun_mk {x qual : Str} {st : Stmt} {f : Addr} {oc : Value} {od an : Option Addr} {osl : Array (Option Value)} {kV doc pm cdv ct : Value} (l : K.lookup f = some ⟨oc, od, .func (PySem.W.fnOf x qual (defArgs st) (defBody st) (defScope st) .none kV doc pm an cdv ct), osl⟩)
    (c : PySem.W.codeIn K cdv qual = true) (k : PySem.W.keepIn K (.ref f) = true) : Fun K x qual st f (PySem.W.fnOf x qual (defArgs st) (defBody st) (defScope st) .none kV doc pm an cdv ct) := ⟨⟨oc, od, kV, doc, pm, an, cdv, ct, osl, rfl, l, c⟩, k⟩
end
theorem hu_of {A : Around} {k : Nat} (hr : Room k A) : A.units + 1 < cLine := Nat.lt_of_le_of_lt (Nat.add_le_add_left (by decide : 1 ≤ 64) _) hr.units
theorem small1000 {n : Nat} (h : n ≤ 1000) : n < sizeLine := Nat.lt_of_le_of_lt h (by decide)

/-! ### expressions in short: the name that stands in the i-th slot -/
section
variable {X : Cx}
theorem pv (i : Nat) {x : Str} {pos : Pos} (hN : X.N[i]? = some x := by rfl) (hv : Vis X.env.scope x := by first | exact Or.inl rfl | exact Or.inr (Or.inl rfl) | exact Or.inr (Or.inr rfl)) (hd : (x == ("__debug__" : Str)) = false := by decide)
    (hcd : (x == ("__classdict__" : Str)) = false := by decide) : PE X (.Name x pos) (tVar i) := pe_var hN hv hd hcd
end

/-! ### tests -/
theorem iteF {A B : Prop} (h : B) : if false = true then A else B := by
  rw [if_neg Bool.false_ne_true]
  exact h
theorem iteT {A B : Prop} (h : A) : if true = true then A else B := by
  rw [if_pos rfl]
  exact h
theorem ite2 {c A B : Prop} [Decidable c] (h1 : c → A) (h2 : ¬ c → B) : if c then A else B := by
  by_cases h : c
  · rw [if_pos h]
    exact h1 h
  · rw [if_neg h]
    exact h2 h

/-! ### heaps -/
/-- all that was tracked is as it was -/
def Same (H H' : Hp) : Prop := ∀ b o, H b = some o → H' b = some o
theorem Same.refl (H : Hp) : Same H H := fun _ _ h => h
theorem Same.trans {H H1 H2 : Hp} (a : Same H H1) (b : Same H1 H2) : Same H H2 := fun c o h => b c o (a c o h)
theorem Same.free {H H' : Hp} (e : Same H H') {l : Addr} (h : H' l = Option.none) : H l = Option.none := by
  cases q : H l with
  | none => rfl
  | some o =>
    rw [e l o q] at h
    cases h
theorem Same.seq {K : PySem.W.Frag} {H H' : Hp} {a : Addr} {xs : List V} (e : Same H H') (h : SqL K H a xs) : SqL K H' a xs := by
  rcases h with (h | ⟨o, h⟩) | h
  · exact .inl (.inl (e _ _ h))
  · exact .inl (.inr ⟨o, e _ _ h⟩)
  · exact .inr h

end L2

set_option Elab.async false
set_option maxRecDepth 100000
namespace L2
open PySem PySem.Spec PyProof.Rows
def closOf (cells : List (Str × Addr)) : List (Str × NameKind) → List (Str × Addr) → List (Str × Addr)
  | [], acc => acc
  | (n, k) :: r, acc => closOf cells r (if k == .free then (n, (cells.lookup n).getD 0) :: acc else acc)
theorem closureFor_of {scope : Scope} {env : Env} (h : ∀ x ∈ scope.names, x.2 = .free → ∃ c, env.cells.lookup x.1 = some c) : closureFor scope env = pure (closOf env.cells scope.names []) := by
  unfold closureFor
  generalize hn : scope.names = names at h ⊢
  clear hn
  generalize ([] : List (Str × Addr)) = acc
  induction names generalizing acc with
  | nil => simp [closOf]
  | cons x r ih =>
    obtain ⟨n, k⟩ := x
    have ih' := fun a => ih (fun x hx => h x (List.mem_cons_of_mem _ hx)) a
    simp only [List.forIn_cons, bind_pure] at ih' ⊢
    by_cases hk : k = .free
    · obtain ⟨c, hc⟩ := h (n, k) List.mem_cons_self hk
      subst hk
      have hcl : cellOf env n = pure c := by simp only [cellOf, hc]
      simp only [beq_self_eq_true, if_true, hcl, hc, pure_bind, closOf, Option.getD_some]
      simpa using ih' _
    · have hb : (k == NameKind.free) = false := by simpa using hk
      simp only [hb, Bool.false_eq_true, if_false, pure_bind, closOf]
      simpa using ih' _
theorem closOf_look {cells : List (Str × Addr)} {y : Str} {c : Addr} : ∀ {names : List (Str × NameKind)} {acc : List (Str × Addr)}, (∀ x ∈ names, x.2 = .free → ∃ c, cells.lookup x.1 = some c) → (acc.lookup y = some c → cells.lookup y = some c) →
    (closOf cells names acc).lookup y = some c → cells.lookup y = some c
  | [], _, _, ha, e => ha e
  | (n, k) :: r, acc, h, ha, e => by
    unfold closOf at e
    refine closOf_look (names := r) (fun x hx => h x (List.mem_cons_of_mem _ hx)) (fun e' => ?_) e
    by_cases hk : k = .free
    · obtain ⟨d, hd⟩ := h (n, k) List.mem_cons_self hk
      subst hk
      simp only [beq_self_eq_true, if_true, hd, Option.getD_some, List.lookup_cons] at e'
      cases q : y == n with
      | true =>
        rw [q] at e'
        have : y = n := by simpa using q
        subst this
        exact hd.trans e'
      | false => rw [q] at e'; exact ha e'
    · have hb : (k == NameKind.free) = false := by simpa using hk
      simp only [hb, Bool.false_eq_true, if_false] at e'
      exact ha e'
theorem closOf_has {cells : List (Str × Addr)} {y : Str} : ∀ {names : List (Str × NameKind)} {acc : List (Str × Addr)}, ((y, NameKind.free) ∈ names ∨ ∃ c, acc.lookup y = some c) → ∃ c, (closOf cells names acc).lookup y = some c
  | [], _, h => by simpa [closOf] using h
  | (n, k) :: r, acc, h => by
    unfold closOf
    refine closOf_has (names := r) ?_
    rcases h with h | ⟨c, h⟩
    · rcases List.mem_cons.mp h with e | e
      · cases e
        right
        simp
      · exact .inl e
    · right
      by_cases hk : (k == NameKind.free) = true
      · rw [if_pos hk, List.lookup_cons]
        cases y == n
        · exact ⟨c, h⟩
        · exact ⟨_, rfl⟩
      · rw [if_neg hk]
        exact ⟨c, h⟩
end L2

set_option Elab.async false
set_option maxRecDepth 100000
namespace L2
open PySem PySem.Spec PyProof.Rows
/-! ### list comprehensions (one clause, at most one test) -/
def PTs (X : Cx) (ifs : List Expr) (t : TT) : Prop :=
  ∀ (pins : List (Addr × Obj)) (s : Shared) (σ : St) (H : Hp) (Q : Bool → Hp → Prop), Inv X pins σ H s → t σ H Q →
    wpAny (model X.prog X.w) X.A (forIn ifs true fun c r => if r = true then do let ok ← isTrue c X.env (eval c X.env); pure (ForInStep.yield ok) else pure (ForInStep.yield r)) (TP X pins σ Q) X.xe s
def tTrue : TT := fun _ H Q => Q true H
theorem pts_nil {X : Cx} : PTs X [] tTrue := fun _ _ _ H _ I h => wpAny_tests_nil ⟨H, I, h⟩
theorem pts_one {X : Cx} {c : Expr} {t : TT} (h : PT X c t) : PTs X [c] t := fun pins s σ H Q I hw => wpAny_tests_one (h pins s σ H Q I hw)

/-- the context of a comprehension's block -/
def Cx.block (X : Cx) (scope : Scope) (N : List Str) (s : Shared) (H : Hp) (fp : List Addr) : Cx where
  prog := X.prog
  w := X.w
  K := X.K
  mg := X.mg
  base := X.base
  A := X.A
  N := N
  s₀ := s
  H₀ := H
  env := compEnvC scope (closOf X.env.cells scope.names []) s.heap.objs.size X.env
  outer := X.stack
  stack := X.stack
  ex := fp
  fn := fun _ => false
  calm := X.calm
  pn := []
  xe := fun _ _ => False

def isCl : Option NameKind → Bool
  | some .cell => true
  | some .free => true
  | _ => false
theorem isCl_iff {k : Option NameKind} (h : isCl k = true) : k = some .cell ∨ k = some .free := by
  unfold isCl at h
  split at h
  · exact .inl rfl
  · exact .inr rfl
  · cases h
/-- what a comprehension's scope must be, over the context -/
structure CompOk (X : Cx) (scope : Scope) (N : List Str) (cap : List (Option Nat)) : Prop where
  kind : scope.kind = .function
  nocell : (scope.names.all fun y => !(y.2 == .cell)) = true
  loc : (scope.names.all fun y => !(y.2 == .local) || (scope.names.lookup y.1 == some .local)) = true
  fre : (scope.names.all fun y => !(y.2 == .free) || isCl (X.env.kindOf y.1)) = true
  len : cap.length = N.length
  cap : ((cap.zip N).all fun p => match p.1 with | none => true | some j => (X.N[j]? == some p.2) && isCl (X.env.kindOf p.2) && isCl ((relabel scope X.env).names.lookup p.2)) = true
/-- the names' values at the block's entry -/
def capS (cap : List (Option Nat)) (σ : St) : St := cap.map fun o => match o with | none => none | some j => (σ[j]?).join

section
variable {X : Cx} {pins : List (Addr × Obj)} {σ : St} {H : Hp} {s : Shared} {fp : List Addr} {scope : Scope} {N : List Str} {cap : List (Option Nat)}
theorem CompOk.freeH (c : CompOk X scope N cap) (ok : X.Ok) : ∀ x ∈ scope.names, x.2 = .free → ∃ a, X.env.cells.lookup x.1 = some a := fun x hx hf => by
  have := List.all_eq_true.mp c.fre x hx
  rw [hf] at this
  simp only [beq_self_eq_true, Bool.not_true, Bool.false_or] at this
  exact ok.has x.1 (isCl_iff this)
theorem relabel_look {scope : Scope} {env : Env} {y : Str} (h : (relabel scope env).names.lookup y = some .cell ∨ (relabel scope env).names.lookup y = some .free) (nc : ∀ z ∈ scope.names, z.2 ≠ .cell) : (y, NameKind.free) ∈ scope.names := by
  unfold relabel at h
  dsimp only at h
  generalize scope.names = names at h nc
  induction names with
  | nil => simp at h
  | cons z r ih =>
    obtain ⟨n, k⟩ := z
    have nc' : ∀ z ∈ r, z.2 ≠ .cell := fun z hz => nc z (List.mem_cons_of_mem _ hz)
    rw [List.map_cons, List.lookup_cons] at h
    have nck := nc (n, k) List.mem_cons_self
    dsimp only at h nck
    by_cases hc : (k == NameKind.free && env.scope.kind == .function && env.kindOf n == some .cell) = true
    · rw [if_pos hc] at h
      dsimp only at h
      have hk : k = .free := by
        simp only [Bool.and_eq_true, beq_iff_eq] at hc
        exact hc.1.1
      cases q : y == n with
      | true => rw [show y = n from by simpa using q, hk]; exact List.mem_cons_self
      | false => rw [q] at h; exact List.mem_cons_of_mem _ (ih h nc')
    · rw [if_neg hc] at h
      dsimp only at h
      cases q : y == n with
      | true =>
        rw [q] at h
        rcases h with h | h
        · cases h; exact absurd rfl nck
        · cases h; rw [show y = n from by simpa using q]; exact List.mem_cons_self
      | false => rw [q] at h; exact List.mem_cons_of_mem _ (ih h nc')
theorem CompOk.nc (c : CompOk X scope N cap) : ∀ z ∈ scope.names, z.2 ≠ .cell := fun z hz e => by
  have := List.all_eq_true.mp c.nocell z hz
  rw [e] at this
  exact absurd this (by decide)
theorem CompOk.lc (c : CompOk X scope N cap) : ∀ x ∈ scope.names, x.2 = .local → scope.names.lookup x.1 = some .local := fun x hx e => by
  have := List.all_eq_true.mp c.loc x hx
  rw [e] at this
  simpa using this
theorem block_ok (c : CompOk X scope N cap) (I : Inv X pins σ H s) (hf : ∀ b ∈ fp, FpOk X pins H b) (hlt : ∀ b ∈ fp, b < s.heap.objs.size) : (X.block scope N s H fp).Ok := by
  have lk : ∀ {y : Str} {a : Addr}, (closOf X.env.cells scope.names []).lookup y = some a → X.env.cells.lookup y = some a := fun e => closOf_look (c.freeH I.ok) (fun z => by simp at z) e
  refine ⟨I.ok.mod, c.kind, I.ok.glob, I.ok.blt, Nat.le_refl _, fun x y a h1 h2 => I.ok.inj x y a (lk h1) (lk h2), fun x hx => closOf_has (.inl (relabel_look hx c.nc)), fun x a h => absurd h (by simp [Cx.block]), I.ok.hd, I.ok.frames, .inl rfl, fun b hb => ⟨?_, fun x a h => (hf b hb).2.2.2.2.1 x a (lk h)⟩, I.bs, Nat.le_trans I.ok.bsz I.sz, fun b o e hb => ?_, fun b hb z => ?_, I.stack, I.stkFree⟩
  · exact Nat.ne_of_lt (hlt b hb)
  · rcases (hf b hb).2.2.2.1 with z | z
    · exact I.ok.noex b o e z
    · exact absurd (Nat.lt_of_lt_of_le (Heap.lt_size (I.ok.bs b o e).1) z) (Nat.lt_irrefl _)
  · rcases List.mem_cons.mp (I.stkSub b z) with e | e
    · exact (hf b hb).2.1 e
    · exact (hf b hb).2.2.1 e
theorem capS_get {i : Nat} {v : V} (h : (capS cap σ)[i]? = some (some v)) : ∃ j, cap[i]? = some (some j) ∧ σ[j]? = some (some v) := by
  unfold capS at h
  rw [List.getElem?_map] at h
  cases q : cap[i]? with
  | none => rw [q] at h; cases h
  | some o =>
    rw [q] at h
    cases o with
    | none => cases h
    | some j =>
      refine ⟨j, rfl, ?_⟩
      have h' : (σ[j]?).join = some v := Option.some.inj h
      cases q2 : σ[j]? with
      | none => rw [q2] at h'; cases h'
      | some o =>
        rw [q2] at h'
        have : o = some v := h'
        rw [this]
theorem block_inv (c : CompOk X scope N cap) (I : Inv X pins σ H s) (hf : ∀ b ∈ fp, FpOk X pins H b) (hlt : ∀ b ∈ fp, b < s.heap.objs.size) {h1 : Heap} {t1 : Nat} (hns : h1.Ns s.heap.objs.size (fun x => ([] : List (Str × Value)).reverse.lookup x))
    (hsb : Heap.SameBut s.heap.objs.size (s.heap.push { cls := .type (if (some X.env : Option Env).isSome then "dict" else "frame"), data := .dict #[] }) h1) : Inv (X.block scope N s H fp) [] (capS cap σ) H { s with heap := h1, toks := t1 } := by
  have lk : ∀ {y : Str} {a : Addr}, (closOf X.env.cells scope.names []).lookup y = some a → X.env.cells.lookup y = some a := fun e => closOf_look (c.freeH I.ok) (fun z => by simp at z) e
  have keep : ∀ b o, s.heap.get? b = some o → h1.get? b = some o := fun b o e => (hsb.2 b (Nat.ne_of_lt (Heap.lt_size e))).trans (Heap.get?_push_of_some _ e)
  have cellK : ∀ {a : Addr} {v : Option Value}, s.heap.IsCell a v → h1.IsCell a v := fun ⟨o, e, d⟩ => ⟨o, keep _ _ e, d⟩
  refine ⟨block_ok c I hf hlt, rfl, I.bare, Un.kept keep, ⟨_, hns, fun i x v h1 h2 h3 => ?_⟩, fun x a e => ?_, I.hok.fresh (Nat.le_refl _), fun x a e => I.freeC x a (lk e), fun p hp => absurd (show p ∈ ([] : List (Addr × Obj)) from hp) (by simp), I.hok.kept keep, ?_⟩
  · obtain ⟨j, hc, hs⟩ := capS_get h2
    have hN : N[i]? = some x := h1
    have hz : (cap.zip N)[i]? = some (some j, x) := by rw [List.getElem?_zip_eq_some]; exact ⟨hc, hN⟩
    have := List.all_eq_true.mp c.cap _ (List.mem_of_getElem? hz)
    simp only [Bool.and_eq_true, beq_iff_eq] at this
    obtain ⟨⟨e1, e2⟩, e3⟩ := this
    obtain ⟨m, hn, hl⟩ := I.loc
    have hk := isCl_iff e2
    obtain ⟨u, r, l⟩ := hl j x v e1 hs (by rcases hk with z | z; exact .inr (.inl z); exact .inr (.inr z))
    refine ⟨u, r, ?_⟩
    rcases l with ⟨l, _⟩ | ⟨_, a, ea, ca⟩
    · rw [l] at hk; rcases hk with z | z <;> cases z
    · have hk' := isCl_iff e3
      obtain ⟨a', ha'⟩ := closOf_has (cells := X.env.cells) (acc := []) (.inl (relabel_look hk' c.nc))
      have : a' = a := Option.some.inj ((lk ha').symm.trans ea)
      subst this
      exact .inr ⟨hk', a', ha', cellK ca⟩
  · obtain ⟨v, hv⟩ := I.cell x a (lk e)
    exact ⟨v, cellK hv⟩
  · unfold capS
    rw [List.length_map]
    exact c.len
end
end L2

set_option Elab.async false
set_option maxRecDepth 100000
namespace L2
open PySem PySem.Spec PyProof.Rows
theorem compLoop_go {prog : Program} {w : World} {A : Around} {R : Result → Shared → Prop} {s : Shared} {elt target iter : Expr} {ifs : List Expr} {scope : Scope} {pos : Pos} {it acc : Value} {env : Env} (J : Nat → Shared → Prop)
    (turn : ∀ n s, J n s → wpAny (model prog w) A (pyNext it) (fun r s₁ => match r with
      | none => R (.ok .next) s₁
      | some v => wpAny (model prog w) A (letOwnedTupleGo target it v) (fun _ s₀ => wpAny (model prog w) A (assign target env v) (fun _ s₂ =>
          wpAny (model prog w) A (forIn ifs true fun c r => if r = true then do let ok ← isTrue c env (eval c env); pure (ForInStep.yield ok) else pure (ForInStep.yield r)) (fun ok s₃ =>
            if ok = true then wpAny (model prog w) A (eval elt env) (fun x s₄ =>
              wpAny (model prog w) A (call (.builtin "list.append") [acc, x]) (fun _ s₅ => ∃ m, m < n ∧ J m s₅) (fun _ _ => False) s₄) (fun _ _ => False) s₃
            else ∃ m, m < n ∧ J m s₃) (fun _ _ => False) s₂) (fun _ _ => False) s₀) (fun _ _ => False) s₁) (fun _ _ => False) s)
    (n : Nat) (h : J n s) :
    codeAny (model prog w) A (.compLoop (.ListComp elt [⟨target, iter, ifs, 0⟩] scope pos) 0 it acc env) R s := by
  refine codeAny_loop rfl J (fun n s hI => ?_) n h
  show wpAny _ A ((compTurn (.ListComp elt [⟨target, iter, ifs, 0⟩] scope pos) 0 it acc env).onRaise (fun x => do noteFrame x env; theTreesLotGoes x)) _ _ s
  refine wpAny_noted ?_
  rw [compTurn_list]
  refine wpAny_bind (wpAny_standAt (wpAny_bind (wpAny_mono (turn n s hI) (fun r s₁ h₁ => ?_) fun _ _ h' => h'.elim)))
  cases r with
  | none => exact wpAny_pure h₁
  | some v =>
    refine wpAny_bind (wpAny_mono h₁ (fun _ s₀ h₀ => ?_) fun _ _ h' => h'.elim)
    refine wpAny_bind (wpAny_mono h₀ (fun _ s₂ h₂ => wpAny_bind (wpAny_mono h₂ (fun ok s₃ h₃ => ?_) fun _ _ h' => h'.elim)) fun _ _ h' => h'.elim)
    cases ok with
    | false => exact wpAny_pure ⟨rfl, h₃⟩
    | true =>
      exact wpAny_bind (wpAny_bind (wpAny_mono h₃ (fun x s₄ h₄ => wpAny_bind (wpAny_mono h₄ (fun _ s₅ h₅ => wpAny_pure (wpAny_pure ⟨rfl, h₅⟩)) fun _ _ h' => h'.elim)) fun _ _ h' => h'.elim))

/-- the reading of a comprehension: over each fresh place l for the list, a number of turns n and a word Pv (turn, items so far, the block's names, heap) -/
def tComp (wi : TI) (g : TG) (tt : TT) (te : TE) (cap : List (Option Nat)) : TE := fun σ H Q => wi σ H fun J H1 => ∀ l, H1 l = none →
  ∃ (n : Nat) (Pv : Nat → List V → St → Hp → Prop), Pv 0 [] (capS cap σ) (upd H1 l (.lst [])) ∧
    (∀ i ys σ' H', i < n → Pv i ys σ' H' → J.go i H' ∧ ∀ x H2, J.yld i H' x H2 → g x σ' H2 fun σ3 H3 => tt σ3 H3 fun b H4 =>
      if b = true then te σ3 H4 fun y H5 => H5 l = some (.lst ys) ∧ ys.length < sizeLine ∧ Pv (i + 1) (ys ++ [y]) σ3 (upd H5 l (.lst (ys ++ [y]))) else Pv (i + 1) ys σ3 H4) ∧
    ∀ ys σ' H', Pv n ys σ' H' → J.stop n H' ∧ Q (.ref l) H'

section
variable {X : Cx} {elt tg iter : Expr} {ifs : List Expr} {scope : Scope} {pos : Pos} {N : List Str} {cap : List (Option Nat)} {wi : TI} {g : TG} {tt : TT} {te : TE}
/-- the whole of it, up to what is done with the list: U is what is wanted where the block has ended, ahead of its variables' going -/
theorem comp_run {U : Value → Addr → Shared → Prop} (hc : X.calm = true) (c : CompOk X scope N cap) (hi : PI X tg iter wi) (hg : ∀ s H fp, PG (X.block scope N s H fp) tg g) (ht : ∀ s H fp, PTs (X.block scope N s H fp) ifs tt)
    (he : ∀ s H fp, PE (X.block scope N s H fp) elt te)
    {pins : List (Addr × Obj)} {s : Shared} {σ : St} {H : Hp} {Q : VK} (I : Inv X pins σ H s) (h : tComp wi g tt te cap σ H Q)
    (hU : ∀ (l C : Addr) (H' : Hp) (s' : Shared), Inv X pins σ H' s' → (∃ m, s'.heap.Ns C m) → FpOk X pins H' C → Q (.ref l) H' → U (.ref l) C s')
    {RR : Value → Addr → Result → Shared → Prop} (hRR : ∀ a C s', U a C s' → RR a C (.ok .next) s') :
    wpAny (model X.prog X.w) X.A (eval iter X.env) (fun x s₁ => wpAny (model X.prog X.w) X.A (pyIter x) (fun it s₂ => wpAny (model X.prog X.w) X.A (newList []) (fun acc s₃ =>
      wpAny (model X.prog X.w) X.A (newFunctionEnv scope X.env.globals (closOf X.env.cells scope.names []) [] X.env.qual none .none (some X.env)) (fun cenv s₄ =>
        codeAny (model X.prog X.w) X.A (.compStart (.ListComp elt [⟨tg, iter, ifs, 0⟩] scope pos) 0 it acc { cenv with scope := relabel scope X.env }) (RR acc cenv.locals) s₄) X.xe s₃) X.xe s₂) X.xe s₁) X.xe s := by
  refine thn (hi pins s σ H _ I h) fun v s1 h1 => thn h1 fun itv s2 h2 => ?_
  obtain ⟨it, fp, tn, J, H2, e, I2, T, st2, f2, hq⟩ := h2
  subst e
  have hl : H2 s2.heap.objs.size = none := I2.hok.fresh (Nat.le_refl _)
  obtain ⟨n, Pv, p0, step, fin⟩ := hq _ hl
  refine wpAny_newObj_type ?_ (by show 0 ≤ sizeLine; exact Nat.zero_le _)
  have I3 : Inv X pins σ (upd H2 s2.heap.objs.size (.lst [])) { s2 with heap := s2.heap.push { cls := .type "list", data := .seq ([] : List Value).toArray } } :=
    I2.laid (t' := s2.toks) (fun b u e => Heap.get?_push_of_some _ e) (Nat.le_refl _) ⟨Nat.zero_le _, [], _, .nil, Heap.get?_push_size _ rfl⟩
  generalize hs3 : ({ s2 with heap := s2.heap.push { cls := .type "list", data := .seq ([] : List Value).toArray } } : Shared) = s3 at I3 ⊢
  have k23 : ∀ b o, s2.heap.get? b = some o → s3.heap.get? b = some o := fun b o e => by rw [← hs3]; exact Heap.get?_push_of_some _ e
  have fplt2 : ∀ b ∈ fp, b < s2.heap.objs.size := fun b hb => let ⟨o, e, _⟩ := T.obj _ _ st2 b hb; Heap.lt_size e
  have sz23 : s2.heap.objs.size ≤ s3.heap.objs.size := by rw [← hs3]; show _ ≤ (s2.heap.push _).objs.size; rw [Heap.size_push]; exact Nat.le_succ _
  have fplt : ∀ b ∈ fp, b < s3.heap.objs.size := fun b hb => Nat.lt_of_lt_of_le (fplt2 b hb) sz23
  have f3 : ∀ b ∈ fp, FpOk X pins (upd H2 s2.heap.objs.size (.lst [])) b := fun b hb => ⟨by rw [upd_ne (Nat.ne_of_lt (fplt2 b hb))]; exact (f2 b hb).1, (f2 b hb).2⟩
  have st3 : tn 0 s3.heap := T.keep _ _ _ st2 fun b hb o e => k23 b o e
  refine wpAny_newFunctionEnv c.nc (by intro y hy; simp at hy) (fun h4 hns hsb => ?_) c.kind
  have I4 := block_inv (t1 := s3.toks + ([] : List (Str × Value)).length) c I3 f3 fplt hns hsb
  have st4 : tn 0 h4 := T.keep _ _ _ st3 fun b hb o e => (hsb.2 b (Nat.ne_of_lt (fplt b hb))).trans (Heap.get?_push_of_some _ e)
  generalize hY : X.block scope N s3 (upd H2 s2.heap.objs.size (.lst [])) fp = Y at I4
  have yP : Y.prog = X.prog := by rw [← hY]; rfl
  have yw : Y.w = X.w := by rw [← hY]; rfl
  have yK : Y.K = X.K := by rw [← hY]; rfl
  have yA : Y.A = X.A := by rw [← hY]; rfl
  have yx : Y.xe = fun _ _ => False := by rw [← hY]; rfl
  have yc : Y.calm = true := by rw [← hY]; exact hc
  have yex : Y.ex = fp := by rw [← hY]; rfl
  have yfs : Y.fs = frs X.stack := by rw [← hY]; rfl
  have yH : Y.H₀ = upd H2 s2.heap.objs.size (.lst []) := by rw [← hY]; rfl
  have ys : Y.s₀ = s3 := by rw [← hY]; rfl
  have yC : Y.env.locals = s3.heap.objs.size := by rw [← hY]; rfl
  have yenv : compEnvC scope (closOf X.env.cells scope.names []) s3.heap.objs.size X.env = Y.env := by rw [← hY]; rfl
  have yg := hg s3 (upd H2 s2.heap.objs.size (.lst [])) fp
  have yt := ht s3 (upd H2 s2.heap.objs.size (.lst [])) fp
  have ye := he s3 (upd H2 s2.heap.objs.size (.lst [])) fp
  have ypn : Y.pn = [] := by rw [← hY]; rfl
  have ycl : Y.env.cells = closOf X.env.cells scope.names [] := by rw [← hY]; rfl
  rw [hY] at yg yt ye
  have lk : ∀ {y : Str} {a : Addr}, Y.env.cells.lookup y = some a → X.env.cells.lookup y = some a := fun e => by rw [ycl] at e; exact closOf_look (c.freeH I.ok) (fun z => by simp at z) e
  have stat : ∀ {H' : Hp}, (∀ b ∈ fp, H' b = none) → ∀ b ∈ fp, FpOk Y [] H' b := fun hn b hb => by
    refine ⟨hn b hb, by rw [yC]; exact Nat.ne_of_lt (fplt b hb), ?_, .inl (by rw [yex]; exact hb), fun x a e => (f2 b hb).2.2.2.2.1 x a (lk e), fun p hp => ?_⟩
    · rw [yfs]
      intro z
      rcases List.mem_cons.mp (I2.stkSub b z) with e | e
      · exact (f2 b hb).2.1 e
      · exact (f2 b hb).2.2.1 e
    · rw [ypn] at hp
      exact absurd hp (by simp)
  -- the end
  have done : ∀ {σ' : St} {H' : Hp} {s' : Shared}, Inv Y [] σ' H' s' → Q (.ref s2.heap.objs.size) H' → U (.ref s2.heap.objs.size) s3.heap.objs.size s' := fun {σ' H' s'} J' q => by
    have un := J'.base
    rw [yfs, yex, yH, ys] at un
    have J3 := I3.call' (s' := s') (ch := fp) (by rw [J'.os, ys]) un (by have := J'.hok; rw [yP, yw] at this; exact this) J'.bare fun b hb => ⟨(f3 b hb).2.2.2.1, (f3 b hb).2.1, (f3 b hb).2.2.2.2.1, (f3 b hb).2.2.2.2.2⟩
    have hCn : H' s3.heap.objs.size = none := by have := J'.free; rw [yC] at this; exact this
    have hne : s3.heap.objs.size ≠ X.env.locals := Nat.ne_of_gt I3.lt
    have hcl : ∀ x a, X.env.cells.lookup x = some a → a ≠ s3.heap.objs.size := fun x a e => let ⟨_, o, ho, _⟩ := I3.cell x a e; Nat.ne_of_lt (Heap.lt_size ho)
    have hpn : ∀ p ∈ X.pn ++ pins, p.1 ≠ s3.heap.objs.size := fun p hp => Nat.ne_of_lt (Heap.lt_size (I3.pin p hp).1)
    obtain ⟨m, hn, _⟩ := J'.loc
    rw [yC] at hn
    exact hU _ _ H' s' J3 ⟨m, hn⟩ ⟨hCn, hne, I3.nofs (Nat.le_refl _), .inr I3.sz, hcl, hpn⟩ q
  have loop : ∀ s5 : Shared, s5 = { s3 with heap := h4, toks := s3.toks + ([] : List (Str × Value)).length } →
      codeAny (model X.prog X.w) X.A (.compLoop (.ListComp elt [⟨tg, iter, ifs, 0⟩] scope pos) 0 (.ref it) (.ref s2.heap.objs.size) Y.env) (RR (.ref s2.heap.objs.size) s3.heap.objs.size) s5 := by
    rintro s5 rfl
    refine compLoop_go (fun k s' => ∃ i ys σ' H', Inv Y [] σ' H' s' ∧ tn i s'.heap ∧ (∀ b ∈ fp, H' b = none) ∧ i ≤ n ∧ k = n - i ∧ Pv i ys σ' H') ?_ n ⟨0, [], _, _, I4, st4, fun b hb => (f3 b hb).1, Nat.zero_le _, rfl, p0⟩
    rintro k s6 ⟨i, zs, σ6, H6, I6, st6, fr6, hin, rfl, pv6⟩
    by_cases hlt : i < n
    · obtain ⟨go, stp⟩ := step i zs σ6 H6 hlt pv6
      have q := T.item Y yP yw yK yc i [] s6 σ6 H6 (fun _ _ => False) I6 (stat fr6) st6 go
      rw [yA] at q
      refine thn q fun r s7 ⟨u, hr, h7⟩ => ?_
      subst hr
      refine thn h7 fun _ s8 ⟨x, H8, I8, r8, y8, st8, fr8⟩ => ?_
      have I8' := I8.pinned (stat fr8) (T.obj _ _ st8)
      have q := yg _ s8 σ6 H8 x u _ I8' r8 (stp x H8 y8)
      rw [yP, yw, yA, yx] at q
      refine thn q fun _ s9 ⟨σ9, H9, I9, q9⟩ => ?_
      have q := yt _ s9 σ9 H9 _ I9 q9
      rw [yP, yw, yA, yx] at q
      refine thn q fun b s10 ⟨H10, I10, q10⟩ => ?_
      have again : ∀ {ws : List V} {σ' : St} {H' : Hp} {s' : Shared}, Inv Y ([] ++ pinsAt fp s8.heap) σ' H' s' → Pv (i + 1) ws σ' H' → ∃ m, m < n - i ∧ ∃ i ys σ' H', Inv Y [] σ' H' s' ∧ tn i s'.heap ∧ (∀ b ∈ fp, H' b = none) ∧ i ≤ n ∧ m = n - i ∧ Pv i ys σ' H' := fun {ws σ' H' s'} J' p' => by
        refine ⟨n - (i + 1), by omega, i + 1, ws, σ', H', J'.unpinned, T.keep _ _ _ st8 fun b hb o e => (J'.pin (b, o) (List.mem_append_right _ (List.mem_append_right _ (mem_pinsAt hb e)))).1, fun b hb => ?_, hlt, rfl, p'⟩
        obtain ⟨o, e, d⟩ := T.obj _ _ st8 b hb
        exact (J'.pin (b, o) (List.mem_append_right _ (List.mem_append_right _ (mem_pinsAt hb e)))).2.1
      cases b with
      | false => exact again I10 q10
      | true =>
        have q10 := (if_pos (α := Prop) rfl).mp q10
        have q := ye _ s10 σ9 H10 _ I10 q10
        rw [yP, yw, yA, yx] at q
        refine iteT ?_
        refine thn q fun xv s11 ⟨y, H11, I11, r11, hl11, hz, p11⟩ => ?_
        have q := mt_append (X := Y) _ s11 σ9 H11 (.ref s2.heap.objs.size) [y] _ [xv] (fun _ H' => Pv (i + 1) (zs ++ [y]) σ9 H') I11 rfl (.cons r11 .nil) ⟨_, _, _, rfl, rfl, hl11, hz, p11⟩
        rw [yP, yw, yA, yx] at q
        exact thn q fun _ s12 ⟨_, H12, I12, _, p12⟩ => again I12 p12
    · have e : i = n := by omega
      subst e
      obtain ⟨stop, q⟩ := fin zs σ6 H6 pv6
      have qd := T.done Y yP yw yK yc i [] s6 σ6 H6 (fun _ _ => False) I6 (stat fr6) st6 stop
      rw [yA] at qd
      refine thn qd fun r s7 ⟨hr, I7⟩ => ?_
      subst hr
      exact hRR _ _ _ (done I7 q)
  show codeAny _ _ (.compStart _ 0 (.ref it) _ (compEnvC scope (closOf X.env.cells scope.names []) s3.heap.objs.size X.env)) (RR (.ref s2.heap.objs.size) s3.heap.objs.size) _
  rw [yenv]
  exact codeAny_compStart_list (loop _ rfl) (T.self X.A 0 _ _ _ st4 (loop _ rfl))
theorem FpOk.turned {pins : List (Addr × Obj)} {σ : St} {H : Hp} {s : Shared} {C : Addr} {h' : Heap} (f : FpOk X pins H C) (I : Inv X pins σ H s) (sb : Heap.SameBut C s.heap h') : Inv X pins σ H { s with heap := h' } :=
  I.turned (t' := s.toks) (fun b o hb e => (sb.2 b hb).trans e) f.1 f.2.1 f.2.2.2.1 f.2.2.2.2.1 f.2.2.2.2.2
/-- [elt for tg in iter if ..] as a value -/
theorem pe_comp (hc : X.calm = true) (c : CompOk X scope N cap) (hi : PI X tg iter wi) (hg : ∀ s H fp, PG (X.block scope N s H fp) tg g) (ht : ∀ s H fp, PTs (X.block scope N s H fp) ifs tt)
    (he : ∀ s H fp, PE (X.block scope N s H fp) elt te) (hs : ∀ x, foldedSetIterable iter X.env x = pure x := by intro _; rfl) : PE X (.ListComp elt [⟨tg, iter, ifs, 0⟩] scope pos) (tComp wi g tt te cap) := by
  intro pins s σ H Q I h
  rw [eval_ListComp]
  refine wpAny_comprehension_free rfl hs (closureFor_of (c.freeH I.ok)) c.kind c.lc ?_
  exact comp_run (U := fun a C s' => ∃ m, s'.heap.Ns C m ∧ ∀ h', Heap.SameBut C s'.heap h' → EP X pins σ Q a { s' with heap := h' }) hc c hi hg ht he I h
    (fun l C H' s' I' ⟨m, hn⟩ f q => ⟨m, hn, fun h' sb => ⟨.ref l, H', f.turned I' sb, rfl, q⟩⟩) fun a C s' u => u
/-- x = [elt for tg in iter if ..] on one row -/
theorem ps_setC {i : Nat} {x : Str} {pos' pos2 : Pos} (hN : X.N.Nodup) (hi' : X.N[i]? = some x) (hx : Loc X.env.scope x) (hc : X.calm = true) (c : CompOk X scope N cap) (hi : PI X tg iter wi) (hg : ∀ s H fp, PG (X.block scope N s H fp) tg g) (ht : ∀ s H fp, PTs (X.block scope N s H fp) ifs tt)
    (he : ∀ s H fp, PE (X.block scope N s H fp) elt te) (hsw : swapsWith (.ListComp elt [⟨tg, iter, ifs, 0⟩] scope pos) (some (.Name x pos')) pos2.line X.env = pure true) (hs : ∀ x, foldedSetIterable iter X.env x = pure x := by intro _; rfl)
    (hf : X.fn x = true ∨ X.env.scope.names.lookup x = some .local := by first | exact .inl rfl | exact .inr rfl | assumption) : PS X (.Assign [.Name x pos'] (.ListComp elt [⟨tg, iter, ifs, 0⟩] scope pos) pos2) (tAsg (tComp wi g tt te cap) (gName i)) := by
  intro pins s σ H D I h
  rw [exec_Assign_Name_used _ _ _ _ hsw]
  refine wpAny_bind (wpAny_standAt (wpAny_bind ?_))
  show wpAny _ X.A (do let _ ← comprehension (.ListComp elt [⟨tg, iter, ifs, 0⟩] scope pos) scope X.env _ (newList []) false (eval iter X.env) (some (assign (.Name x pos') X.env))) _ _ s
  refine wpAny_bind (wpAny_mono (wpAny_comprehension_free (Q := fun _ s' => SP X pins D .next s') rfl hs (closureFor_of (c.freeH I.ok)) c.kind c.lc ?_) (fun _ s' hq => wpAny_pure (wpAny_pure hq)) fun _ _ e => e)
  refine comp_run (U := fun a C s' => wpAny (model X.prog X.w) X.A (assign (.Name x pos') X.env a) (fun _ s'' => ∃ m, s''.heap.Ns C m ∧ ∀ h', Heap.SameBut C s''.heap h' → SP X pins D .next { s'' with heap := h' }) X.xe s') hc c hi hg ht he I h ?_ fun a C s' u => u
  intro l C H' s' I' hn f q
  obtain ⟨m, o, es, ep, ho, hd, r⟩ := hn
  have I2 : Inv X (pins ++ [(C, o)]) σ H' s' := I'.pins_of fun p hp => by
    rcases List.mem_append.mp hp with z | z
    · exact I'.pin p (List.mem_append_right _ z)
    · have e : p = (C, o) := by simpa using z
      subst e
      exact ⟨ho, f.1, f.2.1, f.2.2.1, fun v z => by rw [hd] at z; cases z⟩
  refine wpAny_assign_Name (store_ok I2 hN hi' hx (v := .ref l) rfl (fun s2 I3 => ?_) hf)
  have pc := (I3.pin (C, o) (List.mem_append_right _ (List.mem_append_right _ List.mem_cons_self))).1
  exact ⟨m, ⟨o, es, ep, pc, hd, r⟩, fun h' sb => ⟨_, H', f.turned I3.unpinned sb, q⟩⟩
end
end L2

set_option Elab.async false
set_option maxRecDepth 100000
namespace L2
open PySem PySem.Spec PyProof.Rows
section
variable {X : Cx}
/-! ### isinstance, all, sum, int lists compared -/
theorem call_isinst : CallR X (.builtin "isinstance") (fun xs H Q => ∃ x n t b, xs = [x, .ty n] ∧ TyOf X.K H x t ∧ PySem.W.kitOne X.K t (.type n) = some b ∧ Q (.bl b) H) := by
  intro pins s σ H xs us Q I r h
  obtain ⟨x, n, t, b, rfl, ty, e, q⟩ := h
  obtain ⟨u, v, rfl, ru, rv⟩ := r.two
  cases (show v = Value.type n from rv)
  exact isinst_ok I ru ty e fun tk => ⟨.bl b, H, I.tok tk, rfl, q⟩
theorem in1_hd {A : Around} (h : A.handled = none) : A.in1.handled = none := h
theorem vals_getD {its : List Value} {bs : List Bool} (r : Vals (bs.map V.bl) its) {i : Nat} {v : Value} (e : its[i]? = some v) : v = .bool (bs.getD i false) := by
  have hl := r.length
  rw [List.length_map] at hl
  have hi : i < its.length := (List.getElem?_eq_some_iff.mp e).1
  have hb : (bs.map V.bl)[i]? = some (V.bl (bs.getD i false)) := by
    rw [List.getElem?_map, List.getD_eq_getElem?_getD, List.getElem?_eq_getElem (by omega)]
    rfl
  obtain ⟨u, hu, ru⟩ := r.get hb
  rw [e] at hu
  cases hu
  exact ru
theorem range_all (bs : List Bool) : (List.range bs.length).all (fun i => bs.getD i false) = bs.all id := by
  rw [Bool.eq_iff_iff]
  simp only [List.all_eq_true, List.mem_range, id]
  constructor
  · intro h b hb
    obtain ⟨i, hi, rfl⟩ := List.mem_iff_getElem.mp hb
    have := h i hi
    rwa [List.getD_eq_getElem?_getD, List.getElem?_eq_getElem hi] at this
  · intro h i hi
    rw [List.getD_eq_getElem?_getD, List.getElem?_eq_getElem hi]
    exact h _ (List.getElem_mem hi)
theorem call_all_bl (hc : X.calm = true) : CallR X (.builtin "all") (fun xs H Q => ∃ (p : Addr) (bs : List Bool), xs = [.ref p] ∧ SqL X.K H p (bs.map V.bl) ∧ Q (.bl (bs.all id)) H) := by
  intro pins s σ H xs us Q I r h
  obtain ⟨p, bs, rfl, hp, q⟩ := h
  obtain ⟨u, rfl, ru⟩ := r.one
  cases (show u = Value.ref p from ru)
  obtain ⟨its, rv, pl, hz⟩ := I.list hp
  have hh := in1_hd (I.ok.hd hc)
  have hlt : p < s.heap.objs.size := let ⟨o, ho, _⟩ := pl.isList; Heap.lt_size ho
  refine call_all_walk (wpAny_pyIter_list pl.isList ?_)
  refine ⟨s.heap.objs.size, _, _, _, _, _, fun i => bs.getD i false, rfl, Walks.list hh s.heap.objs.size p (Nat.ne_of_lt hlt) its.toArray, ⟨⟨_, Heap.get?_push_size _ rfl, rfl, rfl⟩, pl.isList.push _⟩, fun i v s' Q' E' hP hQ => ?_, fun h' tk hk => ?_⟩
  · have := vals_getD rv (i := i) (v := v) (by simpa using hP)
    subst this
    exact wpAny_truthy_bool hQ
  · have hl := rv.length
    rw [List.length_map] at hl
    refine ⟨.bl (bs.all id), H, I.kept (h' := h') (t' := tk) fun b o e => hk b o (by simpa using Nat.ne_of_lt (Heap.lt_size e)) (Heap.get?_push_of_some _ e), ?_, q⟩
    show _ = _
    rw [List.size_toArray, ← hl, range_all]
/-- what sum of small ints wants -/
def SmallSum (ns : List Int) : Prop := ∀ k, k ≤ ns.length → InLong ((ns.take k).sum) ∧ ∀ n ∈ ns, InLong n
end
end L2

set_option Elab.async false
set_option maxRecDepth 100000
namespace L2
open PySem PySem.Spec PyProof.Rows
mutual
/-- v stands for the data d in the heap H -/
def Rep (H : Hp) : PyData → V → Prop
  | .none, v => v = .non
  | .bool b, v => v = .bl b
  | .int i, v => v = .int i
  | .str x, v => v = .str x
  | .list ds, v => ∃ a xs, v = .ref a ∧ H a = some (.lst xs) ∧ RepL H ds xs
  | .tuple ds, v => ∃ a xs, v = .ref a ∧ H a = some (.tup xs) ∧ RepL H ds xs
  | .dict _, _ => False
def RepL (H : Hp) : List PyData → List V → Prop
  | [], xs => xs = []
  | d :: ds, xs => ∃ x r, xs = x :: r ∧ Rep H d x ∧ RepL H ds r
end
mutual
theorem Rep.mono {H H' : Hp} (s : Same H H') : ∀ {d : PyData} {v : V}, Rep H d v → Rep H' d v
  | .none, _, h => by simpa [Rep] using h
  | .bool _, _, h => by simpa [Rep] using h
  | .int _, _, h => by simpa [Rep] using h
  | .str _, _, h => by simpa [Rep] using h
  | .list ds, _, h => by
    simp only [Rep] at h ⊢
    obtain ⟨a, xs, e, h1, h2⟩ := h
    exact ⟨a, xs, e, s _ _ h1, RepL.mono s h2⟩
  | .tuple ds, _, h => by
    simp only [Rep] at h ⊢
    obtain ⟨a, xs, e, h1, h2⟩ := h
    exact ⟨a, xs, e, s _ _ h1, RepL.mono s h2⟩
  | .dict _, _, h => by simp only [Rep] at h
theorem RepL.mono {H H' : Hp} (s : Same H H') : ∀ {ds : List PyData} {xs : List V}, RepL H ds xs → RepL H' ds xs
  | [], _, h => by simpa [RepL] using h
  | d :: ds, _, h => by
    simp only [RepL] at h ⊢
    obtain ⟨x, r, e, h1, h2⟩ := h
    exact ⟨x, r, e, Rep.mono s h1, RepL.mono s h2⟩
end
section
variable {X : Cx} {pins : List (Addr × Obj)} {σ : St} {H : Hp} {s : Shared}
mutual
theorem Rep.reads (I : Inv X pins σ H s) : ∀ {d : PyData} {v : V} {u : Value}, Rep H d v → RelV v u → ∃ as, Reads s.heap u d as
  | .none, _, _, h, r => by simp only [Rep] at h; subst h; cases r; exact ⟨_, .none⟩
  | .bool _, _, _, h, r => by simp only [Rep] at h; subst h; cases r; exact ⟨_, .bool _⟩
  | .int _, _, _, h, r => by simp only [Rep] at h; subst h; obtain ⟨t, rfl⟩ := r; exact ⟨_, .int _ _⟩
  | .str _, _, _, h, r => by simp only [Rep] at h; subst h; obtain ⟨t, rfl⟩ := r; exact ⟨_, .str _ _⟩
  | .list ds, _, _, h, r => by
    simp only [Rep] at h
    obtain ⟨a, xs, rfl, h1, h2⟩ := h
    cases (show _ = Value.ref a from r)
    obtain ⟨its, rv, pl, _⟩ := I.list (SqL.of h1)
    obtain ⟨as, ra⟩ := RepL.reads I h2 rv
    obtain ⟨o, n, e, c, _, d⟩ := pl
    exact ⟨_, .list e c d (by simpa using ra)⟩
  | .tuple ds, _, _, h, r => by
    simp only [Rep] at h
    obtain ⟨a, xs, rfl, h1, h2⟩ := h
    cases (show _ = Value.ref a from r)
    obtain ⟨its, rv, pl, _⟩ := I.tuple (SqT.of h1)
    obtain ⟨as, ra⟩ := RepL.reads I h2 rv
    obtain ⟨o, e, c, n, d⟩ := pl
    exact ⟨_, .tuple e c d (by simpa using ra)⟩
  | .dict _, _, _, h, _ => by simp only [Rep] at h
theorem RepL.reads (I : Inv X pins σ H s) : ∀ {ds : List PyData} {xs : List V} {us : List Value}, RepL H ds xs → Vals xs us → ∃ as, ReadsAll s.heap us ds as
  | [], _, _, h, r => by simp only [RepL] at h; subst h; cases r; exact ⟨_, .nil⟩
  | d :: ds, _, _, h, r => by
    simp only [RepL] at h
    obtain ⟨x, t, rfl, h1, h2⟩ := h
    cases r with
    | cons r1 r2 =>
      obtain ⟨as, a1⟩ := Rep.reads I h1 r1
      obtain ⟨bs, a2⟩ := RepL.reads I h2 r2
      exact ⟨_, .cons a1 a2⟩
end
end
/-- == and != of data, at any depth up to 64 -/
def rEqD (neg : Bool) : R2 := fun x y H Q => ∃ d e, Rep H d x ∧ Rep H e y ∧ SeqAt.shaped d = true ∧ SeqAt.shaped e = true ∧ Q (.bl (if neg then !PyData.eqv d e else PyData.eqv d e)) H
section
variable {X : Cx}
theorem op_neD (hu : X.A.units + 64 < cLine) : OpR X (compareOp .NotEq) (rEqD true) := by
  intro pins s σ H x y v u Q I rx ry h
  obtain ⟨d, e, h1, h2, s1, s2, q⟩ := h
  obtain ⟨as, r1⟩ := h1.reads I rx
  obtain ⟨bs, r2⟩ := h2.reads I ry
  exact ne_dataH r1 r2 s1 s2 hu ⟨.bl _, H, I, rfl, q⟩
end
def tyD : PyData → String
  | .none => "NoneType"
  | .bool _ => "bool"
  | .int _ => "int"
  | .str _ => "str"
  | .list _ => "list"
  | .tuple _ => "tuple"
  | .dict _ => "dict"
def isD (T : String) : PyData → Bool
  | .none => T == "NoneType"
  | .bool _ => T == "bool" || T == "int"
  | .int _ => T == "int"
  | .str _ => T == "str"
  | .list _ => T == "list"
  | .tuple _ => T == "tuple"
  | .dict _ => T == "dict"
end L2

set_option Elab.async false
set_option maxRecDepth 100000
namespace L2
open PySem PySem.Spec PyProof.Rows
/-! ### zip of two lists, unpacked into names -/
def Itz (K : PySem.W.Frag) (a b : Addr) : It :=
  ⟨fun i H => ∃ xs ys x y, SqL K H a xs ∧ SqL K H b ys ∧ xs[i]? = some x ∧ ys[i]? = some y,
   fun i H v H' => ∃ T, v = .ref T ∧ H T = none ∧ ∀ xs ys, SqL K H a xs → SqL K H b ys → ∃ x y, xs[i]? = some x ∧ ys[i]? = some y ∧ H' = upd H T (.tup [x, y]),
   fun i H => ∃ xs ys, SqL K H a xs ∧ SqL K H b ys ∧ (xs.length ≤ i ∨ ys.length ≤ i)⟩
section
variable {X : Cx} {elts : List Expr} {kt : Nat} {pt : Pos}
def iZip (K : PySem.W.Frag) (ta : TA) : TI := fun σ H R => ta σ H fun vs H1 => ∃ a b, vs = [.ref a, .ref b] ∧ (∃ xs, SqL K H1 a xs) ∧ (∃ ys, SqL K H1 b ys) ∧ R (Itz K a b) H1
end
end L2

set_option Elab.async false
set_option maxRecDepth 100000
namespace L2
open PySem PySem.Spec PyProof.Rows
/-! ### readings, one step each -/
section
variable {σ : St} {H : Hp} {Q : VK} {D : Ends} {QB : Bool → Hp → Prop} {QA : List V → Hp → Prop}
theorem rd_next (h : D.nx σ H) : tNext D σ H := h
theorem rd_asg {te : TE} {g : TG} (h : te σ H fun x H1 => g x σ H1 D.nx) : tAsg te g D σ H := h
theorem rd_name {i : Nat} {v : V} {Q : St → Hp → Prop} (h : Q (σ.set i (some v)) H) : gName i v σ H Q := h
theorem rd_ret {te : TE} (h : te σ H D.rt) : tRet te D σ H := h
theorem rd_drop {te : TE} (h : te σ H fun _ H1 => D.nx σ H1) : tDrop te D σ H := h
theorem rd_ifS {c : TT} {t u : TS} (h : c σ H fun b H1 => if b = true then t D σ H1 else u D σ H1) : tIfS c t u D σ H := h
theorem rd_tB {t : TE} (h : t σ H fun x H1 => ∃ c, x = .bl c ∧ QB c H1) : tB t σ H QB := h
theorem rd_tTest {t : TE} (h : t σ H fun x H1 => ∃ c, x = .bl c ∧ QB c H1) : tTest t σ H QB := h
theorem rd_exbl {b : Bool} {P : Bool → Prop} (h : P b) : ∃ c, V.bl b = V.bl c ∧ P c := ⟨b, rfl, h⟩
theorem rd_exref {a : Addr} {P : Addr → Prop} (h : P a) : ∃ c, V.ref a = V.ref c ∧ P c := ⟨a, rfl, h⟩
theorem rd_exint {i : Int} {P : Int → Prop} (h : P i) : ∃ c, V.int i = V.int c ∧ P c := ⟨i, rfl, h⟩
theorem rd_var {i : Nat} {v : V} (e : σ[i]? = some (some v)) (h : Q v H) : tVar i σ H Q := ⟨v, e, h⟩
theorem rd_c {v : V} (h : Q v H) : tC v σ H Q := h
theorem rd_op {r : R2} {ta tb : TE} (h : ta σ H fun x H1 => tb σ H1 fun y H2 => r x y H2 Q) : tOp r ta tb σ H Q := h
theorem rd_un {r : V → Hp → VK → Prop} {ta : TE} (h : ta σ H fun x H1 => r x H1 Q) : tUn r ta σ H Q := h
theorem rd_andV {ta tb : TE} (h : ta σ H fun x H1 => ∃ c, x = .bl c ∧ if c = true then tb σ H1 Q else Q (.bl false) H1) : tAndV ta tb σ H Q := h
theorem rd_notV {ta : TE} (h : ta σ H fun x H1 => ∃ c, x = .bl c ∧ Q (.bl (!c)) H1) : tNotV ta σ H Q := h
theorem rd_and {t u : TT} (h : t σ H fun c H1 => if c = true then u σ H1 QB else QB false H1) : tAnd t u σ H QB := h
theorem rd_not {t : TT} (h : t σ H fun c H1 => QB (!c) H1) : tNot t σ H QB := h
theorem rd_if {t : TT} {ta tb : TE} (h : t σ H fun c H1 => if c = true then ta σ H1 Q else tb σ H1 Q) : tIf t ta tb σ H Q := h
theorem rd_true (h : QB true H) : tTrue σ H QB := h
theorem rd_I0 {g : Int → Int → V} {i j : Int} (h : Q (g i j) H) : rI0 g (.int i) (.int j) H Q := ⟨i, j, rfl, rfl, h⟩
theorem rd_I {C : Int → Int → Prop} {g : Int → Int → V} {i j : Int} (c : C i j) (h : Q (g i j) H) : rI C g (.int i) (.int j) H Q := ⟨i, j, rfl, rfl, c, h⟩
theorem rd_U {g : Int → V} {i : Int} (h : Q (g i) H) : rU g (.int i) H Q := ⟨i, rfl, h⟩
theorem rd_eqI {i j : Int} (h : Q (.bl (decide (i = j))) H) : rEq (.int i) (.int j) H Q := ⟨rfl, by
  rw [dec_int, Int.instDecidableEq.eq_def] <;> first | exact h | (simpa [dec_int] using h)⟩
theorem rd_neI {i j : Int} (h : Q (.bl (!decide (i = j))) H) : rNe (.int i) (.int j) H Q := ⟨rfl, by
  have e : decide (V.int i = V.int j) = decide (i = j) := by by_cases z : i = j <;> simp [z]
  rw [e]; exact h⟩
theorem rd_eqS {i j : Str} (h : Q (.bl (decide (i = j))) H) : rEq (.str i) (.str j) H Q := ⟨rfl, by
  have e : decide (V.str i = V.str j) = decide (i = j) := by by_cases z : i = j <;> simp [z]
  rw [e]; exact h⟩
theorem rd_ixL {K : PySem.W.Frag} {p : Addr} {xs : List V} {i : Int} {v : V} (h : SqL K H p xs) (e : atI xs i = some v) (q : Q v H) : rIxL K (.ref p) (.int i) H Q := ⟨p, xs, i, v, rfl, rfl, h, e, q⟩
theorem rd_ixT {K : PySem.W.Frag} {p : Addr} {xs : List V} {i : Int} {v : V} (h : SqT K H p xs) (e : atI xs i = some v) (q : Q v H) : rIxT K (.ref p) (.int i) H Q := ⟨p, xs, i, v, rfl, rfl, h, e, q⟩
theorem rd_chain {r r' : R2} {ta tb tc : TE} (h : ta σ H fun x H1 => tb σ H1 fun y H2 => r x y H2 fun z H3 => ∃ k, z = .bl k ∧ if k = true then tc σ H3 fun y' H4 => r' y y' H4 Q else Q (.bl false) H3) : tChain r r' ta tb tc σ H Q := h
theorem rd_call {sp : Sp} {dvs : List V} {E : XK} {t : TA} (h : t σ H fun vs H1 => sp (vs ++ dvs) H1 Q E) : tCall sp dvs E t σ H Q := h
theorem rd_nil (h : QA [] H) : tNil σ H QA := h
theorem rd_cons {ta : TE} {tr : TA} (h : ta σ H fun x H1 => tr σ H1 fun xs H2 => QA (x :: xs) H2) : tCons ta tr σ H QA := h
theorem rd_CB {r : List V → Hp → VK → Prop} {t : TA} (h : t σ H fun vs H1 => r vs H1 Q) : tCB r t σ H Q := h
theorem rd_tup {t : TA} (h : t σ H fun xs H1 => xs.length ≤ sizeLine ∧ ∀ p, H1 p = none → Q (.ref p) (upd H1 p (.tup xs))) : tTup t σ H Q := h
theorem rd_lst {t : TA} (h : t σ H fun xs H1 => xs.length ≤ sizeLine ∧ ∀ p, H1 p = none → Q (.ref p) (upd H1 p (.lst xs))) : tLst t σ H Q := h
end
end L2

set_option Elab.async false
set_option maxRecDepth 100000
namespace L2
open PySem PySem.Spec PyProof.Rows
theorem kit_ii {K : PySem.W.Frag} : PySem.W.kitOne K (.type "int") (.type "int") = some true := by kernel_rfl
theorem kit_ib {K : PySem.W.Frag} : PySem.W.kitOne K (.type "int") (.type "bool") = some false := by kernel_rfl
section
variable {X : Cx} {K : PySem.W.Frag} {H : Hp} {Q : VK} {σ : St}
/-! calls of built-ins, by named relations -/
def rIsi (K : PySem.W.Frag) : List V → Hp → VK → Prop := fun xs H Q => ∃ x n t b, xs = [x, .ty n] ∧ TyOf K H x t ∧ PySem.W.kitOne K t (.type n) = some b ∧ Q (.bl b) H
theorem cI_isinst : CallR X (.builtin "isinstance") (rIsi X.K) := call_isinst
theorem rd_isi {x : V} {n : String} {t : Value} {b : Bool} (ty : TyOf K H x t) (e : PySem.W.kitOne K t (.type n) = some b) (h : Q (.bl b) H) : rIsi K [x, .ty n] H Q := ⟨x, n, t, b, rfl, ty, e, h⟩
def rLen (K : PySem.W.Frag) : List V → Hp → VK → Prop := fun xs H Q => ∃ p ys, xs = [.ref p] ∧ (SqL K H p ys ∨ SqT K H p ys) ∧ Q (.int ys.length) H
theorem cI_len : CallR X (.builtin "len") (rLen X.K) := call_len_seq
theorem rd_lenL {p : Addr} {ys : List V} (h : H p = some (.lst ys)) (q : Q (.int ys.length) H) : rLen K [.ref p] H Q := ⟨p, ys, rfl, .inl (SqL.of h), q⟩
theorem rd_lenT {p : Addr} {ys : List V} (h : H p = some (.tup ys)) (q : Q (.int ys.length) H) : rLen K [.ref p] H Q := ⟨p, ys, rfl, .inr (SqT.of h), q⟩
def rAll (K : PySem.W.Frag) : List V → Hp → VK → Prop := fun xs H Q => ∃ (p : Addr) (bs : List Bool), xs = [.ref p] ∧ SqL K H p (bs.map V.bl) ∧ Q (.bl (bs.all id)) H
theorem cI_all (hc : X.calm = true) : CallR X (.builtin "all") (rAll X.K) := call_all_bl hc
theorem rd_all {p : Addr} {bs : List Bool} (h : H p = some (.lst (bs.map V.bl))) (q : Q (.bl (bs.all id)) H) : rAll K [.ref p] H Q := ⟨p, bs, rfl, SqL.of h, q⟩
def rSum (K : PySem.W.Frag) : List V → Hp → VK → Prop := fun xs H Q => ∃ (p : Addr) (ns : List Int), xs = [.ref p] ∧ (SqL K H p (ns.map V.int) ∨ SqT K H p (ns.map V.int)) ∧ SmallSum ns ∧ Q (.int ns.sum) H
def rAbs : List V → Hp → VK → Prop := fun xs H Q => ∃ i, xs = [.int i] ∧ Q (.int (if i < 0 then -i else i)) H
theorem cI_abs : CallR X (.builtin "abs") rAbs := call_abs
theorem rd_abs {i : Int} (q : Q (.int (if i < 0 then -i else i)) H) : rAbs [.int i] H Q := ⟨i, rfl, q⟩
def rMin2 : List V → Hp → VK → Prop := fun xs H Q => ∃ i j, xs = [.int i, .int j] ∧ Q (.int (if j < i then j else i)) H
def rList (K : PySem.W.Frag) : List V → Hp → VK → Prop := fun xs H Q => ∃ p ys, xs = [.ref p] ∧ (SqL K H p ys ∨ SqT K H p ys) ∧ ∀ l, H l = none → Q (.ref l) (upd H l (.lst ys))
theorem cI_list : CallR X (.type "list") (rList X.K) := call_list_of
theorem rd_listL {p : Addr} {ys : List V} (h : H p = some (.lst ys)) (q : ∀ l, H l = none → Q (.ref l) (upd H l (.lst ys))) : rList K [.ref p] H Q := ⟨p, ys, rfl, .inl (SqL.of h), q⟩
def rTuple (K : PySem.W.Frag) : List V → Hp → VK → Prop := fun xs H Q => ∃ p ys, xs = [.ref p] ∧ ((SqL K H p ys ∧ ∀ l, H l = none → Q (.ref l) (upd H l (.tup ys))) ∨ (SqT K H p ys ∧ Q (.ref p) H))
theorem cI_tuple : CallR X (.type "tuple") (rTuple X.K) := call_tuple_of
theorem rd_tupleL {p : Addr} {ys : List V} (h : H p = some (.lst ys)) (q : ∀ l, H l = none → Q (.ref l) (upd H l (.tup ys))) : rTuple K [.ref p] H Q := ⟨p, ys, rfl, .inl ⟨SqL.of h, q⟩⟩
def rInt1 : List V → Hp → VK → Prop := fun xs H Q => (∃ i, xs = [.int i] ∧ Q (.int i) H) ∨ ∃ k, xs = [.bl k] ∧ Q (.int (if k then 1 else 0)) H
/-! attributes, methods, appends -/
def rFld (K : PySem.W.Frag) (f : Str) : V → Hp → VK → Prop := fun x H1 Q => ∃ a C dx fs v, x = .ref a ∧ H1 a = some (.ins C dx fs) ∧ Cls K C ∧ NoAttr K C f ∧ fs.lookup f = some v ∧ Q v H1
theorem rd_fld {ta : TE} {f : Str} (h : ta σ H fun x H1 => rFld K f x H1 Q) : tFld K ta f σ H Q := h
theorem rd_fldv {f : Str} {a C dx : Addr} {fs : List (Str × V)} {v : V} (h : H a = some (.ins C dx fs)) (c : Cls K C) (n : NoAttr K C f) (l : fs.lookup f = some v) (q : Q v H) : rFld K f (.ref a) H Q := ⟨a, C, dx, fs, v, rfl, h, c, n, l, q⟩
def rMeth (C : Addr) (m : Str) : V → Hp → Prop → Prop := fun x H1 q => ∃ a dx fs, x = .ref a ∧ H1 a = some (.ins C dx fs) ∧ fs.lookup m = none ∧ q
theorem rd_meth {C : Addr} {m : Str} {sp : Sp} {dvs : List V} {E : XK} {ta : TE} {t : TA} (h : ta σ H fun x H1 => rMeth C m x H1 (t σ H1 fun vs H2 => sp (x :: (vs ++ dvs)) H2 Q E)) : tMeth C m sp dvs E ta t σ H Q := h
theorem rd_methv {C a dx : Addr} {m : Str} {fs : List (Str × V)} {q : Prop} (h : H a = some (.ins C dx fs)) (l : fs.lookup m = none) (hq : q) : rMeth C m (.ref a) H q := ⟨a, dx, fs, rfl, h, l, hq⟩
theorem rd_make {C : Addr} {sp : Sp} {dvs : List V} {E : XK} {t : TA} (h : t σ H fun vs H1 => ∀ x dx, H1 x = none → H1 dx = none → dx ≠ x →
  sp (.ref x :: (vs ++ dvs)) (upd (upd H1 dx (.own x)) x (.ins C dx [])) (fun v H2 => v = .non ∧ Q (.ref x) H2) E) : tMake C sp dvs E t σ H Q := h
def rBM (K : PySem.W.Frag) (T : String) : V → Hp → Prop → Prop := fun x H1 q => tyV K T x H1 ∧ q
theorem rd_bm {T : String} {r : V → List V → Hp → VK → Prop} {to : TE} {t : TA} (h : to σ H fun x H1 => rBM K T x H1 (t σ H1 fun xs H2 => r x xs H2 Q)) : tBM K T r to t σ H Q := h
theorem rd_bmL {l : Addr} {xs : List V} {q : Prop} (h : H l = some (.lst xs)) (hq : q) : rBM K "list" (.ref l) H q := ⟨.inl ⟨rfl, _, SqL.of h⟩, hq⟩
theorem rd_append {l : Addr} {xs : List V} {y : V} (h : H l = some (.lst xs)) (z : xs.length < sizeLine) (q : Q .non (upd H l (.lst (xs ++ [y])))) : rAppend (.ref l) [y] H Q := ⟨l, xs, y, rfl, rfl, h, z, q⟩
theorem rd_sl {r : V → Option Int → Option Int → Hp → VK → Prop} {te : TE} {tl th : TO} (h : te σ H fun x H1 => tl σ H1 fun l H2 => th σ H2 fun u H3 => r x l u H3 Q) : tSl r te tl th σ H Q := h
theorem rd_nopart {Q : Option Int → Hp → Prop} (h : Q none H) : tNoPart σ H Q := h
theorem rd_part {t : TE} {Q : Option Int → Hp → Prop} (h : t σ H fun x H1 => ∃ i, x = .int i ∧ Q (some i) H1) : tPart t σ H Q := h
theorem rd_slL {a : Addr} {xs : List V} {lo hi : Option Int} (h : H a = some (.lst xs)) (q : ∀ p, H p = none → Q (.ref p) (upd H p (.lst (cutV xs lo hi)))) : rSlL K (.ref a) lo hi H Q := ⟨a, xs, rfl, SqL.of h, q⟩
def ForW (J : It) (g : TG) (tb : TS) (D : Ends) (σ : St) (H1 : Hp) : Prop := ∃ W : Nat → Nat → St → Hp → Prop, (∃ m, W 0 m σ H1) ∧ ∀ i m σ H, W i m σ H →
  (J.stop i H ∧ D.nx σ H) ∨ (J.go i H ∧ ∃ N : St → Hp → Prop, (∀ σ' H', N σ' H' → ∃ m', m' < m ∧ W (i + 1) m' σ' H') ∧ ∀ x H', J.yld i H x H' → g x σ H' fun σ2 H2 => tb { D with nx := N, ct := N, bk := D.nx } σ2 H2)
theorem rd_for {wi : TI} {g : TG} {tb : TS} {D : Ends} (h : wi σ H fun J H1 => ForW J g tb D σ H1) : tFor wi g tb D σ H := h
theorem forW_list {a : Addr} {xs : List V} {g : TG} {tb : TS} {D : Ends} (Pv : Nat → St → Hp → Prop) (h0 : Pv 0 σ H) (hl : ∀ i σ H, i ≤ xs.length → Pv i σ H → SqL K H a xs)
    (hs : ∀ i x σ H, xs[i]? = some x → Pv i σ H → g x σ H fun σ2 H2 => tb { D with nx := Pv (i + 1), ct := Pv (i + 1), bk := D.nx } σ2 H2) (hd : ∀ σ H, Pv xs.length σ H → D.nx σ H) : ForW (Itl K a) g tb D σ H := for_list Pv h0 hl hs hd
theorem forW_range {lo : Int} {n : Nat} {g : TG} {tb : TS} {D : Ends} (Pv : Nat → St → Hp → Prop) (h0 : Pv 0 σ H)
    (hs : ∀ i σ H, i < n → Pv i σ H → g (.int (lo + i)) σ H fun σ2 H2 => tb { D with nx := Pv (i + 1), ct := Pv (i + 1), bk := D.nx } σ2 H2) (hd : ∀ σ H, Pv n σ H → D.nx σ H) : ForW (Itr lo n) g tb D σ H := for_range Pv h0 hs hd
theorem rd_rng1 {ta : TA} {R : It → Hp → Prop} (h : ta σ H fun vs H1 => ∃ j : Int, vs = [.int j] ∧ -(2 ^ 62) ≤ j ∧ j < 2 ^ 62 ∧ R (Itr 0 j.toNat) H1) : iRng1 ta σ H R := h
theorem rd_ilist {tl : TE} {R : It → Hp → Prop} (h : tl σ H fun x H1 => ∃ a, x = .ref a ∧ (∃ xs, SqL K H1 a xs) ∧ R (Itl K a) H1) : iList K tl σ H R := h
end
/-- an item of a list of ints, by its place -/
theorem atI_ints {zs : List Int} {i : Int} (h0 : 0 ≤ i) (h1 : i < zs.length) : atI (zs.map V.int) i = some (.int (zs.getD i.toNat 0)) := by
  obtain ⟨k, rfl⟩ : ∃ k : Nat, i = (k : Int) := ⟨i.toNat, by omega⟩
  refine atI_nat ?_
  have hk : k < zs.length := by omega
  simp [hk]
/-- a fresh object keeps all that was -/
theorem Same.new {H : Hp} {p : Addr} {o : HO} (h : H p = none) : Same H (upd H p o) := fun b u e => by rw [upd_ne (ne_of_none e h)]; exact e
/-- a store into what is younger than H0 -/
theorem Same.later {H0 H : Hp} {p : Addr} {o : HO} (s : Same H0 H) (h : H0 p = none) : Same H0 (upd H p o) := fun b u e => by rw [upd_ne (ne_of_none e h)]; exact s b u e
end L2

set_option Elab.async false
set_option maxRecDepth 100000
namespace L2
open PySem PySem.Spec PyProof.Rows
theorem iteNN {b : Bool} {A B : Prop} (h : if b = true then B else A) : if (!b) = true then A else B := by cases b <;> exact h
section
variable {prog : Program} {w : World} {A : Around} {E : Value → Shared → Prop} {s : Shared}
end
/-- t[lo:hi], all of it or a part -/
def rSlT' (K : PySem.W.Frag) : V → Option Int → Option Int → Hp → VK → Prop := fun x lo hi H Q => ∃ a xs, x = .ref a ∧ H a = some (.tup xs) ∧ ∀ H1 p, Same H H1 → H1 p = some (.tup (cutV xs lo hi)) → Q (.ref p) H1
def CompW (J : It) (g : TG) (tt : TT) (te : TE) (cap : List (Option Nat)) (l : Addr) (σ : St) (H1 : Hp) (Q : VK) : Prop :=
  ∃ (n : Nat) (Pv : Nat → List V → St → Hp → Prop), Pv 0 [] (capS cap σ) (upd H1 l (.lst [])) ∧
    (∀ i ys σ' H', i < n → Pv i ys σ' H' → J.go i H' ∧ ∀ x H2, J.yld i H' x H2 → g x σ' H2 fun σ3 H3 => tt σ3 H3 fun b H4 =>
      if b = true then te σ3 H4 fun y H5 => H5 l = some (.lst ys) ∧ ys.length < sizeLine ∧ Pv (i + 1) (ys ++ [y]) σ3 (upd H5 l (.lst (ys ++ [y]))) else Pv (i + 1) ys σ3 H4) ∧
    ∀ ys σ' H', Pv n ys σ' H' → J.stop n H' ∧ Q (.ref l) H'
section
variable {K : PySem.W.Frag} {σ : St} {H : Hp} {Q : VK} {te : TE} {cap : List (Option Nat)} {l : Addr}
theorem rd_comp {wi : TI} {g : TG} {tt : TT} (h : wi σ H fun J H1 => ∀ l, H1 l = none → CompW J g tt te cap l σ H1 Q) : tComp wi g tt te cap σ H Q := h
theorem take_succ_map {α β : Type} (F : α → β) (xs : List α) (i : Nat) {x : α} (h : xs[i]? = some x) : (xs.take (i + 1)).map F = (xs.take i).map F ++ [F x] := by
  rw [List.take_add_one, h, List.map_append]
  rfl
/-- over a list, each item's value F x, the heap may grow -/
theorem compW_list {a : Addr} {xs : List V} (F : V → V) (hs : SqL K H a xs) (hz : xs.length ≤ 1000) (hl : H l = none)
    (step : ∀ x o H' (Q' : VK), x ∈ xs → Same H H' → (∀ H5, Same H' H5 → Q' (F x) H5) → te (((capS (none :: cap) σ).set 0 o).set 0 (some x)) H' Q')
    (fin : ∀ H', Same H H' → H' l = some (.lst (xs.map F)) → Q (.ref l) H') : CompW (Itl K a) (gName 0) tTrue te (none :: cap) l σ H Q := by
  refine ⟨xs.length, fun i ys σ' H' => ys = (xs.take i).map F ∧ (∃ o, σ' = (capS (none :: cap) σ).set 0 o) ∧ Same H H' ∧ H' l = some (.lst ys), ⟨rfl, ⟨none, rfl⟩, Same.new hl, upd_same⟩, ?_, ?_⟩
  · rintro i ys σ' H' hi ⟨rfl, ⟨o, rfl⟩, s, e⟩
    refine ⟨⟨xs, xs[i], s.seq hs, by simp [hi]⟩, fun x H2 y => ?_⟩
    obtain ⟨e2, y⟩ := y
    subst e2
    have hx := y xs (s.seq hs)
    refine rd_name (rd_true (iteT ?_))
    refine step x o H2 _ (List.mem_of_getElem? hx) s fun H5 s5 => ⟨s5 _ _ e, ?_, ?_⟩
    · rw [List.length_map, List.length_take]
      exact small1000 (by omega)
    · exact ⟨(take_succ_map F xs i hx).symm, ⟨_, List.set_set ..⟩, (s.trans s5).later hl, upd_same⟩
  · rintro ys σ' H' ⟨rfl, _, s, e⟩
    rw [List.take_of_length_le (Nat.le_refl _)] at e
    exact ⟨⟨xs, s.seq hs, Nat.le_refl _⟩, fin H' s e⟩
/-- over a range from nought -/
theorem compW_range {n : Nat} (F : Nat → V) (hz : n ≤ 1000) (hl : H l = none)
    (step : ∀ i o H' (Q' : VK), i < n → Same H H' → (∀ H5, Same H' H5 → Q' (F i) H5) → te (((capS (none :: cap) σ).set 0 o).set 0 (some (.int ((0 : Int) + (i : Nat))))) H' Q')
    (fin : ∀ H', Same H H' → H' l = some (.lst ((List.range n).map F)) → Q (.ref l) H') : CompW (Itr 0 n) (gName 0) tTrue te (none :: cap) l σ H Q := by
  refine ⟨n, fun i ys σ' H' => ys = (List.range i).map F ∧ (∃ o, σ' = (capS (none :: cap) σ).set 0 o) ∧ Same H H' ∧ H' l = some (.lst ys), ⟨rfl, ⟨none, rfl⟩, Same.new hl, upd_same⟩, ?_, ?_⟩
  · rintro i ys σ' H' hi ⟨rfl, ⟨o, rfl⟩, s, e⟩
    refine ⟨hi, fun x H2 y => ?_⟩
    obtain ⟨e2, rfl⟩ := y
    subst e2
    refine rd_name (rd_true (iteT ?_))
    refine step i o H2 _ hi s fun H5 s5 => ⟨s5 _ _ e, ?_, ?_⟩
    · rw [List.length_map, List.length_range]
      exact small1000 (by omega)
    · refine ⟨?_, ⟨_, List.set_set ..⟩, (s.trans s5).later hl, upd_same⟩
      rw [List.range_succ, List.map_append]
      rfl
  · rintro ys σ' H' ⟨rfl, _, s, e⟩
    exact ⟨Nat.le_refl _, fin H' s e⟩
def rSFld (K : PySem.W.Frag) (f : Str) (y x : V) (H2 : Hp) (k : Hp → Prop) : Prop := ∃ a C dx fs, x = .ref a ∧ H2 a = some (.ins C dx fs) ∧ Cls K C ∧ NoAttr K C f ∧ fs.length < 1000 ∧ k (upd H2 a (.ins C dx (putF f y fs)))
theorem rd_sfld {D : Ends} {ta tv : TE} {f : Str} (h : tv σ H fun y H1 => ta σ H1 fun x H2 => rSFld K f y x H2 fun H3 => D.nx σ H3) : sFld K ta tv f D σ H := h
theorem rd_sfldv {f : Str} {y : V} {k : Hp → Prop} {a C dx : Addr} {fs : List (Str × V)} (h : H a = some (.ins C dx fs)) (c : Cls K C) (n : NoAttr K C f) (z : fs.length < 1000) (q : k (upd H a (.ins C dx (putF f y fs)))) : rSFld K f y (.ref a) H k := ⟨a, C, dx, fs, rfl, h, c, n, z, q⟩
def WhileW (c : TT) (tb : TS) (D : Ends) (σ : St) (H : Hp) : Prop := ∃ W : Nat → St → Hp → Prop, (∃ m, W m σ H) ∧ ∀ m σ H, W m σ H →
  c σ H fun b H1 => if b = true then ∃ N : St → Hp → Prop, (∀ σ' H', N σ' H' → ∃ m', m' < m ∧ W m' σ' H') ∧ tb { D with nx := N, ct := N, bk := D.nx } σ H1 else D.nx σ H1
theorem rd_while {D : Ends} {c : TT} {tb : TS} (h : WhileW c tb D σ H) : tWhile c tb D σ H := h
theorem rd_aug {D : Ends} {i : Nat} {te : TE} {ti : TIp} {x : V} (e : σ[i]? = some (some x)) (h : te σ H fun y H1 => ti x y H1 fun z H2 => D.nx (σ.set i (some z)) H2) : tAug i te ti D σ H := ⟨x, e, h⟩
theorem rd_ipI {f : Int → Int → Int} {i j : Int} (h : Q (.int (f i j)) H) : ipI f (.int i) (.int j) H Q := ⟨i, j, rfl, rfl, h⟩
theorem rd_gtup {n : Nat} {tt : TGs} {a : Addr} {xs : List V} {QS : St → Hp → Prop} (h : H a = some (.tup xs)) (hl : xs.length = n) (q : tt xs σ H QS) : gTup K n tt (.ref a) σ H QS := ⟨a, xs, rfl, SqT.of h, hl, q⟩
theorem rd_gcons {tg : TG} {u : TGs} {v : V} {r : List V} {QS : St → Hp → Prop} (h : tg v σ H fun σ' H' => u r σ' H' QS) : gCons tg u (v :: r) σ H QS := ⟨v, r, rfl, h⟩
theorem rd_gnil {QS : St → Hp → Prop} (h : QS σ H) : gNil [] σ H QS := ⟨rfl, h⟩
end
section
variable {X : Cx} (K : PySem.W.Frag) (h : X.K = K)
include h
theorem ix_listK : IxR X (rIxL K) := h ▸ ix_list
theorem ix_tupK : IxR X (rIxT K) := h ▸ ix_tup
theorem cI_isinstK : CallR X (.builtin "isinstance") (rIsi K) := h ▸ cI_isinst
theorem cI_lenK : CallR X (.builtin "len") (rLen K) := h ▸ cI_len
theorem cI_allK (hc : X.calm = true) : CallR X (.builtin "all") (rAll K) := h ▸ cI_all hc
theorem cI_listK : CallR X (.type "list") (rList K) := h ▸ cI_list
theorem cI_tupleK : CallR X (.type "tuple") (rTuple K) := h ▸ cI_tuple
theorem sl_listK : SlR X (rSlL K) := h ▸ sl_list
theorem pe_fldK {e : Expr} {ta : TE} {f : Str} {pos : Pos} (he : PE X e ta) (hb : attributeBase e f X.env (eval e X.env) = eval e X.env) : PE X (.Attribute e f pos) (tFld K ta f) := h ▸ pe_fld he hb
end
theorem cutV_drop {zs : List Int} {k : Nat} : cutV (zs.map V.int) (some (k : Int)) none = (zs.drop k).map V.int := by
  unfold cutV
  rw [HT.sIx_none, HT.sIx_nat, List.length_map]
  rcases Nat.le_total k zs.length with h | h
  · rw [Nat.min_eq_left h, ← List.map_drop, List.take_of_length_le (by rw [List.length_map, List.length_drop]; omega)]
  · rw [Nat.min_eq_right h, List.drop_eq_nil_of_le h, Nat.sub_self, List.take_zero]; rfl
theorem getD_mem {α : Type} {zs : List α} {k : Nat} {d : α} (h : k < zs.length) : zs.getD k d ∈ zs := by
  rw [List.getD_eq_getElem?_getD, List.getElem?_eq_getElem h]
  exact List.getElem_mem h
end L2

set_option Elab.async false
set_option maxRecDepth 100000
namespace L2
open PySem PySem.Spec PyProof.Rows
theorem pg_tupK {X : Cx} (K : PySem.W.Frag) (hK : X.K = K) {es : List Expr} {k : Nat} {t : TGs} {n : Nat} {pos : Pos} (hc : X.calm = true) (h : PGs X es t)
    (hn : (assignEach es X.env).length = n := by rfl) (hst : (assignEach es X.env).findIdx? (·.1) = none := by rfl) : PG X (.Tuple es k pos) (gTup K n t) := hK ▸ pg_tup hc h hn hst
end L2

set_option Elab.async false
set_option maxRecDepth 100000
namespace L2
open PySem PySem.Spec PyProof.Rows
/-- an exception that flies: its records are no object of g (the heap at the entry), none of them is tracked -/
structure Exc (g h : Heap) (H : Hp) (e C : Addr) : Prop where
  tr : h.Traced g e (.ref C)
  ne : g.get? e = none
  he : H e = none
  hT : ∀ oe vs T, h.get? e = some oe → oe.data = .fields vs → vs[1]? = some (.ref T) → H T = none
def CX1 (P : Program) (w : World) : CXT := fun outer H s E x s' => ∃ (e C : Addr) (H' : Hp), x = .ref e ∧ s'.os = s.os ∧ AllBare s'.gens ∧ Un (frs outer) [] H H' s.heap s'.heap ∧ HOk P w H' s'.heap ∧ Exc s.heap s'.heap H' e C ∧ E (.ref C) none H'
section
variable {X : Cx} {pins : List (Addr × Obj)} {σ : St} {H : Hp} {s : Shared}
/-- what a step that notes a frame leaves: all but the frames and the records at es -/
theorem Inv.left {h' : Heap} {es : List Addr} (I : Inv X pins σ H s) (hs : X.stack = X.env :: X.outer) (he : ∀ b ∈ es, H b = none ∧ X.s₀.heap.get? b = none)
    (keep : ∀ b o, s.heap.get? b = some o → b ∉ frs X.stack → b ∉ es → h'.get? b = some o) (slot : ∀ b o, s.heap.get? b = some o → b ∈ frs X.stack → ∃ sl, h'.get? b = some { o with slots := sl }) : Un X.fs X.ex X.H₀ H X.s₀.heap h' ∧ HOk X.prog X.w H h' := by
  have sub : ∀ b ∈ X.fs, b ∈ frs X.stack := fun b hb => by
    rw [hs]; unfold frs; rw [List.filterMap_cons]
    cases X.env.frame with
    | none => exact hb
    | some f => exact List.mem_cons_of_mem _ hb
  have nfr : ∀ b u, H b = some u → b ∉ frs X.stack := fun b u e z => by rw [I.stkFree b z] at e; cases e
  have nes : ∀ b u, H b = some u → b ∉ es := fun b u e z => by rw [(he b z).1] at e; cases e
  have neL : ∀ b o, X.s₀.heap.get? b = some o → b ∉ X.fs → b ∉ frs X.stack := fun b o e hb z => by
    rcases List.mem_cons.mp (I.stkSub b z) with q | q
    · exact absurd (Nat.lt_of_lt_of_le (Heap.lt_size e) (q ▸ I.ok.above)) (Nat.lt_irrefl _)
    · exact hb q
  have ne0 : ∀ b o, X.s₀.heap.get? b = some o → b ∉ es := fun b o e z => by rw [(he b z).2] at e; cases e
  refine ⟨⟨fun b o e n hb hx => keep b o (I.base.keep b o e n hb hx) (neL b o e hb) (ne0 b o e), fun b o e n hb hx => ?_, I.base.free, fun b o e hx => ?_, I.base.tups, I.base.frzs, I.base.tbls⟩, fun b u e => ?_⟩
  · obtain ⟨sl, e1⟩ := I.base.slot b o e n hb hx
    obtain ⟨sl', e2⟩ := slot b _ e1 (sub b hb)
    exact ⟨sl', e2⟩
  · obtain ⟨o', e1⟩ := I.base.there b o e hx
    by_cases hf : b ∈ frs X.stack
    · obtain ⟨sl, e2⟩ := slot b o' e1 hf
      exact ⟨_, e2⟩
    · exact ⟨o', keep b o' e1 hf (ne0 b o e)⟩
  · refine (I.hok b u e).stay (fun c v hc q => ?_) (fun _ q => q) fun _ _ q => q
    rcases hc with z | z
    · rw [z] at q ⊢; exact keep b v q (nfr b u e) (nes b u e)
    · exact keep c v q (nfr c _ z) (nes c _ z)
end
theorem ObjOk.get {P : Program} {w : World} {H : Hp} {h : Heap} {a : Addr} {o : HO} (x : ObjOk P w H h a o) : ∃ ob, h.get? a = some ob := by
  cases o with
  | lst xs => obtain ⟨_, _, _, _, e⟩ := x; exact ⟨_, e⟩
  | tup xs => obtain ⟨_, _, _, p⟩ := x; obtain ⟨o, e, _⟩ := p; exact ⟨_, e⟩
  | dK kvs => obtain ⟨_, _, _, _, o, _, _, e, _⟩ := x; exact ⟨_, e⟩
  | dT kvs => obtain ⟨_, _, _, _, o, _, _, e, _⟩ := x; exact ⟨_, e⟩
  | set S n => obtain ⟨o, _, _, _, e, _⟩ := x; exact ⟨_, e⟩
  | ins C dx fs => obtain ⟨_, _, _, e, _⟩ := x; exact ⟨_, e⟩
  | own y => obtain ⟨_, e⟩ := x; exact ⟨_, e⟩
  | xd fs => obtain ⟨_, ⟨_, _, _, e, _⟩, _⟩ := x; exact ⟨_, e⟩
  | rng lo hi => obtain ⟨_, _, _, e⟩ := x; exact ⟨_, e⟩
  | frz ob u => obtain ⟨e, _⟩ := x; exact ⟨_, e⟩
  | tbl ps => exact ⟨_, (show h.get? a = some _ from x)⟩
  | met f y => exact ⟨_, (show h.get? a = some _ from x)⟩
  | ext φ => obtain ⟨_, ⟨_, e⟩, _⟩ := x; exact ⟨_, e⟩
theorem HOk.none_of {P : Program} {w : World} {H : Hp} {h : Heap} {a : Addr} (k : HOk P w H h) (e : h.get? a = none) : H a = none := by
  cases q : H a with
  | none => rfl
  | some o => obtain ⟨_, z⟩ := (k a o q).get; rw [e] at z; cases z
section
variable {P : Program} {w : World} {K : PySem.W.Frag} {mg : Str → Option Value} {base : Heap} {N : List Str} {qual : Str} {scope : Scope} {f : Addr} {cd : Value} {A : Around} {outer : List Env} {s₀ : Shared} {H₀ : Hp} {E : XK} {pins : List (Addr × Obj)} {σ : St} {H : Hp} {s : Shared}
theorem stack_in {l : List Env} {as : List Addr} (h : ∀ b ∈ frs l, b ∈ as) : ∀ env ∈ l, ∀ a, env.frame = some a → a ∈ as := fun env he a ha => h a (List.mem_filterMap.mpr ⟨env, he, ha⟩)
/-- an exception just made leaves the body -/
theorem xe_new {h' : Heap} {t' : Nat} {e C : Addr} {vs : List Value} (I : Inv (cxOf (CX1 P w) P w K mg base N qual scope f cd A outer s₀ H₀ E) pins σ H s) (hx : Heap.MadeExcOf s.heap h' e (.ref C) vs) (q : E (.ref C) none H) :
    (cxOf (CX1 P w) P w K mg base N qual scope f cd A outer s₀ H₀ E).xe (.ref e) { s with heap := h', toks := t' } := by
  have I1 := I.kept (t' := t') hx.keeps
  obtain ⟨t, he, ht, _⟩ := hx.there
  have hs0 : s₀.heap.get? e = none := by
    cases z : s₀.heap.get? e with
    | none => rfl
    | some o => obtain ⟨o', z'⟩ := I.base.there e o z (by intro q; cases q); rw [hx.new] at z'; cases z'
  have hHe : H e = none := I.hok.none_of hx.new
  have ff := I1.stack
  have hl := PySem.W.funFrames_hide (as := e :: frs (cxOf (CX1 P w) P w K mg base N qual scope f cd A outer s₀ H₀ E).stack) ff (stack_in fun b hb => List.mem_cons_of_mem _ hb)
  refine wpAny_leaving_first (base := PySem.W.hideAll h' (e :: frs (cxOf (CX1 P w) P w K mg base N qual scope f cd A outer s₀ H₀ E).stack)) (L := s₀.heap.objs.size) (e := e) (s := { s with heap := h', toks := t' }) I.ok.frames hl rfl he (fun b o z => ?_) (PySem.W.hideAll_none _ List.mem_cons_self) rfl rfl fun h2 lf => ?_
  · exact PySem.W.of_hideAll _ z
  · obtain ⟨st, ff2, tr, up⟩ := lf
    have lf := I1.left (h' := h2) (es := [e]) rfl (fun b hb => by rw [List.mem_singleton.mp hb]; exact ⟨hHe, hs0⟩) (fun b o z nf ne => st b o (PySem.W.hideAll_get _ z (by intro m; rcases List.mem_cons.mp m with r | r; exact ne (by simp [r]); exact nf r)))
      (fun b o z hb => by
        obtain ⟨_, o', z', hd⟩ := ff.mem hb
        rw [z] at z'; cases z'
        exact up b o z hd)
    obtain ⟨oe, ws, T, oT, ts, g1, g2, g3, g4, g5, g6, g7, g8, g9⟩ := tr
    have nT : T ∉ frs (cxOf (CX1 P w) P w K mg base N qual scope f cd A outer s₀ H₀ E).stack := fun z => by
      obtain ⟨_, o, zo, hd⟩ := ff2.mem z
      rw [g7] at zo; cases zo
      exact hd ts g8
    have key : ∀ o, h'.get? T = some o → False := fun o z => by
      rw [PySem.W.hideAll_get _ z (by intro m; rcases List.mem_cons.mp m with r | r; exact g6 r; exact nT r)] at g5
      cases g5
    have hT0 : s₀.heap.get? T = none := by
      cases z : s₀.heap.get? T with
      | none => rfl
      | some o => obtain ⟨o', z'⟩ := I1.base.there T o z (by intro q; cases q); exact (key o' z').elim
    have hHT : H T = none := by
      cases z : H T with
      | none => rfl
      | some o => obtain ⟨o', z'⟩ := (I1.hok T o z).get; exact (key o' z').elim
    refine ⟨e, C, H, rfl, I.os, I.bare, lf.1, lf.2, ⟨⟨oe, ws, T, oT, ts, g1, g2, g3, g4, hT0, g6, g7, g8, g9⟩, hs0, hHe, fun oe' vs' T' z1 z2 z3 => ?_⟩, q⟩
    rw [g1] at z1; cases z1
    rw [g3] at z2; cases z2
    rw [g4] at z3; cases z3
    exact hHT
/-- a callee's exception leaves the body too -/
theorem pass1 : Passes (CX1 P w) (cxOf (CX1 P w) P w K mg base N qual scope f cd A outer s₀ H₀ E) E := by
  intro pins σ H s x s' I h
  obtain ⟨e, C, H', rfl, os, bare, un, hok, ex, q⟩ := h
  have J := I.call' (s' := s') (ch := []) os un hok bare (fun b hb => by cases hb)
  obtain ⟨⟨oe, ws, T, oT, ts, g1, g2, g3, g4, g5, g6, g7, g8, g9⟩, ne, hHe, hHT⟩ := ex
  have hHT := hHT oe ws T g1 g3 g4
  have s0 : ∀ {b : Addr}, s.heap.get? b = none → s₀.heap.get? b = none := fun {b} hb => by
    cases z : s₀.heap.get? b with
    | none => rfl
    | some o => obtain ⟨o', z'⟩ := I.base.there b o z (by intro q; cases q); rw [hb] at z'; cases z'
  have ff := J.stack
  have hl := PySem.W.funFrames_hide (as := e :: T :: frs (cxOf (CX1 P w) P w K mg base N qual scope f cd A outer s₀ H₀ E).stack) ff (stack_in fun b hb => List.mem_cons_of_mem _ (List.mem_cons_of_mem _ hb))
  refine wpAny_leaving_next (base := PySem.W.hideAll s'.heap (e :: T :: frs (cxOf (CX1 P w) P w K mg base N qual scope f cd A outer s₀ H₀ E).stack)) (L := s₀.heap.objs.size) (e := e) (s := s') J.ok.frames hl rfl
    ⟨oe, ws, T, oT, ts, g1, g2, g3, g4, PySem.W.hideAll_none _ (List.mem_cons_of_mem _ List.mem_cons_self), g6, g7, g8, g9⟩ (fun b o z => PySem.W.of_hideAll _ z) (PySem.W.hideAll_none _ List.mem_cons_self) fun h2 lf => ?_
  obtain ⟨st, ff2, tr, up⟩ := lf
  have lf := J.left (h' := h2) (es := [e, T]) rfl (fun b hb => by
      simp only [List.mem_cons, List.not_mem_nil, or_false] at hb
      rcases hb with rfl | rfl
      · exact ⟨hHe, s0 ne⟩
      · exact ⟨hHT, s0 g5⟩) (fun b o z nf ne => st b o (PySem.W.hideAll_get _ z (by
        intro m
        rcases List.mem_cons.mp m with r | m
        · exact ne (by simp [r])
        · rcases List.mem_cons.mp m with r | r
          · exact ne (by simp [r])
          · exact nf r)))
      (fun b o z hb => by
        obtain ⟨_, o', z', hd⟩ := ff.mem hb
        rw [z] at z'; cases z'
        exact up b o z hd)
  obtain ⟨oe2, ws2, T2, oT2, ts2, k1, k2, k3, k4, k5, k6, k7, k8, k9⟩ := tr
  have nT : T2 ∉ frs (cxOf (CX1 P w) P w K mg base N qual scope f cd A outer s₀ H₀ E).stack := fun z => by
    obtain ⟨_, o, zo, hd⟩ := ff2.mem z
    rw [k7] at zo; cases zo
    exact hd ts2 k8
  have hT0 : s₀.heap.get? T2 = none ∧ H' T2 = none := by
    by_cases r : T2 = T
    · subst r; exact ⟨s0 g5, hHT⟩
    · have key : ∀ o, s'.heap.get? T2 = some o → False := fun o z => by
        rw [PySem.W.hideAll_get _ z (by
          intro m
          rcases List.mem_cons.mp m with q | m
          · exact k6 q
          · rcases List.mem_cons.mp m with q | q
            · exact r q
            · exact nT q)] at k5
        cases k5
      constructor
      · cases z : s₀.heap.get? T2 with
        | none => rfl
        | some o => obtain ⟨o', z'⟩ := J.base.there T2 o z (by intro q; cases q); exact (key o' z').elim
      · cases z : H' T2 with
        | none => rfl
        | some o => obtain ⟨o', z'⟩ := (J.hok T2 o z).get; exact (key o' z').elim
  refine ⟨e, C, H', rfl, J.os, J.bare, lf.1, lf.2, ⟨⟨oe2, ws2, T2, oT2, ts2, k1, k2, k3, k4, hT0.1, k6, k7, k8, k9⟩, s0 ne, hHe, fun oe' vs' T' z1 z2 z3 => ?_⟩, q⟩
  rw [k1] at z1; cases z1
  rw [k3] at z2; cases z2
  rw [k4] at z3; cases z3
  exact hT0.2
end
end L2

set_option Elab.async false
set_option maxRecDepth 100000
namespace L2
open PySem PySem.Spec PyProof.Rows
def tRaise (C : Addr) (E : XK) (t : TA) : TS := fun _ σ H => t σ H fun vs H1 => vs.length ≤ sizeLine ∧ E (.ref C) none H1
/-- raise C(e, ..), C an own class without an __init__ -/
theorem ps_raise {X : Cx} {E : XK} {x : Str} {C : Addr} {B newId initId : String} {bm : List Value} {np cpos pos : Pos} {e : Expr} {es : List Expr} {t : TA} (O : OwnCls x C bm newId X.mg X.base) (FB : ExcBaseFacts B newId initId bm) (hc : X.calm = true) (hg : Gl X x)
    (hx : ∀ (pins : List (Addr × Obj)) (σ : St) (H : Hp) (s : Shared) (h' : Heap) (t' : Nat) (e : Addr) (vs : List Value), Inv X pins σ H s → Heap.MadeExcOf s.heap h' e (.ref C) vs → E (.ref C) none H → X.xe (.ref e) { s with heap := h', toks := t' })
    (ha : PA X (e :: es) t) (hd : (x == ("__debug__" : Str)) = false := by decide) (he : starEach (e :: es) X.env = (false, eval e X.env) :: starEach es X.env := by rfl) (hpl : (backTo cpos (starEach es X.env)).any (·.1) = false := by rfl) :
    PS X (.Raise (some (.Call (.Name x np) (e :: es) [] cpos)) none pos) (tRaise C E t) := by
  intro pins s σ H D I h
  obtain ⟨tl, N, nm, q, bs, hdct, sn, sub, ab, col, dd, k0, k1, k2, k3, k5, mN, hC, hN, hni, T⟩ := O.obj
  refine wpAny_Raise_call_subT (C := C) (nm := nm) (q := q) (N := N) (bs := bs) (bm := tl) (hdct := hdct) (sn := sn) (sub := sub) (ab := ab) (col := col) (dd := dd) (k0 := k0) (k1 := k1) (k2 := k2) (k3 := k3) (k5 := k5)
    FB (mN := mN) (T.hasType FB.hasBase) (I.ok.hd hc) (by rw [he]; show (false || (backTo cpos (starEach es X.env)).any (·.1)) = false; rw [hpl]; rfl) hni (ld_glob I hg O.bound ⟨rfl, ?_⟩ hd)
  have h1 := ha cpos pins s σ H _ I h
  rw [he] at h1 ⊢
  refine Calls.evalArgs_plain (wpAny_mono h1 (fun us s2 ⟨vs, H2, I2, r2, hl, hE⟩ => ⟨rfl, by show us.length ≤ sizeLine; rw [← r2.length]; exact hl, I2.bk _ _ hC, hN.keeps I2.bk, T.keeps I2.bk, fun h' a mk => ?_⟩) fun _ _ y => y)
  exact hx pins σ H2 s2 h' s2.toks a us I2 mk hE
section
variable {P : Program} {w : World} {K : PySem.W.Frag} {mg : Str → Option Value} {base : Heap}
/-- THE RULE for a def that may raise -/
theorem Fun.ok1 {x qual : Str} {st : Stmt} {f : Addr} {fd : FuncData} {N ps : List Str} {k : Nat} {sp : Sp} (F : Fun K x qual st f fd) (S : FnScope N ps (defScope st)) (len : ∀ vs H Q E, sp vs H Q E → vs.length = ps.length)
    (hbody : ∀ (cdv : Value) (A : Around) (outer : List Env) (s : Shared) (H : Hp) (vs : List V) (Q : VK) (E : XK), Room k (A.deeper (envOfC qual (defScope st) s.heap.objs.size f cdv)) → sp vs H Q E →
      ∃ t, PSs (cxOf (CX1 P w) P w K mg base N qual (defScope st) f cdv A outer s H E) (defBody st) t ∧ t { nx := fun _ H' => Q .non H', rt := Q } (start N vs) H) : FnOk P w K mg base (CX1 P w) (k + 1) f fd ps sp := by
  obtain ⟨oc, od, kV, doc, pm, an, cdv, ct, osl, rfl, lk, hcd⟩ := F.ex
  exact fn_of lk hcd S len fun A outer s H vs Q E hr hsp => hbody cdv A outer s H vs Q E hr hsp
/-- a def that does not raise, called where it may be raised -/
theorem FnOk.up {k : Nat} {f : Addr} {fd : FuncData} {ps : List Str} {sp : Sp} (F : FnOk P w K mg base CX0 k f fd ps sp) : FnOk P w K mg base (CX1 P w) k f fd ps sp :=
  ⟨F.len, fun A outer s H args us vs Q E hr e0 hb hv hs => codeAny_mono (F.run A outer s H args us vs Q E hr e0 hb hv hs) fun r s' h => by
    cases r with
    | error e => exact False.elim h
    | ok fl => cases fl <;> exact h⟩
end
end L2

set_option Elab.async false
set_option maxRecDepth 100000
namespace L2
open PySem PySem.Spec PyProof.Rows PySem.W Builtin Builtin.ObjectAttr Builtin.Getset_descriptor
section
variable {prog : Program} {w : World} {A : Around} {E : Value → Shared → Prop} {s : Shared} {K : PySem.W.Frag} {x C : Addr} {R : Result → Shared → Prop}
end
end L2

set_option Elab.async false
set_option maxRecDepth 100000
namespace L2
open PySem PySem.Spec PyProof.Rows
/-! ### an exception that is held: what is told of its class -/
/-- the facts of an own class of exceptions -/
structure ExcIn (K : PySem.W.Frag) (C : Addr) : Prop where
  ga : PySem.W.findIn K (.ref C) "__getattribute__" = some (some (.builtin "BaseException.__getattribute__"))
  gt : PySem.W.findIn K (.ref C) "__getattr__" = some none
  cl : PySem.W.findIn K (.ref C) "__class__" = some (some (.builtin "object.__class__"))
  gs : PySem.W.specialIn K (.builtin "object.__class__") "__get__" = some (some (.builtin "getset_descriptor.__get__"))
  tk : PySem.W.takesIn K (.builtin "object.__class__") = some true
  mo : PySem.W.mroIn K C (.type "object") = some true
  mb : PySem.W.mroIn K C (.type "BaseException") = some true
def ExcAt (e C : Addr) (h : Heap) : Prop := ∃ o, h.get? e = some o ∧ o.cls = .ref C
def ExcO (e C : Addr) : HO := .ext (ExcAt e C)
/-- isinstance(e, C) of a held exception -/
def rIsiX (K : PySem.W.Frag) : List V → Hp → VK → Prop := fun xs H Q => ∃ e C y c b, xs = [.ref e, y] ∧ H e = some (ExcO e C) ∧ ExcIn K C ∧ RelV y c ∧ PySem.W.kitOne K (.ref C) c = some b ∧ Q (.bl b) H
/-! ### the state while an exception is held -/
section
variable {X : Cx} {pins : List (Addr × Obj)} {σ : St} {H : Hp} {s : Shared}
end
end L2

set_option Elab.async false
set_option maxRecDepth 100000
namespace L2
open PySem PySem.Spec PyProof.Rows
/-! ### try: the body's own wish about exceptions -/
abbrev Cx.tryIn (X : Cx) (pins : List (Addr × Obj)) (E : Value → Shared → Prop) : Cx := { X with pn := X.pn ++ pins, xe := E }
section
variable {X : Cx} {pins pins' : List (Addr × Obj)} {σ : St} {H : Hp} {s : Shared} {E : Value → Shared → Prop}
end
/-- how an exception lies at the end of a try's body -/
def XT (X : Cx) (pins : List (Addr × Obj)) (ET : St → XK) : Value → Shared → Prop := fun x s' => ∃ (σ : St) (e C : Addr) (H' : Hp), x = .ref e ∧ Inv X pins σ H' s' ∧ Exc X.s₀.heap s'.heap H' e C ∧
  (∀ p ∈ X.pn ++ pins, p.1 ≠ e ∧ ∀ oe vs T, s'.heap.get? e = some oe → oe.data = .fields vs → vs[1]? = some (.ref T) → p.1 ≠ T) ∧ ET σ (.ref C) none H'
def PassesS (CX : CXT) (X : Cx) (ET : St → XK) : Prop := ∀ (pins : List (Addr × Obj)) (σ : St) (H : Hp) (s : Shared) (e : Value) (s' : Shared), Inv X pins σ H s → CX X.stack H s (ET σ) e s' → X.xe e s'

/-! ### calls in a try's body: the exception's wish may speak of the names -/
def tCallS (sp : Sp) (dvs : List V) (ET : St → XK) (t : TA) : TE := fun σ H Q => t σ H fun vs H1 => sp (vs ++ dvs) H1 Q (ET σ)
def tMethS (C : Addr) (m : Str) (sp : Sp) (dvs : List V) (ET : St → XK) (ta : TE) (t : TA) : TE := fun σ H Q => ta σ H fun x H1 => rMeth C m x H1 (t σ H1 fun vs H2 => sp (x :: (vs ++ dvs)) H2 Q (ET σ))
def tMakeS (C : Addr) (sp : Sp) (dvs : List V) (ET : St → XK) (t : TA) : TE := fun σ H Q => t σ H fun vs H1 => ∀ x dx, H1 x = none → H1 dx = none → dx ≠ x →
  sp (.ref x :: (vs ++ dvs)) (upd (upd H1 dx (.own x)) x (.ins C dx [])) (fun v H2 => v = .non ∧ Q (.ref x) H2) (ET σ)
section
variable {X : Cx} {CX : CXT} {k : Nat} {f C : Addr} {fd : FuncData} {ps : List Str} {sp : Sp} {dvs : List V} {ds : List Value} {ET : St → XK} {x m : Str} {p pos apos : Pos} {e o : Expr} {es : List Expr} {ta : TE} {t : TA}
end
section
variable {σ : St} {H : Hp} {Q : VK}
end
/-! ### the except suite -/
abbrev Cx.suite (X : Cx) (e : Addr) : Cx := { X with A := X.A.mark (some (.ref e)), calm := false, xe := fun _ _ => False }
section
variable {X : Cx} {pins : List (Addr × Obj)} {σ : St} {H : Hp} {s : Shared} {e : Addr}
end
end L2

set_option Elab.async false
set_option maxRecDepth 100000
namespace L2
open PySem PySem.Spec PyProof.Rows
/-- behind the suite the name is gone -/
def Dh (i : Nat) (D : Ends) : Ends := { nx := fun σ H => D.nx (σ.set i none) H, rt := D.rt, bk := fun σ H => D.bk (σ.set i none) H, ct := fun σ H => D.ct (σ.set i none) H }
def ETof (K : PySem.W.Frag) (S : Addr) (i : Nat) (ts : TS) (D : Ends) : St → XK := fun σ cls _ H1 => ∃ C, cls = .ref C ∧ PySem.W.exmOne K (.ref C) (.ref S) = some true ∧ ∀ e, H1 e = none → ts (Dh i D) (σ.set i (some (.ref e))) (upd H1 e (ExcO e C))
def tTry (K : PySem.W.Frag) (S : Addr) (i : Nat) (tb : (St → XK) → TS) (ts : TS) : TS := fun D σ H => tb (ETof K S i ts D) D σ H
end L2

set_option Elab.async false
set_option maxRecDepth 100000
namespace L2
open PySem PySem.Spec PyProof.Rows
/-! ### a def that is called within an except suite: it needs no word of what is handled -/
structure RoomQ (k : Nat) (A : Around) : Prop where
  dp : A.depth + 3 * k + 5 < recursionLimit
  un : A.units + 16 * k + 200 < cLine
structure FnOkQ (P : Program) (w : World) (K : PySem.W.Frag) (mg : Str → Option Value) (base : Heap) (k : Nat) (f : Addr) (fd : FuncData) (ps : List Str) (sp : Sp) : Prop where
  len : ∀ vs H Q E, sp vs H Q E → vs.length = ps.length
  run : ∀ (A : Around) (outer : List Env) (s : Shared) (H : Hp) (args : Args) (us : List Value) (vs : List V) (Q : VK) (E : XK), RoomQ k A → Env0 P w K mg base A outer s H → BindsTo s fd args (ps.zip us) → Vals vs us → sp vs H Q E →
    codeAny (model P w) A (.call (.ref f) args) (CR CX0 outer P w H s Q E) s
abbrev Cx.quiet (X : Cx) : Cx := { X with calm := false }
section
variable {P : Program} {w : World} {K : PySem.W.Frag} {mg : Str → Option Value} {base : Heap}
end
section
variable {X : Cx} {k : Nat} {f C : Addr} {fd : FuncData} {ps : List Str} {sp : Sp} {dvs : List V} {ds : List Value} {x m : Str} {p pos apos : Pos} {e o : Expr} {es : List Expr} {ta : TE} {t : TA}
end
end L2

set_option Elab.async false
set_option maxRecDepth 100000
namespace L2
open PySem PySem.Spec PyProof.Rows
theorem own_of {K : PySem.W.Frag} {h : Heap} {mg : Str → Option Value} {x : Str} {C : Addr} {bmB : List Value} {newId : String} (X : K.In h) (hm : mg x = some (.ref C)) (q : PySem.W.excIn K C bmB newId = true) : OwnCls x C bmB newId mg h := by
  refine ⟨hm, ?_⟩
  simp only [PySem.W.excIn] at q
  split at q
  case h_2 => cases q
  case h_1 dd cd sl ho =>
    split at q
    case h_2 => cases q
    case h_1 C' bm k0 k1 k2 k3 n k5 hmr hsl =>
      simp only [Bool.and_eq_true, beq_iff_eq, Bool.not_eq_true'] at q
      obtain ⟨⟨⟨⟨⟨e1, e2⟩, hdel⟩, ht⟩, hok⟩, hni⟩ := q
      subst e1 e2
      have hh := X _ _ ho
      obtain ⟨nm, bs, mro, ns, qn, hd, sn, sub, ab, col, del⟩ := cd
      simp only at hmr hdel hok hni
      subst hmr hdel
      obtain ⟨l⟩ := sl
      simp only at hsl
      subst hsl
      exact ⟨bm, ns, nm, qn, bs, hd, sn, sub, ab, col, dd, k0, k1, k2, k3, k5, _, hh, .of_isNs (PySem.W.isNs_of_in X hok), PySem.W.nsMap_none_of_in X hok hni, PySem.W.tail_of_in X ht⟩
theorem ps_raiseK {X : Cx} {E : XK} {x : Str} {C : Addr} {B newId initId : String} {bm : List Value} {np cpos pos : Pos} {e : Expr} {es : List Expr} {t : TA} (hm : X.mg x = some (.ref C)) (q : PySem.W.excIn X.K C bm newId = true) (FB : ExcBaseFacts B newId initId bm) (hc : X.calm = true) (hg : Gl X x)
    (hx : ∀ (pins : List (Addr × Obj)) (σ : St) (H : Hp) (s : Shared) (h' : Heap) (t' : Nat) (e : Addr) (vs : List Value), Inv X pins σ H s → Heap.MadeExcOf s.heap h' e (.ref C) vs → E (.ref C) none H → X.xe (.ref e) { s with heap := h', toks := t' })
    (ha : PA X (e :: es) t) (hd : (x == ("__debug__" : Str)) = false := by decide) (he : starEach (e :: es) X.env = (false, eval e X.env) :: starEach es X.env := by rfl) (hpl : (backTo cpos (starEach es X.env)).any (·.1) = false := by rfl) :
    PS X (.Raise (some (.Call (.Name x np) (e :: es) [] cpos)) none pos) (tRaise C E t) := fun pins s σ H D I h =>
  ps_raise (own_of I.ok.mod.kin hm q) FB hc hg hx ha hd he hpl pins s σ H D I h
theorem rd_raise {C : Addr} {E : XK} {t : TA} {D : Ends} {σ : St} {H : Hp} (h : t σ H fun vs H1 => vs.length ≤ sizeLine ∧ E (.ref C) none H1) : tRaise C E t D σ H := h
section
variable {P : Program} {w : World} {K : PySem.W.Frag} {mg : Str → Option Value} {base : Heap}
/-- a def that may raise, called where it does not -/
theorem FnOk.down {k : Nat} {f : Addr} {fd : FuncData} {ps : List Str} {sp sp' : Sp} (F : FnOk P w K mg base (CX1 P w) k f fd ps sp) (h : ∀ vs H Q E, sp' vs H Q E → sp vs H Q (fun _ _ _ => False)) : FnOk P w K mg base CX0 k f fd ps sp' :=
  ⟨fun vs H Q E q => F.len vs H Q _ (h _ _ _ _ q), fun A outer s H args us vs Q E hr e0 hb hv hs => codeAny_mono (F.run A outer s H args us vs Q _ hr e0 hb hv (h _ _ _ _ hs)) fun r s' hq => by
    cases r with
    | error e => obtain ⟨_, _, _, _, _, _, _, _, _, z⟩ := hq; exact z.elim
    | ok fl => cases fl <;> exact hq⟩
end
end L2

set_option Elab.async false
set_option maxRecDepth 100000
namespace L2
open PySem PySem.Spec PyProof.Rows
/-! lists of truths -/
/-! comprehensions whose items are made as they go -/
/-- all but what stands at l stays -/
def SameBut (l : Addr) (H H' : Hp) : Prop := ∀ b o, H b = some o → b ≠ l → H' b = some o
section
variable {K : PySem.W.Frag} {σ : St} {H : Hp} {Q : VK} {te : TE} {cap : List (Option Nat)} {l : Addr}
end
/-! ### a statement with one word behind it -/
def tJoin (t : TS) : TS := fun D σ H => ∃ J : St → Hp → Prop, t { D with nx := J } σ H ∧ ∀ σ' H', J σ' H' → D.nx σ' H'
theorem ps_join {X : Cx} {st : Stmt} {t : TS} (h : PS X st t) : PS X st (tJoin t) := by
  intro pins s σ H D I ⟨J, h1, h2⟩
  refine wpAny_mono (h pins s σ H _ I h1) (fun f s' q => ?_) fun _ _ z => z
  cases f with
  | next => obtain ⟨σ', H', J', q⟩ := q; exact ⟨σ', H', J', h2 σ' H' q⟩
  | brk => exact q
  | cont => exact q
  | ret u => exact q
theorem rd_join {t : TS} {D : Ends} {σ : St} {H : Hp} (J : St → Hp → Prop) (h1 : t { D with nx := J } σ H) (h2 : ∀ σ' H', J σ' H' → D.nx σ' H') : tJoin t D σ H := ⟨J, h1, h2⟩
/-! ### tables: lists of lists of ints -/
structure TblAt (H : Hp) (l : Addr) (rows : List (List Int)) : Prop where
  ob : ∃ as : List Addr, H l = some (.lst (as.map V.ref)) ∧ as.length = rows.length ∧ ∀ (i : Nat) a r, as[i]? = some a → rows[i]? = some r → a ≠ l ∧ H a = some (.lst (r.map V.int))
/-! ### pairs of ints -/
def PairsAt (H : Hp) (xs : List V) (ps : List (Int × Int)) : Prop := ∀ (i : Nat) x, xs[i]? = some x → ∃ a p, x = .ref a ∧ ps[i]? = some p ∧ H a = some (.tup [.int p.1, .int p.2])
end L2

set_option Elab.async false
set_option maxRecDepth 100000
namespace L2
open PySem PySem.Spec PyProof.Rows
section
variable {prog : Program} {w : World} {A : Around} {E : Value → Shared → Prop} {s : Shared}
end
end L2

set_option Elab.async false
set_option maxRecDepth 100000
namespace L2
open PySem PySem.Spec PyProof.Rows
/-! ### zip of two tuples of one length, unpacked into names -/
def Itzt (K : PySem.W.Frag) (a b : Addr) : It :=
  ⟨fun i H => ∃ xs ys x y, SqT K H a xs ∧ SqT K H b ys ∧ xs[i]? = some x ∧ ys[i]? = some y,
   fun i H v H' => ∃ T, v = .ref T ∧ H T = none ∧ ∀ xs ys, SqT K H a xs → SqT K H b ys → ∃ x y, xs[i]? = some x ∧ ys[i]? = some y ∧ H' = upd H T (.tup [x, y]),
   fun i H => ∃ xs ys, SqT K H a xs ∧ SqT K H b ys ∧ xs.length ≤ i⟩
section
variable {prog : Program} {w : World} {A : Around} {E : Value → Shared → Prop} {s : Shared}
abbrev zT1 (h : Heap) (u : Addr) : Heap := h.push { cls := .type "tuple_iterator", data := .fields #[.ref u, .int 0 0] }
abbrev zT2 (h : Heap) (u v : Addr) : Heap := (zT1 h u).push { cls := .type "tuple_iterator", data := .fields #[.ref v, .int 0 0] }
abbrev zT3 (h : Heap) (u v : Addr) : Heap := (zT2 h u v).push { cls := .type "tuple", data := .seq #[.ref h.objs.size, .ref (zT1 h u).objs.size] }
abbrev zT4 (h : Heap) (u v : Addr) : Heap := (zT3 h u v).push { cls := .type "tuple", data := .seq #[.none, .none] }
abbrev zT5 (h : Heap) (u v : Addr) : Heap := (zT4 h u v).push { cls := .type "zip", data := .fields #[.none, .bool false, .bool false, .ref (zT2 h u v).objs.size, .ref (zT3 h u v).objs.size] }
end
section
variable {X : Cx} {elts : List Expr} {kt : Nat} {pt : Pos}
/-- zip(a, b) of two lists, or of two tuples -/
def iZipS (K : PySem.W.Frag) (ta : TA) : TI := fun σ H R => ta σ H fun vs H1 => ∃ a b, vs = [.ref a, .ref b] ∧ (((∃ xs, SqL K H1 a xs) ∧ (∃ ys, SqL K H1 b ys) ∧ R (Itz K a b) H1) ∨ ((∃ xs, SqT K H1 a xs) ∧ (∃ ys, SqT K H1 b ys) ∧ R (Itzt K a b) H1))
end
end L2

set_option Elab.async false
set_option maxRecDepth 100000
namespace L2
open PySem PySem.Spec PyProof.Rows
def rInsert : V → List V → Hp → VK → Prop := fun x vs H Q => ∃ l xs y, ∃ k : Nat, x = .ref l ∧ vs = [.int (k : Int), y] ∧ H l = some (.lst xs) ∧ k ≤ xs.length ∧ xs.length ≤ 1000 ∧ Q .non (upd H l (.lst (xs.take k ++ y :: xs.drop k)))
def rMax2 : List V → Hp → VK → Prop := fun xs H Q => ∃ i j, xs = [.int i, .int j] ∧ Q (.int (if j > i then j else i)) H
end L2

set_option Elab.async false
set_option linter.all false
set_option maxRecDepth 100000
namespace L2
open PySem PySem.Spec PyProof.Rows
section
variable {K : PySem.W.Frag} {σ : St} {H : Hp} {Q : VK} {te : TE} {cap : List (Option Nat)} {l : Addr}
end
end L2

set_option Elab.async false
set_option linter.all false
set_option maxRecDepth 100000
namespace L2
open PySem PySem.Spec PyProof.Rows
/-! ### enumerate of a list, unpacked into names -/
def Ite (K : PySem.W.Frag) (a : Addr) : It :=
  ⟨fun i H => ∃ xs x, SqL K H a xs ∧ xs[i]? = some x,
   fun i H v H' => ∃ T, v = .ref T ∧ H T = none ∧ ∀ xs, SqL K H a xs → ∃ x, xs[i]? = some x ∧ H' = upd H T (.tup [.int (i : Nat), x]),
   fun i H => ∃ xs, SqL K H a xs ∧ xs.length ≤ i⟩
section
variable {X : Cx} {elts : List Expr} {kt : Nat} {pt : Pos}
def iEnum (K : PySem.W.Frag) (ta : TA) : TI := fun σ H R => ta σ H fun vs H1 => ∃ a, vs = [.ref a] ∧ (∃ xs, SqL K H1 a xs) ∧ R (Ite K a) H1
end
end L2

set_option Elab.async false
set_option maxHeartbeats 4000000
set_option linter.all false
open PySem PySem.Spec PyProof.Rows
namespace L2
/-- C.m as a def of the class itself -/
structure ClsFn (K : PySem.W.Frag) (C : Addr) (m : Str) (f : Addr) : Prop where
  ga : PySem.W.specialIn K (.ref C) "__getattribute__" = some (some (.builtin "type.__getattribute__"))
  rd : PySem.W.readsIn K C (.type "type") = true
  at_ : PySem.W.findCls K (.ref C) (.type "type") m = some (.val (.ref f))
  kp : PySem.W.keepIn K (.ref f) = true
section
variable {X : Cx} {CX : CXT} {k : Nat} {f C : Addr} {fd : FuncData} {ps : List Str} {sp : Sp} {dvs : List V} {ds : List Value} {E : XK} {x m : Str} {p pos apos : Pos} {e o : Expr} {es : List Expr} {ta : TE} {t : TA}
/-- C.m(e, ..): the class's own def, called by the class -/
theorem pe_callC {pl : Sem Bool} (hg : Gl X x) (hm : X.mg x = some (.ref C)) (c : ClsFn X.K C m f) (F : FnOk X.prog X.w X.K X.mg X.base CX k f fd ps sp) (hr : Room k X.A) (hb : Binds X.K fd ps ds) (hd : Vals dvs ds) (hx : Passes CX X E) (ha : PA X (e :: es) t)
    (hdb : (x == ("__debug__" : Str)) = false := by decide)
    (hst : starEach (e :: es) X.env = (false, eval e X.env) :: starEach es X.env := by rfl) (hpl : (backTo pos (starEach es X.env)).any (·.1) = false := by rfl)
    (ht : eval (.Call (.Attribute (.Name x p) m apos) (e :: es) [] pos) X.env = (do
      let ov ← eval (.Name x p) X.env
      standAt apos.atName
      let (f, first) ← holding [ov] (getMethod ov m pl)
      callWith pos f first (backTo pos (starEach (e :: es) X.env)) (backToKw pos (keywordEach [] X.env))) := by rfl) :
    PE X (.Call (.Attribute (.Name x p) m apos) (e :: es) [] pos) (tCall sp dvs E t) := by
  intro pins s σ H Q I h
  refine PySem.W.methodCall_KW (pl := pl) (thn ((pe_glob (v := .ref C) hg hm rfl hdb) pins s σ H (fun x H1 => x = .ref C ∧ H1 = H) I ⟨rfl, rfl⟩) fun u s1 ⟨x, H1, I1, rx, ex, eh⟩ => ?_) ht
  subst ex; subst eh
  obtain rfl : u = Value.ref C := rx
  refine PySem.W.method_cls I1.kIn c.ga (PySem.W.cls_value I1.kIn c.rd c.at_ rfl ?_)
  have I2 := I1.tok (s1.toks + 1)
  refine PySem.W.callWith_K (first := []) (h₀ := X.base) I.ok.mod.kin c.kp (thn (ha pos pins _ σ H1 _ I2 h) fun us s2 ⟨vs, H2, I3, r, q2⟩ => ⟨I3.kIn, ?_⟩) hst hpl
  exact run_fn (us := us) (vs := vs) F hr hb hd hx I3 r q2
end
end L2

set_option Elab.async false
set_option linter.all false
namespace L2
open PySem PySem.Spec PyProof.Rows
/-! ### readings under a name: the rest of a text is not written out at every step -/
theorem cutC {X : Cx} {s : Stmt} {ss : List Stmt} {r : TS} {C : TS → Prop} (d : PS X s r) (k : ∀ r', r' = r → ∃ ts, PSs X ss ts ∧ C (tSeq r' ts)) : ∃ ts, PSs X (s :: ss) ts ∧ C ts :=
  let ⟨_, h1, h2⟩ := k r rfl
  ⟨_, pss_cons d h1, h2⟩
theorem cutE {X : Cx} {s : Stmt} {r : TS} {C : TS → Prop} (d : PS X s r) (k : ∀ r', r' = r → C r') : ∃ ts, PSs X [s] ts ∧ C ts := ⟨_, pss_one d, k r rfl⟩
theorem rd_cut {r r' : TS} {D : Ends} {σ : St} {H : Hp} (e : r' = r) (h : r D σ H) : r' D σ H := e ▸ h
theorem rd_seqA {t u : TS} {D : Ends} {σ : St} {H : Hp} (k : ∀ u', u' = u → t { D with nx := u' D } σ H) : tSeq t u D σ H := k u rfl
theorem len1 {us : List Value} (h : us.length = 1) : ∃ a0, us = [a0] := match us, h with | [a0], _ => ⟨a0, rfl⟩
theorem len2 {us : List Value} (h : us.length = 2) : ∃ a0 a1, us = [a0, a1] := match us, h with | [a0, a1], _ => ⟨a0, a1, rfl⟩
theorem len3 {us : List Value} (h : us.length = 3) : ∃ a0 a1 a2, us = [a0, a1, a2] := match us, h with | [a0, a1, a2], _ => ⟨a0, a1, a2, rfl⟩
theorem len4 {us : List Value} (h : us.length = 4) : ∃ a0 a1 a2 a3, us = [a0, a1, a2, a3] := match us, h with | [a0, a1, a2, a3], _ => ⟨a0, a1, a2, a3, rfl⟩
theorem len5 {us : List Value} (h : us.length = 5) : ∃ a0 a1 a2 a3 a4, us = [a0, a1, a2, a3, a4] := match us, h with | [a0, a1, a2, a3, a4], _ => ⟨a0, a1, a2, a3, a4, rfl⟩
end L2

set_option Elab.async false
set_option linter.all false
set_option maxRecDepth 100000
set_option maxHeartbeats 4000000
namespace L2
open PySem PySem.Spec PyProof.Rows
/-! ### lists of pairs as tables -/
section
variable {κ : Type} [DecidableEq κ]
def valV (kvs : List (κ × V)) (k : κ) : Option V := (kvs.find? fun kv => decide (kv.1 = k)).map (·.2)
/-- in its place, or at the end -/
def putK (kvs : List (κ × V)) (k : κ) (v : V) : List (κ × V) :=
  if (kvs.any fun kv => decide (kv.1 = k)) = true then kvs.map (fun kv => if kv.1 = k then (kv.1, v) else kv) else kvs ++ [(k, v)]
def dropK (kvs : List (κ × V)) (k : κ) : List (κ × V) := kvs.filter fun kv => decide (kv.1 ≠ k)

theorem valV_pos {p : κ × V} {r : List (κ × V)} {k : κ} (e : p.1 = k) : valV (p :: r) k = some p.2 := by simp [valV, List.find?_cons, e]
theorem valV_neg {p : κ × V} {r : List (κ × V)} {k : κ} (e : ¬ p.1 = k) : valV (p :: r) k = valV r k := by simp [valV, List.find?_cons, e]
theorem valV_any (k : κ) : ∀ kvs : List (κ × V), (kvs.any fun kv => decide (kv.1 = k)) = (valV kvs k).isSome
  | [] => rfl
  | p :: r => by
    rw [List.any_cons]
    by_cases e : p.1 = k
    · simp only [valV_pos e, decide_eq_true e, Bool.true_or, Option.isSome_some]
    · rw [valV_neg e, decide_eq_false e, Bool.false_or]; exact valV_any k r
theorem length_putK (kvs : List (κ × V)) (k : κ) (v : V) : (putK kvs k v).length ≤ kvs.length + 1 := by
  unfold putK
  split
  · rw [List.length_map]; omega
  · rw [List.length_append, List.length_cons, List.length_nil]; omega
theorem putK_new {kvs : List (κ × V)} {k : κ} (v : V) (h : valV kvs k = none) : putK kvs k v = kvs ++ [(k, v)] := by
  unfold putK
  rw [valV_any, h]
  exact if_neg (by decide)

theorem RelO.isSome_eq {o : Option V} {u : Option Value} (r : RelO o u) : o.isSome = u.isSome := by
  cases o with
  | none => cases u with
    | none => rfl
    | some _ => exact (show False from r).elim
  | some _ => cases u with
    | none => exact (show False from r).elim
    | some _ => rfl

/-- raw tables of the same keys -/
theorem KV.val {kvs : List (κ × V)} {vs : List (κ × Value)} (r : KV kvs vs) (k : κ) : RelO (valV kvs k) (valueAt vs k) := by
  unfold KV at r
  induction r with
  | nil => exact True.intro
  | @cons p q ps qs h t ih =>
    obtain ⟨h1, h2⟩ := h
    by_cases e : p.1 = k
    · have e' : q.1 = k := h1.symm.trans e
      have b : valueAt (q :: qs) k = some q.2 := by simp [valueAt, List.find?_cons, e']
      rw [valV_pos e, b]; exact h2
    · have e' : ¬ q.1 = k := fun z => e (h1.trans z)
      have b : valueAt (q :: qs) k = valueAt qs k := by simp [valueAt, List.find?_cons, e']
      rw [valV_neg e, b]; exact ih
theorem KV.any {kvs : List (κ × V)} {vs : List (κ × Value)} (r : KV kvs vs) (k : κ) : (kvs.any fun kv => decide (kv.1 = k)) = vs.any fun kv => decide (kv.1 = k) := by
  unfold KV at r
  induction r with
  | nil => rfl
  | cons h t ih => rw [List.any_cons, List.any_cons, ih, h.1]
theorem KV.repl {kvs : List (κ × V)} {vs : List (κ × Value)} (r : KV kvs vs) (k : κ) {y : V} {u : Value} (ry : RelV y u) :
    KV (kvs.map fun kv => if kv.1 = k then (kv.1, y) else kv) (vs.map fun kv => if kv.1 = k then (kv.1, u) else kv) := by
  unfold KV at r ⊢
  induction r with
  | nil => exact .nil
  | @cons p q ps qs h t ih =>
    rw [List.map_cons, List.map_cons]
    refine .cons ?_ ih
    obtain ⟨h1, h2⟩ := h
    by_cases e : p.1 = k
    · rw [if_pos e, if_pos (h1.symm.trans e)]; exact ⟨h1, ry⟩
    · rw [if_neg e, if_neg (fun z => e (h1.trans z))]; exact ⟨h1, h2⟩
theorem KV.put {kvs : List (κ × V)} {vs : List (κ × Value)} (r : KV kvs vs) (k : κ) {y : V} {u : Value} (ry : RelV y u) : KV (putK kvs k y) (stored vs k u) := by
  unfold putK stored
  rw [r.any k]
  by_cases e : (vs.any fun kv => decide (kv.1 = k)) = true
  · rw [if_pos e, if_pos e]; exact r.repl k ry
  · rw [if_neg e, if_neg e]; exact Paired.snoc r ⟨rfl, ry⟩
theorem KV.length {kvs : List (κ × V)} {vs : List (κ × Value)} (r : KV kvs vs) : kvs.length = vs.length := Paired.length r
end


/-! ### a tracked dict, its keys ints and texts or tuples of these -/
theorem kV_is {P : Program} {w : World} {k : Key} {u : Value} (r : RelV (kV k) u) : (mixKind P w).is k u = true := by
  cases k with
  | inl i => obtain ⟨t, e⟩ := (show ∃ t, u = Value.int i t from r); subst e; exact mixKind_int P w i t
  | inr x => obtain ⟨t, e⟩ := (show ∃ t, u = Value.str x t from r); subst e; exact mixKind_str P w x t
theorem items_are {P : Program} {w : World} : ∀ {ks : List Key} {us : List Value}, Vals (ks.map kV) us → ItemsAre (mixKind P w) ks us
  | [], _, r => by rw [List.map_nil] at r; cases r; exact .nil
  | k :: ks, _, r => by
    rw [List.map_cons] at r
    cases r with
    | cons h t => exact .cons (kV_is h) (items_are t)

/-- raw entries of a dict with tuple keys -/
abbrev KT (H : Hp) : List (List Key × V) → List (List Key × Addr × Value) → Prop := Paired fun p q => p.1 = q.1 ∧ H q.2.1 = some (.tup (p.1.map kV)) ∧ RelV p.2 q.2.2
theorem KT.val {H : Hp} {kvs : List (List Key × V)} {xs : List (List Key × Addr × Value)} (r : KT H kvs xs) (k : List Key) : RelO (valV kvs k) ((atKey xs k).map (·.2)) := by
  induction r with
  | nil => exact True.intro
  | @cons p q ps qs h t ih =>
    obtain ⟨h1, _, h2⟩ := h
    by_cases e : p.1 = k
    · have e' : q.1 = k := h1.symm.trans e
      have b : atKey (q :: qs) k = some q.2 := by simp [atKey, List.find?_cons, e']
      rw [valV_pos e, b]; exact h2
    · have e' : ¬ q.1 = k := fun z => e (h1.trans z)
      have b : atKey (q :: qs) k = atKey qs k := by simp [atKey, List.find?_cons, e']
      rw [valV_neg e, b]; exact ih
theorem KT.repl {H : Hp} {kvs : List (List Key × V)} {xs : List (List Key × Addr × Value)} (r : KT H kvs xs) (k : List Key) {y : V} {u : Value} (ry : RelV y u) :
    KT H (kvs.map fun kv => if kv.1 = k then (kv.1, y) else kv) (xs.map (putAt k u)) := by
  induction r with
  | nil => exact .nil
  | @cons p q ps qs h t ih =>
    rw [List.map_cons, List.map_cons]
    refine .cons ?_ ih
    obtain ⟨h1, h2, h3⟩ := h
    unfold putAt
    by_cases e : p.1 = k
    · rw [if_pos e, if_pos (h1.symm.trans e)]; exact ⟨h1, h2, ry⟩
    · rw [if_neg e, if_neg (fun z => e (h1.trans z))]; exact ⟨h1, h2, h3⟩
theorem KT.put {H : Hp} {kvs : List (List Key × V)} {xs : List (List Key × Addr × Value)} (r : KT H kvs xs) (k : List Key) {b : Addr} {y : V} {u : Value} (hb : H b = some (.tup (k.map kV))) (ry : RelV y u) :
    KT H (putK kvs k y) (storedH xs k b u) := by
  have e : (kvs.any fun kv => decide (kv.1 = k)) = (atKey xs k).isSome := by
    rw [valV_any, (r.val k).isSome_eq, Option.isSome_map]
  unfold putK storedH
  rw [e]
  by_cases q : (atKey xs k).isSome = true
  · rw [if_pos q, if_pos q]; exact r.repl k ry
  · rw [if_neg q, if_neg q]; exact Paired.snoc r ⟨rfl, hb, ry⟩
theorem KT.keeps {H H' : Hp} {kvs : List (List Key × V)} {xs : List (List Key × Addr × Value)} (r : KT H kvs xs) (ht : ∀ b ys, H b = some (.tup ys) → H' b = some (.tup ys)) : KT H' kvs xs :=
  Paired.mapP r fun _ _ z => ⟨z.1, ht _ _ z.2.1, z.2.2⟩

section
variable {P : Program} {w : World} {H : Hp} {h : Heap} {a : Addr}
theorem rd_of {u : HO} (ok : HOk P w H h) (e : Rd H a u) : ObjOk P w H h a u := e.ok ok
theorem dk_rd {kvs : List (Key × V)} (ok : HOk P w H h) (e : Rd H a (.dK kvs)) : kvs.length ≤ sizeLine ∧ (a == sysModules) = false ∧ ∃ vs, KV kvs vs ∧ h.DictOf (mixKind P w) a vs :=
  show ObjOk P w H h a (.dK kvs) from rd_of ok e
theorem dk_of {kvs : List (Key × V)} (ok : HOk P w H h) (e : H a = some (.dK kvs)) : kvs.length ≤ sizeLine ∧ (a == sysModules) = false ∧ ∃ vs, KV kvs vs ∧ h.DictOf (mixKind P w) a vs := dk_rd ok (.inl e)
/-- a tracked tuple of ints and texts is a key -/
theorem key_of {ks : List Key} (ok : HOk P w H h) (e : H a = some (.tup (ks.map kV))) : (tupleKind (mixKind P w)).is h ks a := by
  obtain ⟨_, its, r, o, h1, h2, n, h3⟩ := (show ObjOk P w H h a (.tup (ks.map kV)) from ok a _ e)
  exact ⟨o, its.toArray, n, h1, h2, h3, by simpa using items_are r⟩
theorem dt_rd {kvs : List (List Key × V)} (ok : HOk P w H h) (e : Rd H a (.dT kvs)) : kvs.length ≤ sizeLine ∧ (a == sysModules) = false ∧
    ∃ xs, KT H kvs xs ∧ h.DictOfH (tupleKind (mixKind P w)) a xs := by
  obtain ⟨z, y, xs, r, o, es, ep, h1, h2, h3, h4, h5⟩ := (show ObjOk P w H h a (.dT kvs) from rd_of ok e)
  refine ⟨z, y, xs, r, o, es, ep, h1, h2, h3, h4, fun x hx => ?_, h5⟩
  have all : ∀ {l : List (List Key × V)} {m : List (List Key × Addr × Value)}, KT H l m → ∀ x ∈ m, (tupleKind (mixKind P w)).is h x.1 x.2.1 := by
    intro l m q
    induction q with
    | nil => intro x hx; exact nomatch hx
    | @cons p q ps qs hq t ih =>
      intro x hx
      rcases List.mem_cons.mp hx with e | hx
      · subst e
        exact key_of ok (by rw [← hq.1]; exact hq.2.1)
      · exact ih x hx
  exact all r x hx
theorem dt_of {kvs : List (List Key × V)} (ok : HOk P w H h) (e : H a = some (.dT kvs)) : kvs.length ≤ sizeLine ∧ (a == sysModules) = false ∧
    ∃ xs, KT H kvs xs ∧ h.DictOfH (tupleKind (mixKind P w)) a xs := dt_rd ok (.inl e)
end

/-- what the dict at a holds at the key y -/
def DGet (H : Hp) (a : Addr) (y : V) (r : Option V) : Prop :=
  (∃ kvs k, Rd H a (.dK kvs) ∧ y = kV k ∧ r = valV kvs k) ∨ ∃ kvs k b, Rd H a (.dT kvs) ∧ y = .ref b ∧ H b = some (.tup (k.map kV)) ∧ r = valV kvs k
/-- the heap behind a[y] = v -/
def DPut (H : Hp) (a : Addr) (y v : V) (H' : Hp) : Prop :=
  (∃ kvs k, H a = some (.dK kvs) ∧ y = kV k ∧ kvs.length < sizeLine ∧ H' = upd H a (.dK (putK kvs k v))) ∨
  ∃ kvs k b, H a = some (.dT kvs) ∧ y = .ref b ∧ H b = some (.tup (k.map kV)) ∧ kvs.length < sizeLine ∧ H' = upd H a (.dT (putK kvs k v))
theorem DGet.t {H : Hp} {a b : Addr} {kvs : List (List Key × V)} {k : List Key} (e : H a = some (.dT kvs)) (eb : H b = some (.tup (k.map kV))) : DGet H a (.ref b) (valV kvs k) := .inr ⟨kvs, k, b, .inl e, rfl, eb, rfl⟩
theorem DPut.t {H : Hp} {a b : Addr} {kvs : List (List Key × V)} {k : List Key} {v : V} (e : H a = some (.dT kvs)) (eb : H b = some (.tup (k.map kV))) (hl : kvs.length < sizeLine) :
    DPut H a (.ref b) v (upd H a (.dT (putK kvs k v))) := .inr ⟨kvs, k, b, e, rfl, eb, hl, rfl⟩


section
variable {X : Cx} {pins : List (Addr × Obj)} {σ : St} {H : Hp} {s : Shared} {a : Addr} {y v : V} {u r : Value} {o : Option V} {A : Around} {E : Value → Shared → Prop}

theorem Inv.big (I : Inv X pins σ H s) : sysModules < s.heap.objs.size := by
  have h : mainGlobals < s.heap.objs.size := (I.mod.glob.keeps I.bk).lt
  exact Nat.lt_trans (by decide) h

theorem d_notIn {Q : Value → Shared → Prop} (hu : A.units + 1 < cLine) (I : Inv X pins σ H s) (g : DGet H a y o) (ry : RelV y u) (h : ∀ s', Inv X pins σ H s' → Q (.bool (!o.isSome)) s') :
    wpAny (model X.prog X.w) A (compareOp .NotIn u (.ref a)) Q E s := by
  rcases g with ⟨kvs, k, e, ey, l⟩ | ⟨kvs, k, b, e, ey, eb, l⟩
  · subst ey
    obtain ⟨z, hd, vs, rel, dd⟩ := dk_rd I.hok e
    refine wpAny_notIn_of (kV_is ry) hd dd.mapOf ?_
    rw [← (rel.val k).isSome_eq, ← l]
    exact h _ (I.tok _)
  · subst ey
    cases (show u = Value.ref b from ry)
    obtain ⟨z, hd, xs, rel, dd⟩ := dt_rd I.hok e
    refine wpAny_notIn_heap (tupleKind_room_in1 hu) (key_of I.hok eb) hd dd ?_
    have q := (rel.val k).isSome_eq
    rw [Option.isSome_map] at q
    rw [← q, ← l]
    exact h _ (I.tok _)
/-- a dict's object is replaced -/
theorem d_write {h' : Heap} {t' : Nat} {ob : HO} (I : Inv X pins σ H s) (mu : Mut (H a)) (hs : Heap.SameBut a s.heap h') (he : ∃ q, h'.get? a = some q) (new : ObjOk X.prog X.w (upd H a ob) h' a ob) :
    Inv X pins σ (upd H a ob) { s with heap := h', toks := t' } :=
  I.write (x := a) (e := a) mu (.inl rfl) (fun b q hb z => (hs.2 b hb).trans z) he new
theorem dk_new {P : Program} {w : World} {H' : Hp} {h' : Heap} {kvs : List (Key × V)} {vs : List (Key × Value)} (z : kvs.length ≤ sizeLine) (hd : (a == sysModules) = false) (rel : KV kvs vs) (dd : h'.DictOf (mixKind P w) a vs) :
    ObjOk P w H' h' a (.dK kvs) := ⟨z, hd, vs, rel, dd⟩
/-- d[y] = v -/
theorem d_setItem {H' : Hp} {Q : Unit → Shared → Prop} (hu : A.units + 1 < cLine) (I : Inv X pins σ H s) (g : DPut H a y v H') (ry : RelV y u) (rv : RelV v r) (h : ∀ s', Inv X pins σ H' s' → Q () s') :
    wpAny (model X.prog X.w) A (setItem (.ref a) u r) Q E s := by
  rcases g with ⟨kvs, k, e, ey, l, eH⟩ | ⟨kvs, k, b, e, ey, eb, l, eH⟩
  · subst ey eH
    obtain ⟨z, hd, vs, rel, dd⟩ := dk_of I.hok e
    have hz : vs.length ≤ sizeLine := by rw [← rel.length]; exact z
    have hl : (putK kvs k v).length ≤ sizeLine := by have := length_putK kvs k v; omega
    refine wpAny_setItem_pairs (hsz := hz) (kV_is ry) dd fun h' dd' hs => h _ ?_
    have he : ∃ q, h'.get? a = some q := let ⟨q, _, _, hq, _⟩ := dd'; ⟨q, hq⟩
    exact d_write I (by rw [e]; exact True.intro) hs he (dk_new hl hd (rel.put k rv) dd')
  · subst ey eH
    cases (show u = Value.ref b from ry)
    obtain ⟨z, hd, xs, rel, dd⟩ := dt_of I.hok e
    have hz : xs.length ≤ sizeLine := by rw [← Paired.length rel]; exact z
    have hl : (putK kvs k v).length ≤ sizeLine := by have := length_putK kvs k v; omega
    refine wpAny_setItem_heap (hsz := hz) (tupleKind_room_in1 hu) (key_of I.hok eb) dd fun h' dd' hs => h _ ?_
    obtain ⟨q, es, ep, hq, h2, h3, h4, _, h5⟩ := dd'
    refine d_write I (by rw [e]; exact True.intro) hs ⟨q, hq⟩ ⟨hl, hd, _, (rel.put k eb rv).keeps fun c ys ec => ?_, q, es, ep, hq, h2, h3, h4, h5⟩
    rw [upd_ne (ne_of ec e (fun z => nomatch z))]
    exact ec
end

section
variable {X : Cx} {pins : List (Addr × Obj)} {σ : St} {H : Hp} {s : Shared} {a : Addr} {kvs : List (Key × V)} {k : Key} {u : Value} {A : Around} {E : Value → Shared → Prop}
end


/-! ### readings and rules -/
/-- the element of a subscription, not a slice -/
def NoSl (i : Expr) : Prop := ∀ ov iv, subscripted i false ov iv = operate [ov, iv] (getItem ov iv)


/-- d[y] -/
def tDGet (td ty : TE) : TE := fun σ H Q => td σ H fun x H1 => ty σ H1 fun y H2 => ∃ a v, x = .ref a ∧ DGet H2 a y (some v) ∧ Q v H2
/-- y in d, y not in d -/
def tDIn (ty td : TE) : TE := fun σ H Q => ty σ H fun y H1 => td σ H1 fun x H2 => ∃ a o, x = .ref a ∧ DGet H2 a y o ∧ Q (.bl o.isSome) H2
def tDNotIn (ty td : TE) : TE := fun σ H Q => ty σ H fun y H1 => td σ H1 fun x H2 => ∃ a o, x = .ref a ∧ DGet H2 a y o ∧ Q (.bl (!o.isSome)) H2
/-- d[y] = v -/
def sDPut (td ty tv : TE) : TS := fun D σ H => tv σ H fun v H1 => td σ H1 fun x H2 => ty σ H2 fun y H3 => ∃ a H4, x = .ref a ∧ DPut H3 a y v H4 ∧ D.nx σ H4
/-- d[y] op= v -/
def sDAug (td ty tv : TE) (rd : V → V → Hp → VK → Prop) : TS := fun D σ H => td σ H fun x H1 => ty σ H1 fun y H2 => ∃ a v, x = .ref a ∧ DGet H2 a y (some v) ∧
  tv σ H2 fun y2 H3 => rd v y2 H3 fun z H4 => ∃ H5, DPut H4 a y z H5 ∧ D.nx σ H5
/-- del d[y] -/
def sDDel (td ty : TE) : TS := fun D σ H => td σ H fun x H1 => ty σ H1 fun y H2 => ∃ a kvs k, x = .ref a ∧ H2 a = some (.dK kvs) ∧ y = kV k ∧ (valV kvs k).isSome = true ∧ D.nx σ (upd H2 a (.dK (dropK kvs k)))

section
variable {X : Cx} {o i e value : Expr} {pos pos' tpos : Pos} {td ty tv : TE}
theorem pc_dnotin (hu : X.A.units + 1 < cLine) (hi : PE X i ty) (ho : PE X o td) : PC X .NotIn i o (tDNotIn ty td) := by
  intro pins s σ H Q I h
  refine thn (hi pins s σ H _ I h) fun iv s1 ⟨y, H1, I1, ry, q1⟩ => thn (ho pins s1 σ H1 _ I1 q1) fun u s2 ⟨x, H2, I2, rx, a, ov, ex, g, q2⟩ => ?_
  subst ex
  obtain rfl : u = Value.ref a := rx
  exact d_notIn hu I2 g ry fun s3 I3 => ⟨.bl (!ov.isSome), H2, I3, rfl, q2⟩
theorem ps_dput (hu : X.A.units + 1 < cLine) (ho : PE X o td) (hi : PE X i ty) (hv : PE X value tv) (hs : swapsWith value (some (.Subscript o i pos')) pos.line X.env = pure false) :
    PS X (.Assign [.Subscript o i pos'] value pos) (sDPut td ty tv) := by
  intro pins s σ H D I h
  refine wpAny_Assign_Subscript (thn (hv pins s σ H _ I h) fun r s1 ⟨v, H1, I1, rv, q1⟩ => thn (ho pins s1 σ H1 _ I1 q1) fun u s2 ⟨x, H2, I2, rx, q2⟩ => thn (hi pins s2 σ H2 _ I2 q2) fun iv s3 ⟨y, H3, I3, ry, a, H4, ex, g, q3⟩ => ?_) hs
  subst ex
  obtain rfl : u = Value.ref a := rx
  exact d_setItem hu I3 g ry rv fun s4 I4 => ⟨σ, H4, I4, q3⟩
end


/-! ### displays -/
theorem dt_empty {P : Program} {w : World} {H : Hp} (h : Heap) (hb : sysModules < h.objs.size) : ObjOk P w H (h.push { cls := .type "dict", data := .dict #[] }) h.objs.size (.dT []) :=
  ⟨Nat.zero_le _, beq_eq_false_iff_ne.mpr (Ne.symm (Nat.ne_of_lt hb)), [], .nil, _, #[], 0, Heap.get?_push_size _ rfl, ⟨rfl, rfl, rfl⟩, rfl, rfl, List.nodup_nil⟩
/-- {}, to be a dict of the kind that is wanted -/
def tDNewK : TE := fun _ H Q => ∀ p, H p = none → Q (.ref p) (upd H p (.dK []))
def tDNewT : TE := fun _ H Q => ∀ p, H p = none → Q (.ref p) (upd H p (.dT []))
section
variable {X : Cx} {pos : Pos}
theorem pe_dnewT : PE X (.Dict [] [] pos) tDNewT := fun pins s σ H Q I h =>
  wpAny_Dict_empty ⟨.ref s.heap.objs.size, _, I.laid (a := s.heap.objs.size) (o := .dT []) (t' := s.toks) (fun _ _ q => Heap.get?_push_of_some _ q) (Nat.le_refl _) (dt_empty s.heap I.big), rfl, h _ (I.hok.fresh (Nat.le_refl _))⟩
end

/-- the pairs of a display, from the left -/
def tPairs : List (TE × TE) → St → Hp → (List (V × V) → Hp → Prop) → Prop
  | [], _, H, Q => Q [] H
  | (tk, tv) :: r, σ, H, Q => tk σ H fun x H1 => tv σ H1 fun y H2 => tPairs r σ H2 fun ps H3 => Q ((x, y) :: ps) H3
abbrev VV : List (V × V) → List (Value × Value) → Prop := Paired fun p q => RelV p.1 q.1 ∧ RelV p.2 q.2
def PPs (X : Cx) (pos : Pos) (keys : List (Option Expr)) (values : List Expr) (trs : List (TE × TE)) : Prop :=
  ∀ (pins : List (Addr × Obj)) (s : Shared) (σ : St) (H : Hp) (Q : List (V × V) → Hp → Prop), Inv X pins σ H s → tPairs trs σ H Q →
    wpAny (model X.prog X.w) X.A (evalPairs (pairTrees keys values X.env pos)) (fun vs s' => ∃ ps H', Inv X pins σ H' s' ∧ VV ps vs ∧ Q ps H') X.xe s

def mergeK (kvs more : List (Key × V)) : List (Key × V) := more.foldl (fun acc kv => putK acc kv.1 kv.2) kvs
/-- {k: v, ..} with keys ints and texts; the new dict stands empty while the pairs are made -/
def tDisp (trs : List (TE × TE)) : TE := fun σ H Q => ∀ p, H p = none → tPairs trs σ (upd H p (.dK [])) fun ps H2 => H2 p = some (.dK []) ∧ ∃ kvs : List (Key × V), ps = kvs.map (fun kv => (kV kv.1, kv.2)) ∧ kvs.length ≤ 15 ∧ Q (.ref p) (upd H2 p (.dK (mergeK [] kvs)))


/-! ### methods -/
/-- a method call o.m(e) of a built-in, with one argument: what must be seen of the text -/
structure M1 (X : Cx) (o : Expr) (m : Str) (apos : Pos) (e : Expr) (cpos : Pos) : Prop where
  base : attributeBase o m X.env (eval o X.env) = eval o X.env
  few : ((backTo cpos (starEach [e] X.env)).all (fun x => !x.1) && (backToKw cpos (keywordEach [] X.env)).all (fun x => x.1.isSome)
    && decide (([e] : List Expr).length + ([] : List Keyword).length + (if ([] : List Keyword).isEmpty then 0 else 1) < 30)) = true
  line : (apos.endLine == cpos.line) = true
  trees : backTo cpos (starEach [e] X.env) = [(false, eval e X.env)]
structure M2 (X : Cx) (o : Expr) (m : Str) (apos : Pos) (e f : Expr) (cpos : Pos) : Prop where
  base : attributeBase o m X.env (eval o X.env) = eval o X.env
  few : ((backTo cpos (starEach [e, f] X.env)).all (fun x => !x.1) && (backToKw cpos (keywordEach [] X.env)).all (fun x => x.1.isSome)
    && decide (([e, f] : List Expr).length + ([] : List Keyword).length + (if ([] : List Keyword).isEmpty then 0 else 1) < 30)) = true
  line : (apos.endLine == cpos.line) = true
  trees : backTo cpos (starEach [e, f] X.env) = [(false, eval e X.env), (false, eval f X.env)]

/-- a is a dict, whatever its keys -/
def IsD (H : Hp) (a : Addr) : Prop := (∃ kvs, Rd H a (.dK kvs)) ∨ ∃ kvs, Rd H a (.dT kvs)

section
variable {X : Cx} {pins : List (Addr × Obj)} {σ : St} {H : Hp} {s : Shared} {a : Addr} {y d : V} {u r : Value} {o : Option V} {A : Around} {E : Value → Shared → Prop}
end

def tDGet1 (td ty : TE) : TE := fun σ H Q => td σ H fun x H1 => ∃ a, x = .ref a ∧ IsD H1 a ∧ ty σ H1 fun y H2 => ∃ o, DGet H2 a y o ∧ Q (o.getD .non) H2
def tDGet2 (td ty tx : TE) : TE := fun σ H Q => td σ H fun x H1 => ∃ a, x = .ref a ∧ IsD H1 a ∧ ty σ H1 fun y H2 => tx σ H2 fun z H3 => ∃ o, DGet H3 a y o ∧ Q (o.getD z) H3
/-- d.pop(k): there; d.pop(k, x): there or not -/
def tDPop1 (td ty : TE) : TE := fun σ H Q => td σ H fun x H1 => ∃ a, x = .ref a ∧ IsD H1 a ∧ ty σ H1 fun y H2 => ∃ kvs k v, H2 a = some (.dK kvs) ∧ y = kV k ∧ valV kvs k = some v ∧ Q v (upd H2 a (.dK (dropK kvs k)))
def tDPop2 (td ty tx : TE) : TE := fun σ H Q => td σ H fun x H1 => ∃ a, x = .ref a ∧ IsD H1 a ∧ ty σ H1 fun y H2 => tx σ H2 fun z H3 => ∃ kvs k, H3 a = some (.dK kvs) ∧ y = kV k ∧
  (∀ v, valV kvs k = some v → Q v (upd H3 a (.dK (dropK kvs k)))) ∧ (valV kvs k = none → Q z H3)
section
variable {X : Cx} {o e f : Expr} {apos cpos : Pos} {td ty tx : TE}
end

/-! ### dict(d): a copy -/
section
variable {X : Cx} {pins : List (Addr × Obj)} {σ : St} {H : Hp} {s : Shared} {a : Addr} {kvs : List (Key × V)} {A : Around} {E : Value → Shared → Prop}
end


section
variable {X : Cx} {pins : List (Addr × Obj)} {σ : St} {H : Hp} {s : Shared} {a : Addr} {y : V} {u : Value} {A : Around} {E : Value → Shared → Prop}
end
end L2

set_option Elab.async false
set_option linter.all false
set_option maxRecDepth 100000
set_option maxHeartbeats 4000000
namespace L2
open PySem PySem.Spec PyProof.Rows
/-! ### range with a step of two -/
def It2 (lo : Int) (n : Nat) : It := ⟨fun i _ => i < n, fun i H x H' => H' = H ∧ x = .int (lo + i * 2), fun i _ => n ≤ i⟩
theorem turn_range2 {P : Program} {w : World} {K : PySem.W.Frag} {tg : Expr} (it : Addr) (lo : Int) (n : Nat) : Turn P w K tg (It2 lo n) [it] it (fun i h => IsRangeIter h it (lo + (i : Nat) * 2) ((n : Int) - (i : Nat)) 2) where
  mem := by simp
  obj := fun i h st b hb => by
    have e : b = it := by simpa using hb
    subst e
    exact ⟨_, st, fun v z => by
      have z' : Data.fields _ = Data.cell v := z
      cases z'⟩
  keep := fun i h h' st k => k it (by simp) _ st
  item := by
    intro X hP hw hK hc i pins s σ H E I hf st hg
    subst hP hw hK
    obtain ⟨f0, f1, f2, f3, f4, f5⟩ := hf it (by simp)
    have W := Walks.range (prog := X.prog) (w := X.w) (I.ok.hd hc) it lo 2 n
    refine W.item i s _ _ hg st fun v h' tk hv st' kk => ?_
    obtain ⟨t, rfl⟩ := hv
    have I1 : Inv X pins σ H { s with heap := h', toks := tk } := I.turned (fun b o hb e => kk b o (by simpa using hb) e) f0 f1 f3 f4 f5
    exact ⟨_, rfl, go_of (s := { s with heap := h', toks := tk }) (n := "range_iterator") st' rfl rfl (by decide) ⟨.int (lo + i * 2), H, I1, ⟨t, rfl⟩, ⟨rfl, rfl⟩, st', fun b hb => (hf b hb).1⟩⟩
  done := by
    intro X hP hw hK hc i pins s σ H E I hf st hg
    subst hP hw hK
    obtain ⟨f0, f1, f2, f3, f4, f5⟩ := hf it (by simp)
    exact wpAny_pyNext_range_end (I.ok.hd hc) st (by have : n ≤ i := hg; omega) fun h' eb => ⟨rfl, I.turned (t' := s.toks) (fun b o hb e => eb b o hb e) f0 f1 f3 f4 f5⟩
  self := fun _ _ _ _ _ st h => wpAny_pyIter_rangeiter st h
/-- how many turns -/
def cnt2 (i j : Int) : Nat := ((j - i + 1) / 2).toNat
theorem size_two {i j : Int} (h : i ≤ j) : Builtin.Range.rangeSize i j 2 = ((cnt2 i j : Nat) : Int) := by
  unfold Builtin.Range.rangeSize cnt2
  rw [if_pos (by decide : (2 : Int) > 0)]
  split <;> omega
theorem small_two {i j : Int} (h0 : 0 ≤ i) (h : i ≤ j) (hj : j < 2 ^ 40) : Builtin.Range.small i j 2 = true := by
  unfold Builtin.Range.small
  rw [size_two h]
  unfold cnt2
  simp only [Builtin.Range.rangeFitsLong, Bool.and_eq_true, Bool.or_eq_true, decide_eq_true_eq, beq_iff_eq, if_pos (by decide : (2 : Int) > 0)]
  omega
def iRng3 (ta : TA) : TI := fun σ H R => ta σ H fun vs H1 => ∃ i j : Int, vs = [.int i, .int j, .int 2] ∧ 0 ≤ i ∧ i ≤ j ∧ j < 2 ^ 40 ∧ R (It2 i (cnt2 i j)) H1
section
variable {X : Cx} {tg : Expr}
theorem pi_range3 {a b c : Expr} {ta : TA} {p pos : Pos} (hg : Gl X "range") (hm : X.mg "range" = none) (ha : PA X [a, b, c] ta) (hs : starEach [a, b, c] X.env = (false, eval a X.env) :: starEach [b, c] X.env := by rfl)
    (hpl : (backTo pos (starEach [b, c] X.env)).any (·.1) = false := by rfl) : PI X tg (.Call (.Name "range" p) [a, b, c] [] pos) (iRng3 ta) := by
  intro pins s σ H R I h
  refine Call_ (ld_blt I hg hm boot_range (PyProof.Rows.callWith_type1 (thn (ha pos pins s σ H _ I h) fun us s1 ⟨vs, H1, I1, r1, q1⟩ => ?_) hs hpl))
  obtain ⟨i, j, e, h0, h1, h2, q⟩ := q1
  subst e
  cases r1 with
  | cons ra rr =>
    cases rr with
    | cons rb rr =>
      cases rr with
      | cons rc rr =>
        cases rr
        obtain ⟨t, rfl⟩ := ra
        obtain ⟨u, rfl⟩ := rb
        obtain ⟨v, rfl⟩ := rc
        refine call_range_3 (by decide) ?_ (.inl (PyProof.noPylong_small (by omega)))
        refine wpAny_pyIter_range (IsRange.new ..) (small_two h0 h1 h2) ?_
        have I2 : Inv X pins σ H1 { s1 with heap := s1.heap.push { cls := .type "range", data := .fields #[.int i t, .int j u, .int 2 v] }, toks := s1.toks } := I1.kept fun b o e => Heap.get?_push_of_some _ e
        refine ⟨_, [(s1.heap.push { cls := .type "range", data := .fields #[.int i t, .int j u, .int 2 v] }).objs.size], _, _, H1, rfl, I2.kept (t' := s1.toks) fun b o e => Heap.get?_push_of_some _ e, turn_range2 _ i (cnt2 i j), ?_, fun b hb => ?_, q⟩
        · have e1 : i + ((0 : Nat) : Int) * 2 = i := by simp
          have e2 : ((cnt2 i j : Nat) : Int) - ((0 : Nat) : Int) = Builtin.Range.rangeSize i j 2 := by rw [size_two h1]; simp
          show IsRangeIter _ _ (i + ((0 : Nat) : Int) * 2) (((cnt2 i j : Nat) : Int) - ((0 : Nat) : Int)) 2
          rw [e1, e2]
          exact Heap.get?_push_size _ rfl
        · have e : b = (s1.heap.push { cls := .type "range", data := .fields #[.int i t, .int j u, .int 2 v] }).objs.size := by simpa using hb
          subst e
          exact I2.fpOk (Nat.le_refl _) (I2.hok.fresh (Nat.le_refl _))
end
theorem rd_rng3 {ta : TA} {σ : St} {H : Hp} {R : It → Hp → Prop} (h : ta σ H fun vs H1 => ∃ i j : Int, vs = [.int i, .int j, .int 2] ∧ 0 ≤ i ∧ i ≤ j ∧ j < 2 ^ 40 ∧ R (It2 i (cnt2 i j)) H1) : iRng3 ta σ H R := h
theorem forW_range2 {lo : Int} {n : Nat} {g : TG} {tb : TS} {D : Ends} {σ : St} {H : Hp} (Pv : Nat → St → Hp → Prop) (h0 : Pv 0 σ H)
    (hs : ∀ i σ H, i < n → Pv i σ H → g (.int (lo + i * 2)) σ H fun σ2 H2 => tb { D with nx := Pv (i + 1), ct := Pv (i + 1), bk := D.nx } σ2 H2) (hd : ∀ σ H, Pv n σ H → D.nx σ H) : ForW (It2 lo n) g tb D σ H := by
  refine ⟨fun i m σ H => i ≤ n ∧ m = n - i ∧ Pv i σ H, ⟨_, Nat.zero_le _, rfl, h0⟩, fun i m σ H ⟨hi, hm, p⟩ => ?_⟩
  by_cases h : i < n
  · refine .inr ⟨h, Pv (i + 1), fun σ' H' p' => ⟨n - (i + 1), by omega, by omega, rfl, p'⟩, fun x H' y => ?_⟩
    obtain ⟨rfl, rfl⟩ := y
    exact hs i σ _ h p
  · have e : i = n := by omega
    subst e
    exact .inl ⟨Nat.le_refl _, hd σ H p⟩
/-! ### an item of a list, by its number from nought -/
def rGetN (K : PySem.W.Frag) : V → V → Hp → VK → Prop := fun o i H Q => ∃ p xs j v, o = .ref p ∧ i = .int ((j : Nat) : Int) ∧ SqL K H p xs ∧ xs[j]? = some v ∧ Q v H
/-- an or of two tests that change nothing -/
theorem rd_orB {t u : TT} {σ : St} {H : Hp} {QB : Bool → Hp → Prop} (c d : Bool) (ht : ∀ Q' : Bool → Hp → Prop, Q' c H → t σ H Q') (hu : c = false → ∀ Q' : Bool → Hp → Prop, Q' d H → u σ H Q') (q : QB (c || d) H) : tOr t u σ H QB := by
  refine ht _ ?_
  cases c with
  | true => exact q
  | false => exact hu rfl _ q
/-- a choice of two ints, the test changes nothing -/
theorem rd_ifI {t : TT} {ta tb : TE} {σ : St} {H : Hp} {Q : VK} {i j : Int} (b : Bool) (ht : ∀ Q' : Bool → Hp → Prop, Q' b H → t σ H Q') (ha : ∀ Q' : VK, Q' (.int i) H → ta σ H Q') (hb : ∀ Q' : VK, Q' (.int j) H → tb σ H Q') (q : Q (.int (if b = true then i else j)) H) : tIf t ta tb σ H Q := by
  refine ht _ ?_
  cases b with
  | true => exact ha _ q
  | false => exact hb _ q
theorem shp2 (x y : Int) : SeqAt.shaped (.tuple [.int x, .int y]) = true := by rfl
theorem eqv2 (x y x' y' : Int) : PyData.eqv (.tuple [.int x, .int y]) (.tuple [.int x', .int y']) = decide ((x, y) = (x', y')) := by
  simp only [PyData.eqv, PyData.eqvAll]
  by_cases h1 : x = x' <;> by_cases h2 : y = y' <;> simp [h1, h2]
theorem rep2 {H : Hp} {a : Addr} {x y : Int} (h : H a = some (.tup [.int x, .int y])) : Rep H (.tuple [.int x, .int y]) (.ref a) := by
  simp only [Rep, RepL]
  exact ⟨a, _, rfl, h, _, _, rfl, rfl, _, _, rfl, rfl, rfl⟩
theorem rd_neP {H : Hp} {Q : VK} {a b : Addr} {x y x' y' : Int} (ha : H a = some (.tup [.int x, .int y])) (hb : H b = some (.tup [.int x', .int y'])) (q : Q (.bl (!decide ((x, y) = (x', y')))) H) : rEqD true (.ref a) (.ref b) H Q :=
  ⟨_, _, rep2 ha, rep2 hb, shp2 _ _, shp2 _ _, by rw [if_pos rfl, eqv2]; exact q⟩
theorem rd_dnewT {σ : St} {H : Hp} {Q : VK} (h : ∀ p, H p = none → Q (.ref p) (upd H p (.dT []))) : tDNewT σ H Q := h
theorem rd_dput {td ty tv : TE} {D : Ends} {σ : St} {H : Hp} (h : tv σ H fun v H1 => td σ H1 fun x H2 => ty σ H2 fun y H3 => ∃ a H4, x = .ref a ∧ DPut H3 a y v H4 ∧ D.nx σ H4) : sDPut td ty tv D σ H := h
theorem rd_dnotin {ty td : TE} {σ : St} {H : Hp} {Q : VK} (h : ty σ H fun y H1 => td σ H1 fun x H2 => ∃ a o, x = .ref a ∧ DGet H2 a y o ∧ Q (.bl (!o.isSome)) H2) : tDNotIn ty td σ H Q := h
/-! ### dicts by pairs -/
/-- len(d) of a dict whose keys are tuples -/
def rLenT : List V → Hp → VK → Prop := fun xs H Q => ∃ p kvs, xs = [.ref p] ∧ H p = some (.dT kvs) ∧ Q (.int (kvs.length : Nat)) H
/-! ### a comprehension over enumerate of a list -/
end L2

set_option Elab.async false
set_option linter.all false
set_option maxHeartbeats 1000000
namespace NR
/-- sum of f i, i < n -/
def sm : Nat → (Nat → Int) → Int
  | 0, _ => 0
  | n + 1, f => sm n f + f n
def ib (p : Prop) [Decidable p] : Int := if p then 1 else 0
theorem sm_congr {n : Nat} {f g : Nat → Int} (h : ∀ i, i < n → f i = g i) : sm n f = sm n g := by
  induction n with
  | zero => rfl
  | succ n ih => rw [sm, sm, ih fun i hi => h i (by omega), h n (by omega)]
theorem sm_zero (n : Nat) : sm n (fun _ => 0) = 0 := by
  induction n with
  | zero => rfl
  | succ n ih => rw [sm, ih]; rfl
theorem sm_add (n : Nat) (f g : Nat → Int) : sm n (fun i => f i + g i) = sm n f + sm n g := by
  induction n with
  | zero => rfl
  | succ n ih => rw [sm, sm, sm, ih]; omega
theorem sm_sub (n : Nat) (f g : Nat → Int) : sm n (fun i => f i - g i) = sm n f - sm n g := by
  induction n with
  | zero => rfl
  | succ n ih => rw [sm, sm, sm, ih]; omega
/-- a closed walk by turns along rows and columns, each row and each column gone one way -/
structure Orb (n : Nat) (e d : Int → Int) (X Y : Nat → Int) : Prop where
  pos : 0 < n
  he : ∀ y, e y = 1 ∨ e y = -1
  hd : ∀ x, d x = 1 ∨ d x = -1
  sx : ∀ i, X (i + 1) = X i + e (Y i)
  sy : ∀ i, Y (i + 1) = Y i + d (X (i + 1))
  cx : X n = X 0
  cy : Y n = Y 0
  dist : ∀ i k, i < n → k < n → X i = X k → Y i = Y k → i = k
section
variable {n : Nat} {e d : Int → Int} {X Y : Nat → Int}
theorem sm_tele (n : Nat) (f : Nat → Int) : sm n (fun i => f (i + 1) - f i) = f n - f 0 := by
  induction n with
  | zero => rw [sm]; omega
  | succ n ih => rw [sm, ih]; omega
def s1 (X Y : Nat → Int) (i k : Nat) : Int := ib (Y (i + 1) < Y (k + 1) ∨ (Y (i + 1) = Y (k + 1) ∧ X (i + 1) < X (k + 1)))
def s2 (X Y : Nat → Int) (i k : Nat) : Int := ib (Y i < Y k ∨ (Y i = Y k ∧ X (i + 1) < X (k + 1)))
/-- up and down -/
def Up (d : Int → Int) (X : Nat → Int) (i : Nat) : Prop := d (X (i + 1)) = 1
instance (d : Int → Int) (X : Nat → Int) (i : Nat) : Decidable (Up d X i) := inferInstanceAs (Decidable (_ = _))
theorem ib_one {n k : Nat} (hk : k < n) : sm n (fun i => ib (i = k)) = 1 := by
  induction n with
  | zero => omega
  | succ n ih =>
    rw [sm]
    by_cases h : k = n
    · subst h
      have z : sm k (fun i => ib (i = k)) = 0 := (sm_congr fun i hi => (by unfold ib; exact if_neg (by omega))).trans (sm_zero k)
      rw [z, ib, if_pos rfl]; rfl
    · rw [ih (by omega), ib, if_neg (by omega)]; rfl
theorem ib_iff {p q : Prop} [Decidable p] [Decidable q] (h : p ↔ q) : ib p = ib q := by
  unfold ib
  by_cases c : p
  · rw [if_pos c, if_pos (h.mp c)]
  · rw [if_neg c, if_neg fun z => c (h.mpr z)]
end
end NR

set_option Elab.async false
set_option linter.all false
set_option maxHeartbeats 1000000
namespace NR
/-- how many of 0, W, 2 W, .. lie ahead of z -/
def cl (W z : Int) : Int := (z + (W - 1)) / W
theorem cl_mul {W z j : Int} (hW : 0 < W) : cl W (z + j * W) = cl W z + j := by
  unfold cl
  rw [show z + j * W + (W - 1) = z + (W - 1) + j * W by omega, Int.add_mul_ediv_right _ _ (by omega)]
theorem cl_step {W z : Int} (hW : 0 < W) : cl W (z + 1) - cl W z = ib (z % W = 0) := by
  have h0 := Int.emod_nonneg z (by omega : W ≠ 0)
  have h1 := Int.emod_lt_of_pos z hW
  have e := Int.emod_add_mul_ediv z W
  have c1 : cl W (z + 1) = cl W (z % W + 1) + z / W := by
    rw [← cl_mul hW, show z % W + 1 + z / W * W = z + 1 by rw [Int.mul_comm (z / W)]; omega]
  have c2 : cl W z = cl W (z % W) + z / W := by
    rw [← cl_mul hW, show z % W + z / W * W = z by rw [Int.mul_comm (z / W)]; omega]
  rw [c1, c2]
  generalize z % W = s at *
  unfold cl ib
  have q1 : (s + 1 + (W - 1)) / W = 1 := by
    rw [show s + 1 + (W - 1) = s + 1 * W by omega, Int.add_mul_ediv_right _ _ (by omega), Int.ediv_eq_zero_of_lt h0 h1]; rfl
  rw [q1]
  by_cases c : s = 0
  · have q2 : (W - 1) / W = 0 := Int.ediv_eq_zero_of_lt (by omega) (by omega)
    rw [if_pos c, c, Int.zero_add, q2]; omega
  · have q2 : (s - 1) / W = 0 := Int.ediv_eq_zero_of_lt (by omega) (by omega)
    rw [if_neg c, show s + (W - 1) = s - 1 + 1 * W by omega, Int.add_mul_ediv_right _ _ (by omega), q2]; omega
theorem ev_of {W z : Int} (hW : W % 2 = 0) (h : z % W = 0) : z % 2 = 0 := by
  have e := Int.emod_add_mul_ediv z W
  rw [h, Int.zero_add] at e
  obtain ⟨k, rfl⟩ : ∃ k, W = 2 * k := ⟨W / 2, by omega⟩
  rw [Int.mul_assoc] at e
  generalize k * (z / (2 * k)) = m at e
  omega
theorem z_add {T z w : Int} (h : z % T = 0) (h' : w % T = 0) : (z + w) % T = 0 := by
  rw [Int.add_emod, h, h']; rfl
theorem z_neg {T z : Int} (h : z % T = 0) : (-z) % T = 0 := Int.emod_eq_zero_of_dvd ((Int.dvd_neg).mpr (Int.dvd_of_emod_eq_zero h))
/-- a walk on a ring of W by T points, lifted: it closes behind n double steps, a times round to the right and b times up -/
structure TOrb (n : Nat) (W T a b : Int) (e d : Int → Int) (X Y : Nat → Int) : Prop where
  pos : 0 < n
  hW : 2 ≤ W
  eW : W % 2 = 0
  hT : 2 ≤ T
  eT : T % 2 = 0
  he : ∀ y, e y = 1 ∨ e y = -1
  hd : ∀ x, d x = 1 ∨ d x = -1
  pe : ∀ y z, (y - z) % T = 0 → e y = e z
  pd : ∀ x z, (x - z) % W = 0 → d x = d z
  sx : ∀ i, X (i + 1) = X i + e (Y i)
  sy : ∀ i, Y (i + 1) = Y i + d (X (i + 1))
  cx : X n = X 0 + a * W
  cy : Y n = Y 0 + b * T
  dist : ∀ i k, i < n → k < n → (X i - X k) % W = 0 → (Y i - Y k) % T = 0 → i = k
section
variable {n : Nat} {W T a b : Int} {e d : Int → Int} {X Y : Nat → Int}
/-- seen with rows and columns exchanged -/
theorem TOrb.swap (o : TOrb n W T a b e d X Y) : TOrb n T W b a d e Y (fun i => X (i + 1)) := by
  have c1 : X (n + 1) = X 1 + a * W := by
    rw [o.sx n, o.sx 0, o.cx, o.pe (Y n) (Y 0) (by rw [o.cy, show Y 0 + b * T - Y 0 = b * T by omega, Int.mul_emod_left])]; omega
  refine ⟨o.pos, o.hT, o.eT, o.hW, o.eW, o.hd, o.he, o.pd, o.pe, o.sy, fun i => o.sx (i + 1), o.cy, c1, fun i k hi hk hy hx => ?_⟩
  refine o.dist i k hi hk ?_ hy
  rw [o.sx i, o.sx k, o.pe _ _ hy] at hx
  rwa [show X i + e (Y k) - (X k + e (Y k)) = X i - X k by omega] at hx
theorem TOrb.par (o : TOrb n W T a b e d X Y) (i : Nat) : (X i + Y i - (X 0 + Y 0)) % 2 = 0 := by
  induction i with
  | zero => omega
  | succ i ih => rw [o.sy, o.sx]; have := o.he (Y i); have := o.hd (X i + e (Y i)); omega
/-- the lower row of a column step -/
def lv (d : Int → Int) (X Y : Nat → Int) (k : Nat) : Int := if d (X (k + 1)) = 1 then Y k else Y (k + 1)
/-- what has been crossed on the way to t on a level, all rounds of the ring together -/
def hh (n : Nat) (W T : Int) (d : Int → Int) (X Y : Nat → Int) (t m : Int) : Int := sm n fun k => ib ((lv d X Y k - m) % T = 0) * d (X (k + 1)) * cl W (t - X (k + 1))
theorem sm_open (n : Nat) (f : Nat → Int) : sm n f = sm n (fun i => f (i + 1)) + f 0 - f n := by
  have h := sm_tele n f
  rw [sm_sub] at h
  omega
theorem hh_step (hW : 0 < W) (t m : Int) : hh n W T d X Y (t + 1) m - hh n W T d X Y t m = sm n fun k => ib ((lv d X Y k - m) % T = 0) * d (X (k + 1)) * ib ((t - X (k + 1)) % W = 0) := by
  unfold hh
  rw [← sm_sub]
  refine sm_congr fun k _ => ?_
  rw [← Int.mul_sub, show t + 1 - X (k + 1) = t - X (k + 1) + 1 by omega, cl_step hW]
theorem TOrb.x1 (o : TOrb n W T a b e d X Y) : X (n + 1) = X 1 + a * W := by
  rw [o.sx n, o.sx 0, o.cx, o.pe (Y n) (Y 0) (by rw [o.cy, show Y 0 + b * T - Y 0 = b * T by omega, Int.mul_emod_left])]; omega
/-- from a level to the next one, past a row -/
theorem TOrb.row (o : TOrb n W T a b e d X Y) (t r : Int) : hh n W T d X Y t r - hh n W T d X Y t (r - 1) = a * ib ((Y 0 - r) % T = 0) +
    sm n (fun k => ib ((Y (k + 1) - r) % T = 0) * (if e r = 1 then - ib ((t - X (k + 2)) % W = 0) else ib ((t - X (k + 1)) % W = 0))) := by
  have hW : 0 < W := by have := o.hW; omega
  have A : hh n W T d X Y t r - hh n W T d X Y t (r - 1) = sm n (fun k => ib ((Y k - r) % T = 0) * cl W (t - X (k + 1))) - sm n (fun k => ib ((Y (k + 1) - r) % T = 0) * cl W (t - X (k + 1))) := by
    unfold hh
    rw [← sm_sub, ← sm_sub]
    refine sm_congr fun k _ => ?_
    have sy := o.sy k
    unfold lv
    rcases o.hd (X (k + 1)) with q | q
    · rw [q] at sy
      rw [if_pos q, q, sy, show Y k + 1 - r = Y k - (r - 1) by omega, Int.mul_one, Int.mul_one]
    · rw [q] at sy
      rw [if_neg (by rw [q]; decide), q, show Y k - r = Y (k + 1) - (r - 1) by omega, Int.mul_neg_one, Int.mul_neg_one, Int.neg_mul, Int.neg_mul]
      omega
  have B := sm_open n fun k => ib ((Y k - r) % T = 0) * cl W (t - X (k + 1))
  have C : ib ((Y n - r) % T = 0) * cl W (t - X (n + 1)) = ib ((Y 0 - r) % T = 0) * cl W (t - X 1) - a * ib ((Y 0 - r) % T = 0) := by
    rw [o.x1, o.cy, show t - (X 1 + a * W) = t - X 1 + (-a) * W by rw [Int.neg_mul]; omega, cl_mul hW, show Y 0 + b * T - r = Y 0 - r + b * T by omega, Int.add_mul_emod_self_right, Int.mul_add, Int.mul_neg, Int.mul_comm a]
    omega
  rw [Nat.zero_add, C] at B
  have D : sm n (fun k => ib ((Y (k + 1) - r) % T = 0) * cl W (t - X (k + 1 + 1))) - sm n (fun k => ib ((Y (k + 1) - r) % T = 0) * cl W (t - X (k + 1))) =
      sm n (fun k => ib ((Y (k + 1) - r) % T = 0) * (if e r = 1 then - ib ((t - X (k + 2)) % W = 0) else ib ((t - X (k + 1)) % W = 0))) := by
    rw [← sm_sub]
    refine sm_congr fun k _ => ?_
    rw [← Int.mul_sub]
    by_cases c : (Y (k + 1) - r) % T = 0
    · congr 1
      have sx := o.sx (k + 1)
      rw [o.pe _ _ c] at sx
      rcases o.he r with q | q
      · rw [if_pos q]
        rw [q] at sx
        have := cl_step (z := t - X (k + 2)) hW
        rw [show t - X (k + 2) + 1 = t - X (k + 1) by have : X (k + 2) = X (k + 1) + 1 := sx; omega] at this
        show cl W (t - X (k + 2)) - _ = _
        omega
      · rw [if_neg (by rw [q]; decide)]
        rw [q] at sx
        have := cl_step (z := t - X (k + 1)) hW
        rw [show t - X (k + 1) + 1 = t - X (k + 2) by have : X (k + 2) = X (k + 1) + -1 := sx; omega] at this
        exact this
    · unfold ib
      rw [if_neg c, Int.zero_mul, Int.zero_mul]
  rw [A, B, ← D]
  omega
theorem TOrb.dist1 (o : TOrb n W T a b e d X Y) {i k : Nat} (hi : i < n) (hk : k < n) (hx : (X (i + 1) - X (k + 1)) % W = 0) (hy : (Y (i + 1) - Y (k + 1)) % T = 0) : i = k := by
  have h := o.swap.swap
  have y : (Y i - Y k) % T = 0 := by
    have s1 := o.sy i
    have s2 := o.sy k
    rw [o.pd _ _ hx] at s1
    rwa [show Y (i + 1) - Y (k + 1) = Y i - Y k by omega] at hy
  refine o.dist i k hi hk ?_ y
  have s1 := o.sx i
  have s2 := o.sx k
  rw [o.pe _ _ y] at s1
  rwa [show X (i + 1) - X (k + 1) = X i - X k by omega] at hx
theorem TOrb.dist2 (o : TOrb n W T a b e d X Y) {i k : Nat} (hi : i < n) (hk : k < n) (hx : (X (i + 1) - X (k + 1)) % W = 0) (hy : (Y i - Y k) % T = 0) : i = k := by
  refine o.dist i k hi hk ?_ hy
  have s1 := o.sx i
  have s2 := o.sx k
  rw [o.pe _ _ hy] at s1
  rwa [show X (i + 1) - X (k + 1) = X i - X k by omega] at hx
/-- a row is left and entered at points of two kinds -/
theorem TOrb.odd2 (o : TOrb n W T a b e d X Y) {i k : Nat} (hx : (X (i + 1) - X (k + 1)) % W = 0) (hy : (Y i - Y (k + 1)) % T = 0) : False := by
  have h1 := ev_of o.eW hx
  have h2 := ev_of o.eT hy
  have p1 := o.par i
  have p2 := o.par (k + 1)
  have s := o.sx i
  have := o.he (Y i)
  omega
theorem TOrb.only (o : TOrb n W T a b e d X Y) {j : Nat} (hj : j < n) {F : Nat → Int} (h : ∀ k, k < n → k ≠ j → F k = 0) : sm n F = F j := by
  have : sm n F = sm n (fun k => F j * ib (k = j)) := sm_congr fun k hk => by
    unfold ib
    by_cases c : k = j
    · rw [if_pos c, c, Int.mul_one]
    · rw [if_neg c, Int.mul_zero, h k hk c]
  have m : ∀ n', sm n' (fun k => F j * ib (k = j)) = F j * sm n' (fun k => ib (k = j)) := by
    intro n'
    induction n' with
    | zero => rw [sm, sm, Int.mul_zero]
    | succ n' ih => rw [sm, sm, ih, Int.mul_add]
  rw [this, m, ib_one hj, Int.mul_one]
theorem lv_up {k : Nat} (q : d (X (k + 1)) = 1) : lv d X Y k = Y k := if_pos q
theorem lv_dn {k : Nat} (q : d (X (k + 1)) = -1) : lv d X Y k = Y (k + 1) := if_neg (by rw [q]; decide)
theorem ib_t {p : Prop} [Decidable p] (h : p) : ib p = 1 := if_pos h
theorem ib_f {p : Prop} [Decidable p] (h : ¬ p) : ib p = 0 := if_neg h
/-- the only step that touches the point where step i comes in, seen from a level beside the row -/
theorem TOrb.at_in (o : TOrb n W T a b e d X Y) {i : Nat} (hi : i < n) {m : Int} (hm : m = Y (i + 1) ∨ m = Y (i + 1) - 1) :
    sm n (fun k => ib ((lv d X Y k - m) % T = 0) * d (X (k + 1)) * ib ((X (i + 1) - X (k + 1)) % W = 0)) = ib ((lv d X Y i - m) % T = 0) * d (X (i + 1)) := by
  rw [o.only hi fun k hk hne => ?_, ib_t (p := (X (i + 1) - X (i + 1)) % W = 0) (by rw [Int.sub_self]; exact Int.zero_emod W), Int.mul_one]
  by_cases cx : (X (i + 1) - X (k + 1)) % W = 0
  · rw [ib_f, Int.zero_mul, Int.zero_mul]
    intro cm
    have cx' : (X (k + 1) - X (i + 1)) % W = 0 := by have := z_neg cx; rwa [show -(X (i + 1) - X (k + 1)) = X (k + 1) - X (i + 1) by omega] at this
    have sy := o.sy k
    rcases o.hd (X (k + 1)) with q | q
    · rw [lv_up q] at cm
      rcases hm with rfl | rfl
      · exact o.odd2 cx' cm
      · refine hne (o.dist1 hk hi cx' ?_)
        rwa [show Y (k + 1) - Y (i + 1) = Y k - (Y (i + 1) - 1) by omega]
    · rw [lv_dn q] at cm
      rcases hm with rfl | rfl
      · exact hne (o.dist1 hk hi cx' cm)
      · refine o.odd2 cx' (k := i) (i := k) ?_
        rwa [show Y k - Y (i + 1) = Y (k + 1) - (Y (i + 1) - 1) by omega]
  · rw [ib_f cx, Int.mul_zero]
/-- and the point where step j goes out -/
theorem TOrb.at_out (o : TOrb n W T a b e d X Y) {j : Nat} (hj : j < n) {m : Int} (hm : m = Y j ∨ m = Y j - 1) :
    sm n (fun k => ib ((lv d X Y k - m) % T = 0) * d (X (k + 1)) * ib ((X (j + 1) - X (k + 1)) % W = 0)) = ib ((lv d X Y j - m) % T = 0) * d (X (j + 1)) := by
  rw [o.only hj fun k hk hne => ?_, ib_t (p := (X (j + 1) - X (j + 1)) % W = 0) (by rw [Int.sub_self]; exact Int.zero_emod W), Int.mul_one]
  by_cases cx : (X (j + 1) - X (k + 1)) % W = 0
  · rw [ib_f, Int.zero_mul, Int.zero_mul]
    intro cm
    have cx' : (X (k + 1) - X (j + 1)) % W = 0 := by have := z_neg cx; rwa [show -(X (j + 1) - X (k + 1)) = X (k + 1) - X (j + 1) by omega] at this
    have sy := o.sy k
    have neg : ∀ {z : Int}, z % T = 0 → (-z) % T = 0 := fun h => z_neg h
    rcases o.hd (X (k + 1)) with q | q
    · rw [lv_up q] at cm
      rcases hm with rfl | rfl
      · exact hne (o.dist2 hk hj cx' cm)
      · refine o.odd2 cx (k := k) (i := j) ?_
        have := neg cm
        rwa [show -(Y k - (Y j - 1)) = Y j - Y (k + 1) by omega] at this
    · rw [lv_dn q] at cm
      rcases hm with rfl | rfl
      · refine o.odd2 cx (k := k) (i := j) ?_
        have := neg cm
        rwa [show -(Y (k + 1) - Y j) = Y j - Y (k + 1) by omega] at this
      · refine hne (o.dist2 hk hj cx' ?_)
        rwa [show Y k - Y j = Y (k + 1) - (Y j - 1) by omega]
  · rw [ib_f cx, Int.mul_zero]
/-- past the row that step i comes into, at its column -/
theorem TOrb.past (o : TOrb n W T a b e d X Y) {i : Nat} (hi : i < n) : ∃ c : Int, hh n W T d X Y (X (i + 1)) (Y (i + 1)) - hh n W T d X Y (X (i + 1)) (Y (i + 1) - 1) = a * c + (if e (Y (i + 1)) = 1 then 0 else 1) := by
  refine ⟨ib ((Y 0 - Y (i + 1)) % T = 0), ?_⟩
  rw [o.row]
  congr 1
  by_cases q : e (Y (i + 1)) = 1
  · rw [if_pos q]
    refine (sm_congr fun k hk => ?_).trans (sm_zero n)
    rw [if_pos q]
    by_cases c : (Y (k + 1) - Y (i + 1)) % T = 0
    · rw [ib_f (p := (X (i + 1) - X (k + 2)) % W = 0), Int.neg_zero, Int.mul_zero]
      intro cx
      have h1 := ev_of o.eW cx
      have h2 := ev_of o.eT c
      have p1 := o.par (k + 1)
      have p2 := o.par (i + 1)
      have s := o.sx (k + 1)
      have := o.he (Y (k + 1))
      have e2 : X (k + 2) = X (k + 1) + e (Y (k + 1)) := s
      omega
    · rw [ib_f c, Int.zero_mul]
  · rw [if_neg q, sm_congr (g := fun k => ib ((Y (k + 1) - Y (i + 1)) % T = 0) * ib ((X (i + 1) - X (k + 1)) % W = 0)) fun k _ => by rw [if_neg q], o.only hi fun k hk hne => ?_]
    · rw [ib_t (p := (Y (i + 1) - Y (i + 1)) % T = 0) (by rw [Int.sub_self]; exact Int.zero_emod T), ib_t (p := (X (i + 1) - X (i + 1)) % W = 0) (by rw [Int.sub_self]; exact Int.zero_emod W)]; rfl
    · by_cases c : (Y (k + 1) - Y (i + 1)) % T = 0
      · rw [ib_f (p := (X (i + 1) - X (k + 1)) % W = 0), Int.mul_zero]
        intro cx
        have cx' : (X (k + 1) - X (i + 1)) % W = 0 := by have := z_neg cx; rwa [show -(X (i + 1) - X (k + 1)) = X (k + 1) - X (i + 1) by omega] at this
        exact hne (o.dist1 hk hi cx' c)
      · rw [ib_f c, Int.zero_mul]
/-- what lies on the left hand of a step -/
def lam (n : Nat) (W T : Int) (d : Int → Int) (X Y : Nat → Int) (i : Nat) : Int := hh n W T d X Y (X (i + 1)) (lv d X Y i) - (if d (X (i + 1)) = 1 then 0 else 1)
theorem not1 (o : TOrb n W T a b e d X Y) {z : Int} (h : z = 1 ∨ z = -1) : ¬ z % T = 0 := by
  intro c
  have := o.hT
  rcases h with rfl | rfl
  · rw [Int.emod_eq_of_lt (by omega) (by omega)] at c; omega
  · have := z_neg c
    rw [show -(-1 : Int) = 1 from rfl, Int.emod_eq_of_lt (by omega) (by omega)] at this; omega
theorem TOrb.lam_step (o : TOrb n W T a b e d X Y) {i : Nat} (hi : i + 1 < n) : ∃ c : Int, lam n W T d X Y (i + 1) - lam n W T d X Y i = a * c := by
  have hW : 0 < W := by have := o.hW; omega
  obtain ⟨c, hp⟩ := o.past (show i < n by omega)
  have sx : X (i + 2) = X (i + 1) + e (Y (i + 1)) := o.sx (i + 1)
  have sy : Y (i + 2) = Y (i + 1) + d (X (i + 2)) := o.sy (i + 1)
  have sy0 := o.sy i
  unfold lam
  show ∃ c, hh n W T d X Y (X (i + 2)) (lv d X Y (i + 1)) - (if d (X (i + 2)) = 1 then 0 else 1) - _ = _
  have st := fun t m => hh_step (n := n) (T := T) (d := d) (X := X) (Y := Y) hW t m
  have zT : ((0 : Int)) % T = 0 := Int.zero_emod T
  have nn : ∀ {x : Int}, d x = -1 → ¬ d x = 1 := fun h => by rw [h]; decide
  rcases o.he (Y (i + 1)) with qe | qe
  · rw [if_pos qe, Int.add_zero] at hp
    rw [qe] at sx
    rcases o.hd (X (i + 1)) with q | q <;> rcases o.hd (X (i + 2)) with q' | q'
    · have l1 : lv d X Y i = Y (i + 1) - 1 := by rw [lv_up q]; rw [q] at sy0; omega
      have l2 : lv d X Y (i + 1) = Y (i + 1) := lv_up q'
      have h := st (X (i + 1)) (Y (i + 1))
      rw [o.at_in (by omega) (.inl rfl), l1, ib_f (not1 o (.inr (by omega))), Int.zero_mul, ← sx] at h
      rw [l1, l2, if_pos q, if_pos q']
      exact ⟨c, by omega⟩
    · have l1 : lv d X Y i = Y (i + 1) - 1 := by rw [lv_up q]; rw [q] at sy0; omega
      have l2 : lv d X Y (i + 1) = Y (i + 1) - 1 := by rw [lv_dn q']; rw [q'] at sy; show Y (i + 2) = _; omega
      have h := st (X (i + 1)) (Y (i + 1) - 1)
      rw [o.at_in (by omega) (.inr rfl), l1, ib_t (by rw [Int.sub_self]; exact zT), q, ← sx] at h
      rw [l1, l2, if_pos q, if_neg (nn q')]
      exact ⟨0, by rw [Int.mul_zero]; omega⟩
    · have l1 : lv d X Y i = Y (i + 1) := lv_dn q
      have l2 : lv d X Y (i + 1) = Y (i + 1) := lv_up q'
      have h := st (X (i + 1)) (Y (i + 1))
      rw [o.at_in (by omega) (.inl rfl), l1, ib_t (by rw [Int.sub_self]; exact zT), q, ← sx] at h
      rw [l1, l2, if_neg (nn q), if_pos q']
      exact ⟨0, by rw [Int.mul_zero]; omega⟩
    · have l1 : lv d X Y i = Y (i + 1) := lv_dn q
      have l2 : lv d X Y (i + 1) = Y (i + 1) - 1 := by rw [lv_dn q']; rw [q'] at sy; show Y (i + 2) = _; omega
      have h := st (X (i + 1)) (Y (i + 1) - 1)
      rw [o.at_in (by omega) (.inr rfl), l1, ib_f (not1 o (.inl (by omega))), Int.zero_mul, ← sx] at h
      rw [l1, l2, if_neg (nn q), if_neg (nn q')]
      exact ⟨-c, by rw [Int.mul_neg]; omega⟩
  · rw [if_neg (show ¬ e (Y (i + 1)) = 1 by rw [qe]; decide)] at hp
    rw [qe] at sx
    have back : X (i + 2) + 1 = X (i + 1) := by omega
    rcases o.hd (X (i + 1)) with q | q <;> rcases o.hd (X (i + 2)) with q' | q'
    · have l1 : lv d X Y i = Y (i + 1) - 1 := by rw [lv_up q]; rw [q] at sy0; omega
      have l2 : lv d X Y (i + 1) = Y (i + 1) := lv_up q'
      have h := st (X (i + 2)) (Y (i + 1))
      rw [o.at_out hi (.inl rfl), l2, ib_t (by rw [Int.sub_self]; exact zT), show d (X (i + 1 + 1)) = 1 from q', back] at h
      rw [l1, l2, if_pos q, if_pos q']
      exact ⟨c, by omega⟩
    · have l1 : lv d X Y i = Y (i + 1) - 1 := by rw [lv_up q]; rw [q] at sy0; omega
      have l2 : lv d X Y (i + 1) = Y (i + 1) - 1 := by rw [lv_dn q']; rw [q'] at sy; show Y (i + 2) = _; omega
      have h := st (X (i + 2)) (Y (i + 1) - 1)
      rw [o.at_out hi (.inr rfl), l2, ib_t (by rw [Int.sub_self]; exact zT), show d (X (i + 1 + 1)) = -1 from q', back] at h
      rw [l1, l2, if_pos q, if_neg (nn q')]
      exact ⟨0, by rw [Int.mul_zero]; omega⟩
    · have l1 : lv d X Y i = Y (i + 1) := lv_dn q
      have l2 : lv d X Y (i + 1) = Y (i + 1) := lv_up q'
      have h := st (X (i + 2)) (Y (i + 1))
      rw [o.at_out hi (.inl rfl), l2, ib_t (by rw [Int.sub_self]; exact zT), show d (X (i + 1 + 1)) = 1 from q', back] at h
      rw [l1, l2, if_neg (nn q), if_pos q']
      exact ⟨0, by rw [Int.mul_zero]; omega⟩
    · have l1 : lv d X Y i = Y (i + 1) := lv_dn q
      have l2 : lv d X Y (i + 1) = Y (i + 1) - 1 := by rw [lv_dn q']; rw [q'] at sy; show Y (i + 2) = _; omega
      have h := st (X (i + 2)) (Y (i + 1) - 1)
      rw [o.at_out hi (.inr rfl), l2, ib_t (by rw [Int.sub_self]; exact zT), show d (X (i + 1 + 1)) = -1 from q', back] at h
      rw [l1, l2, if_neg (nn q), if_neg (nn q')]
      exact ⟨-c, by rw [Int.mul_neg]; omega⟩
theorem TOrb.lam_all (o : TOrb n W T a b e d X Y) : ∀ i, i < n → ∃ c : Int, lam n W T d X Y i - lam n W T d X Y 0 = a * c
  | 0, _ => ⟨0, by rw [Int.mul_zero]; omega⟩
  | i + 1, h => by
    obtain ⟨c, hc⟩ := o.lam_all i (by omega)
    obtain ⟨c', hc'⟩ := o.lam_step h
    exact ⟨c + c', by rw [Int.mul_add]; omega⟩
/-- a level is crossed b times upwards, all in all -/
theorem TOrb.net (o : TOrb n W T a b e d X Y) (m : Int) : sm n (fun k => ib ((lv d X Y k - m) % T = 0) * d (X (k + 1))) = b := by
  have hT : 0 < T := by have := o.hT; omega
  have h := sm_tele n fun k => cl T (Y k - m)
  rw [o.cy, show Y 0 + b * T - m = Y 0 - m + b * T by omega, cl_mul hT] at h
  rw [sm_congr (g := fun k => cl T (Y (k + 1) - m) - cl T (Y k - m)) fun k _ => ?_, h]
  · omega
  · have sy := o.sy k
    rcases o.hd (X (k + 1)) with q | q
    · rw [lv_up q, q, Int.mul_one, ← cl_step hT]
      rw [q] at sy
      rw [sy, show Y k + 1 - m = Y k - m + 1 by omega]
    · rw [lv_dn q, q, Int.mul_neg_one, ← cl_step hT]
      rw [q] at sy
      rw [show Y (k + 1) - m + 1 = Y k - m by omega]
      omega
theorem sm_mul (n : Nat) (f : Nat → Int) (c : Int) : sm n (fun k => f k * c) = sm n f * c := by
  induction n with
  | zero => rw [sm, sm, Int.zero_mul]
  | succ n ih => rw [sm, sm, ih, Int.add_mul]
theorem TOrb.shift (o : TOrb n W T a b e d X Y) (t m j : Int) : hh n W T d X Y (t + j * W) m = hh n W T d X Y t m + b * j := by
  have hW : 0 < W := by have := o.hW; omega
  rw [← o.net m, ← sm_mul]
  unfold hh
  rw [← sm_add]
  refine sm_congr fun k _ => ?_
  rw [show t + j * W - X (k + 1) = t - X (k + 1) + j * W by omega, cl_mul hW, Int.mul_add]
theorem hh_mod {t m m' : Int} (h : (m - m') % T = 0) : hh n W T d X Y t m = hh n W T d X Y t m' := by
  unfold hh
  refine sm_congr fun k _ => ?_
  have : ((lv d X Y k - m) % T = 0) ↔ ((lv d X Y k - m') % T = 0) := by
    constructor
    · intro z
      have := z_add z h
      rwa [show lv d X Y k - m + (m - m') = lv d X Y k - m' by omega] at this
    · intro z
      have := z_add z (z_neg h)
      rwa [show lv d X Y k - m' + -(m - m') = lv d X Y k - m by omega] at this
  rw [ib_iff this]
/-- a class that a number from two on goes into is nought -/
theorem TOrb.prim (o : TOrb n W T a b e d X Y) {g : Int} (hg : 2 ≤ g) (ha : a % g = 0) (hb : b % g = 0) : b = 0 := by
  have hW : 0 < W := by have := o.hW; omega
  have no1 : ∀ {z : Int}, z % g = 0 → (z + 1) % g = 0 → False := fun {z} h1 h2 => by
    have := z_add h2 (z_neg h1)
    rw [show z + 1 + -z = 1 by omega, Int.emod_eq_of_lt (by omega) (by omega)] at this
    omega
  have mulg : ∀ {z c : Int}, z % g = 0 → (z * c) % g = 0 := fun {z c} h => Int.emod_eq_zero_of_dvd (Int.dvd_trans (Int.dvd_of_emod_eq_zero h) (Int.dvd_mul_right z c))
  generalize hm : lv d X Y 0 = m
  generalize hL : lam n W T d X Y 0 = L
  -- what a step on the level says
  have key : ∀ (t : Int) (k : Nat), k < n → (lv d X Y k - m) % T = 0 → (t - X (k + 1)) % W = 0 →
      hh n W T d X Y (t + 1) m - hh n W T d X Y t m = d (X (k + 1)) ∧ (hh n W T d X Y t m - (if d (X (k + 1)) = 1 then 0 else 1) - L) % g = 0 := fun t k hk cm cx => by
    constructor
    · rw [hh_step hW, o.only hk fun k' hk' hne => ?_, ib_t cm, ib_t cx, Int.mul_one, Int.one_mul]
      by_cases c1 : (lv d X Y k' - m) % T = 0
      · by_cases c2 : (t - X (k' + 1)) % W = 0
        · exfalso
          have cx' : (X (k' + 1) - X (k + 1)) % W = 0 := by
            have := z_add cx (z_neg c2)
            rwa [show t - X (k + 1) + -(t - X (k' + 1)) = X (k' + 1) - X (k + 1) by omega] at this
          have cl' : (lv d X Y k' - lv d X Y k) % T = 0 := by
            have := z_add c1 (z_neg cm)
            rwa [show lv d X Y k' - m + -(lv d X Y k - m) = lv d X Y k' - lv d X Y k by omega] at this
          have same := o.pd _ _ cx'
          rcases o.hd (X (k + 1)) with q | q
          · rw [lv_up q, lv_up (same.trans q)] at cl'
            exact hne (o.dist2 hk' hk cx' cl')
          · rw [lv_dn q, lv_dn (same.trans q)] at cl'
            exact hne (o.dist1 hk' hk cx' cl')
        · rw [ib_f c2, Int.mul_zero]
      · rw [ib_f c1, Int.zero_mul, Int.zero_mul]
    · obtain ⟨c, hc⟩ := o.lam_all k hk
      have ej := Int.emod_add_mul_ediv (t - X (k + 1)) W
      rw [cx, Int.zero_add] at ej
      have et : t = X (k + 1) + (t - X (k + 1)) / W * W := by rw [Int.mul_comm]; omega
      rw [et, o.shift, hh_mod (m' := lv d X Y k) (by have := z_neg cm; rwa [show -(lv d X Y k - m) = m - lv d X Y k by omega] at this)]
      unfold lam at hc hL
      rw [hL] at hc
      have := z_add (mulg (c := c) ha) (mulg (c := (t - X (k + 1)) / W) hb)
      rw [← hc] at this
      refine (congrArg (· % g) ?_).trans this
      omega
  -- two values
  have two : ∀ s : Nat, ∃ H0 : Int, (H0 - L) % g = 0 ∧ (hh n W T d X Y (X 1) m = H0 ∨ hh n W T d X Y (X 1) m = H0 + 1) ∧ (hh n W T d X Y (X 1 + (s : Nat)) m = H0 ∨ hh n W T d X Y (X 1 + (s : Nat)) m = H0 + 1) := fun s => by
    induction s with
    | zero =>
      have k0 := (key (X 1) 0 o.pos (by rw [hm, Int.sub_self]; exact Int.zero_emod T) (by show (X 1 - X (0 + 1)) % W = 0; rw [Nat.zero_add, Int.sub_self]; exact Int.zero_emod W)).2
      rw [show X 1 + ((0 : Nat) : Int) = X 1 by omega]
      rcases o.hd (X (0 + 1)) with q | q
      · rw [if_pos q] at k0
        exact ⟨_, by rwa [show hh n W T d X Y (X 1) m - 0 - L = hh n W T d X Y (X 1) m - L by omega] at k0, .inl rfl, .inl rfl⟩
      · rw [if_neg (by rw [q]; decide)] at k0
        exact ⟨_, k0, .inr (by omega), .inr (by omega)⟩
    | succ s ih =>
      obtain ⟨H0, h1, h2, h3⟩ := ih
      refine ⟨H0, h1, h2, ?_⟩
      rw [show X 1 + ((s + 1 : Nat) : Int) = X 1 + (s : Nat) + 1 by omega]
      generalize X 1 + ((s : Nat) : Int) = t at h3 ⊢
      by_cases c : ∃ k, k < n ∧ (lv d X Y k - m) % T = 0 ∧ (t - X (k + 1)) % W = 0
      · obtain ⟨k, hk, c1, c2⟩ := c
        obtain ⟨k1, k2⟩ := key t k hk c1 c2
        rcases o.hd (X (k + 1)) with q | q
        · rw [q] at k1
          rw [if_pos q, Int.sub_zero] at k2
          rcases h3 with z | z
          · exact .inr (by omega)
          · rw [z, show H0 + 1 - L = H0 - L + 1 by omega] at k2
            exact (no1 h1 k2).elim
        · rw [q] at k1
          rw [if_neg (by rw [q]; decide)] at k2
          rcases h3 with z | z
          · rw [z] at k2
            exact (no1 k2 (by rwa [show H0 - 1 - L + 1 = H0 - L by omega])).elim
          · exact .inl (by omega)
      · have : hh n W T d X Y (t + 1) m - hh n W T d X Y t m = 0 := by
          rw [hh_step hW]
          refine (sm_congr fun k hk => ?_).trans (sm_zero n)
          by_cases c1 : (lv d X Y k - m) % T = 0
          · by_cases c2 : (t - X (k + 1)) % W = 0
            · exact absurd ⟨k, hk, c1, c2⟩ c
            · rw [ib_f c2, Int.mul_zero]
          · rw [ib_f c1, Int.zero_mul, Int.zero_mul]
        rcases h3 with z | z
        · exact .inl (by omega)
        · exact .inr (by omega)
  obtain ⟨H0, h1, h2, h3⟩ := two (2 * W).toNat
  rw [show (((2 * W).toNat : Nat) : Int) = 2 * W by omega, o.shift] at h3
  omega
end
end NR

set_option Elab.async false
set_option linter.all false
set_option maxHeartbeats 1000000
namespace NR
section
variable {n n' : Nat} {W T a b a' b' : Int} {e d : Int → Int} {X Y X' Y' : Nat → Int}
/-- two walks of one ring that have no point in common; both start at points of one kind -/
structure Two (n n' : Nat) (W T a b a' b' : Int) (e d : Int → Int) (X Y X' Y' : Nat → Int) : Prop where
  one : TOrb n W T a b e d X Y
  oth : TOrb n' W T a' b' e d X' Y'
  par : (X 0 + Y 0 - (X' 0 + Y' 0)) % 2 = 0
  dis : ∀ i k, (X i - X' k) % W = 0 → (Y i - Y' k) % T = 0 → False
/-- an odd point is no even one -/
theorem Two.eo (o : Two n n' W T a b a' b' e d X Y X' Y') {i k : Nat} (hx : (X (i + 1) - X' (k + 1)) % W = 0) (hy : (Y i - Y' (k + 1)) % T = 0) : False := by
  have h1 := ev_of o.one.eW hx
  have h2 := ev_of o.one.eT hy
  have p1 := o.one.par i
  have p2 := o.oth.par (k + 1)
  have p := o.par
  have s := o.one.sx i
  have := o.one.he (Y i)
  omega
theorem Two.oe (o : Two n n' W T a b a' b' e d X Y X' Y') {i k : Nat} (hx : (X (i + 1) - X' (k + 1)) % W = 0) (hy : (Y (i + 1) - Y' k) % T = 0) : False := by
  have h1 := ev_of o.one.eW hx
  have h2 := ev_of o.one.eT hy
  have p1 := o.one.par (i + 1)
  have p2 := o.oth.par k
  have p := o.par
  have s := o.oth.sx k
  have := o.one.he (Y' k)
  omega
/-- nor are odd points the same -/
theorem Two.oo (o : Two n n' W T a b a' b' e d X Y X' Y') {i k : Nat} (hx : (X (i + 1) - X' (k + 1)) % W = 0) (hy : (Y i - Y' k) % T = 0) : False := by
  refine o.dis i k ?_ hy
  have s1 := o.one.sx i
  have s2 := o.oth.sx k
  rw [o.one.pe _ _ hy] at s1
  rwa [show X (i + 1) - X' (k + 1) = X i - X' k by omega] at hx
/-- nothing of the other walk touches a point of the one -/
theorem Two.in_ (o : Two n n' W T a b a' b' e d X Y X' Y') (i : Nat) {m : Int} (hm : m = Y (i + 1) ∨ m = Y (i + 1) - 1) :
    sm n' (fun k => ib ((lv d X' Y' k - m) % T = 0) * d (X' (k + 1)) * ib ((X (i + 1) - X' (k + 1)) % W = 0)) = 0 := by
  refine (sm_congr fun k hk => ?_).trans (sm_zero n')
  by_cases cx : (X (i + 1) - X' (k + 1)) % W = 0
  · rw [ib_f (p := (lv d X' Y' k - m) % T = 0), Int.zero_mul, Int.zero_mul]
    intro cm
    have cm := z_neg cm
    have sy := o.oth.sy k
    rcases o.one.hd (X' (k + 1)) with q | q
    · rw [lv_up q] at cm
      rw [q] at sy
      rcases hm with rfl | rfl
      · exact o.oe cx (by rwa [show -(Y' k - Y (i + 1)) = Y (i + 1) - Y' k by omega] at cm)
      · exact o.dis (i + 1) (k + 1) cx (by rwa [show -(Y' k - (Y (i + 1) - 1)) = Y (i + 1) - Y' (k + 1) by omega] at cm)
    · rw [lv_dn q] at cm
      rw [q] at sy
      rcases hm with rfl | rfl
      · exact o.dis (i + 1) (k + 1) cx (by rwa [show -(Y' (k + 1) - Y (i + 1)) = Y (i + 1) - Y' (k + 1) by omega] at cm)
      · exact o.oe cx (by rwa [show -(Y' (k + 1) - (Y (i + 1) - 1)) = Y (i + 1) - Y' k by omega] at cm)
  · rw [ib_f cx, Int.mul_zero]
theorem Two.out (o : Two n n' W T a b a' b' e d X Y X' Y') (j : Nat) {m : Int} (hm : m = Y j ∨ m = Y j - 1) :
    sm n' (fun k => ib ((lv d X' Y' k - m) % T = 0) * d (X' (k + 1)) * ib ((X (j + 1) - X' (k + 1)) % W = 0)) = 0 := by
  refine (sm_congr fun k hk => ?_).trans (sm_zero n')
  by_cases cx : (X (j + 1) - X' (k + 1)) % W = 0
  · rw [ib_f (p := (lv d X' Y' k - m) % T = 0), Int.zero_mul, Int.zero_mul]
    intro cm
    have cm := z_neg cm
    have sy := o.oth.sy k
    rcases o.one.hd (X' (k + 1)) with q | q
    · rw [lv_up q] at cm
      rw [q] at sy
      rcases hm with rfl | rfl
      · exact o.oo cx (by rwa [show -(Y' k - Y j) = Y j - Y' k by omega] at cm)
      · exact o.eo cx (by rwa [show -(Y' k - (Y j - 1)) = Y j - Y' (k + 1) by omega] at cm)
    · rw [lv_dn q] at cm
      rw [q] at sy
      rcases hm with rfl | rfl
      · exact o.eo cx (by rwa [show -(Y' (k + 1) - Y j) = Y j - Y' (k + 1) by omega] at cm)
      · exact o.oo cx (by rwa [show -(Y' (k + 1) - (Y j - 1)) = Y j - Y' k by omega] at cm)
  · rw [ib_f cx, Int.mul_zero]
theorem Two.past (o : Two n n' W T a b a' b' e d X Y X' Y') (i : Nat) : hh n' W T d X' Y' (X (i + 1)) (Y (i + 1)) - hh n' W T d X' Y' (X (i + 1)) (Y (i + 1) - 1) = a' * ib ((Y' 0 - Y (i + 1)) % T = 0) := by
  rw [o.oth.row, (sm_congr fun k hk => ?_ : sm n' _ = sm n' fun _ => 0), sm_zero, Int.add_zero]
  by_cases c : (Y' (k + 1) - Y (i + 1)) % T = 0
  · have c' : (Y (i + 1) - Y' (k + 1)) % T = 0 := by have := z_neg c; rwa [show -(Y' (k + 1) - Y (i + 1)) = Y (i + 1) - Y' (k + 1) by omega] at this
    by_cases q : e (Y (i + 1)) = 1
    · rw [if_pos q, ib_f (p := (X (i + 1) - X' (k + 2)) % W = 0), Int.neg_zero, Int.mul_zero]
      exact fun cx => o.oe (k := k + 1) cx c'
    · rw [if_neg q, ib_f (p := (X (i + 1) - X' (k + 1)) % W = 0), Int.mul_zero]
      exact fun cx => o.dis (i + 1) (k + 1) cx c'
  · rw [ib_f c, Int.zero_mul]
def psi (T y m : Int) : Int := - cl T (y - m)
theorem psi_step {T y r : Int} (hT : 0 < T) : psi T y r - psi T y (r - 1) = ib ((y - r) % T = 0) := by
  unfold psi
  rw [← cl_step hT, show y - (r - 1) = y - r + 1 by omega]
  omega
def qq (n' : Nat) (W T a' : Int) (d : Int → Int) (X Y X' Y' : Nat → Int) (i : Nat) : Int := hh n' W T d X' Y' (X (i + 1)) (lv d X Y i) - a' * psi T (Y' 0) (lv d X Y i)
theorem TOrb.lv2 (o : TOrb n W T a b e d X Y) (i : Nat) : (lv d X Y i = Y (i + 1) ∨ lv d X Y i = Y (i + 1) - 1) ∧ (lv d X Y i = Y i ∨ lv d X Y i = Y i - 1) := by
  have sy := o.sy i
  rcases o.hd (X (i + 1)) with q | q
  · rw [lv_up q]; rw [q] at sy; omega
  · rw [lv_dn q]; rw [q] at sy; omega
theorem Two.step (o : Two n n' W T a b a' b' e d X Y X' Y') (i : Nat) : qq n' W T a' d X Y X' Y' (i + 1) = qq n' W T a' d X Y X' Y' i := by
  have hW : 0 < W := by have := o.one.hW; omega
  have hT : 0 < T := by have := o.one.hT; omega
  have sx : X (i + 2) = X (i + 1) + e (Y (i + 1)) := o.one.sx (i + 1)
  have pa := o.past i
  have ps := psi_step (y := Y' 0) (r := Y (i + 1)) hT
  have l1 := (o.one.lv2 i).1
  have l2 := (o.one.lv2 (i + 1)).2
  have mv : hh n' W T d X' Y' (X (i + 2)) (lv d X Y (i + 1)) = hh n' W T d X' Y' (X (i + 1)) (lv d X Y (i + 1)) := by
    rcases o.one.he (Y (i + 1)) with q | q
    · rw [q] at sx
      have h := hh_step (n := n') (T := T) (d := d) (X := X') (Y := Y') hW (X (i + 1)) (lv d X Y (i + 1))
      rw [o.in_ i l2, ← sx] at h
      omega
    · rw [q] at sx
      have h := hh_step (n := n') (T := T) (d := d) (X := X') (Y := Y') hW (X (i + 2)) (lv d X Y (i + 1))
      rw [o.out (i + 1) l2, show X (i + 2) + 1 = X (i + 1) by omega] at h
      omega
  have eqv : hh n' W T d X' Y' (X (i + 1)) (Y (i + 1)) - a' * psi T (Y' 0) (Y (i + 1)) = hh n' W T d X' Y' (X (i + 1)) (Y (i + 1) - 1) - a' * psi T (Y' 0) (Y (i + 1) - 1) := by
    rw [← ps, Int.mul_sub] at pa
    omega
  unfold qq
  show hh n' W T d X' Y' (X (i + 2)) (lv d X Y (i + 1)) - _ = _
  rw [mv]
  rcases l1 with l1 | l1 <;> rcases l2 with l2 | l2 <;> rw [l1, l2]
  · exact eqv.symm
  · exact eqv
/-- two walks without a common point: their classes are in proportion -/
theorem Two.class (o : Two n n' W T a b a' b' e d X Y X' Y') : a * b' = b * a' := by
  have hT : 0 < T := by have := o.one.hT; omega
  have all : ∀ i, qq n' W T a' d X Y X' Y' i = qq n' W T a' d X Y X' Y' 0 := fun i => by
    induction i with
    | zero => rfl
    | succ i ih => rw [o.step, ih]
  have h := all n
  unfold qq at h
  have dn : d (X (n + 1)) = d (X 1) := o.one.pd _ _ (by rw [o.one.x1, show X 1 + a * W - X 1 = a * W by omega, Int.mul_emod_left])
  have ln : lv d X Y n = lv d X Y 0 + b * T := by
    unfold lv
    rw [dn, show X (0 + 1) = X 1 from rfl]
    by_cases q : d (X 1) = 1
    · rw [if_pos q, if_pos q, o.one.cy]
    · rw [if_neg q, if_neg q, o.one.sy n, o.one.sy 0, dn, o.one.cy, show X (0 + 1) = X 1 from rfl]; omega
  rw [ln, o.one.x1, o.oth.shift, hh_mod (m := lv d X Y 0 + b * T) (m' := lv d X Y 0) (by rw [show lv d X Y 0 + b * T - lv d X Y 0 = b * T by omega, Int.mul_emod_left]), show X (0 + 1) = X 1 from rfl] at h
  have ps : psi T (Y' 0) (lv d X Y 0 + b * T) = psi T (Y' 0) (lv d X Y 0) + b := by
    unfold psi
    rw [show Y' 0 - (lv d X Y 0 + b * T) = Y' 0 - lv d X Y 0 + (-b) * T by rw [Int.neg_mul]; omega, cl_mul hT]
    omega
  rw [ps, Int.mul_add] at h
  rw [Int.mul_comm a b', Int.mul_comm b a']
  omega
/-- classes in proportion, each without a common factor -/
theorem same_class {a b a' b' : Int} (h : a * b' = b * a') (g : Int.gcd a b = 1) (g' : Int.gcd a' b' = 1) : (a' = a ∧ b' = b) ∨ (a' = -a ∧ b' = -b) := by
  have hn : a.natAbs * b'.natAbs = b.natAbs * a'.natAbs := by rw [← Int.natAbs_mul, ← Int.natAbs_mul, h]
  have c1 : Nat.Coprime a.natAbs b.natAbs := g
  have c2 : Nat.Coprime a'.natAbs b'.natAbs := g'
  have d1 : a.natAbs ∣ a'.natAbs := c1.dvd_of_dvd_mul_left (by rw [← hn]; exact Nat.dvd_mul_right _ _)
  have d2 : a'.natAbs ∣ a.natAbs := c2.dvd_of_dvd_mul_right (by rw [hn]; exact Nat.dvd_mul_left _ _)
  have d3 : b.natAbs ∣ b'.natAbs := c1.symm.dvd_of_dvd_mul_left (by rw [hn]; exact Nat.dvd_mul_right _ _)
  have d4 : b'.natAbs ∣ b.natAbs := c2.symm.dvd_of_dvd_mul_right (by rw [← hn]; exact Nat.dvd_mul_left _ _)
  have e1 := Nat.dvd_antisymm d1 d2
  have e2 := Nat.dvd_antisymm d3 d4
  have s1 : a' = a ∨ a' = -a := by omega
  have s2 : b' = b ∨ b' = -b := by omega
  rcases s1 with rfl | rfl <;> rcases s2 with rfl | rfl
  · exact .inl ⟨rfl, rfl⟩
  · rw [Int.mul_neg, Int.mul_comm] at h
    have : b * a' = 0 := by omega
    rcases Int.mul_eq_zero.mp this with z | z
    · exact .inl ⟨rfl, by omega⟩
    · exact .inr ⟨by omega, rfl⟩
  · rw [Int.mul_neg, Int.mul_comm] at h
    have : b' * a = 0 := by omega
    rcases Int.mul_eq_zero.mp this with z | z
    · exact .inr ⟨rfl, by omega⟩
    · exact .inl ⟨by omega, rfl⟩
  · exact .inr ⟨rfl, rfl⟩
theorem TOrb.one_factor (o : TOrb n W T a b e d X Y) (h : ¬ (a = 0 ∧ b = 0)) : Int.gcd a b = 1 := by
  have da := Int.gcd_dvd_left a b
  have db := Int.gcd_dvd_right a b
  by_cases g2 : 2 ≤ Int.gcd a b
  · have hb := o.prim (g := (Int.gcd a b : Int)) (by omega) (Int.emod_eq_zero_of_dvd da) (Int.emod_eq_zero_of_dvd db)
    have ha := o.swap.prim (g := (Int.gcd a b : Int)) (by omega) (Int.emod_eq_zero_of_dvd db) (Int.emod_eq_zero_of_dvd da)
    exact absurd ⟨ha, hb⟩ h
  · by_cases g0 : Int.gcd a b = 0
    · exact absurd (Int.gcd_eq_zero_iff.mp g0) h
    · omega
end
end NR

set_option Elab.async false
set_option maxHeartbeats 4000000
set_option linter.all false
set_option maxRecDepth 100000
namespace My
open PySem PySem.Spec PyProof.Rows L2
def top (i : Nat) : Stmt := PySem.Challenge.pw_sashiko_k36_whole_rounds_go_alike.main.body.getD i (.Pass ⟨0, 0, 0, 0⟩)
abbrev s_isnumber : Stmt := (top 8)
abbrev s_isbelow : Stmt := (top 9)
abbrev s_isbit : Stmt := (top 10)
abbrev s_allbits : Stmt := (top 11)
abbrev s_isside : Stmt := (top 12)
abbrev s_isringside : Stmt := (top 16)
abbrev s_BoardInit : Stmt := (inClass (top 14) 0)
abbrev s_RingInit : Stmt := (inClass (top 17) 0)
abbrev s_Ringwide : Stmt := (inClass (top 14) 1)
abbrev s_Ringtall : Stmt := (inClass (top 14) 2)
abbrev s_Ringbitsalong : Stmt := (inClass (top 14) 5)
abbrev s_Ringbit : Stmt := (inClass (top 14) 6)
abbrev s_Ringstitched : Stmt := (inClass (top 14) 7)
abbrev s_walk : Stmt := (top 18)
abbrev s_ringrounds : Stmt := (top 19)
abbrev s_Lring : Stmt := (top 21)
abbrev s_Lbits : Stmt := (top 22)
abbrev s_Lrow : Stmt := (top 23)
abbrev s_Lloop : Stmt := (top 24)
abbrev s_Ldraws : Stmt := (top 25)
abbrev s_Lcommon : Stmt := (top 26)
abbrev s_law : Stmt := (top 27)
theorem sc_isnumber : FnScope ["value"] ["value"] (defScope s_isnumber) := ⟨rfl, rfl, rfl, by decide +kernel, rfl, by decide +kernel, by decide +kernel⟩
theorem sc_isbelow : FnScope ["value", "bound"] ["value", "bound"] (defScope s_isbelow) := ⟨rfl, rfl, rfl, by decide +kernel, rfl, by decide +kernel, by decide +kernel⟩
theorem sc_isbit : FnScope ["value"] ["value"] (defScope s_isbit) := ⟨rfl, rfl, rfl, by decide +kernel, rfl, by decide +kernel, by decide +kernel⟩
theorem sc_allbits : FnScope ["values"] ["values"] (defScope s_allbits) := ⟨rfl, rfl, rfl, by decide +kernel, rfl, by decide +kernel, by decide +kernel⟩
theorem sc_isside : FnScope ["count"] ["count"] (defScope s_isside) := ⟨rfl, rfl, rfl, by decide +kernel, rfl, by decide +kernel, by decide +kernel⟩
theorem sc_isringside : FnScope ["count"] ["count"] (defScope s_isringside) := ⟨rfl, rfl, rfl, by decide +kernel, rfl, by decide +kernel, by decide +kernel⟩
theorem sc_BoardInit : FnScope ["self", "wide", "tall", "cols", "rows"] ["self", "wide", "tall", "cols", "rows"] (defScope s_BoardInit) := ⟨rfl, rfl, rfl, by decide +kernel, rfl, by decide +kernel, by decide +kernel⟩
theorem sc_RingInit : FnScope ["self", "cols", "rows"] ["self", "cols", "rows"] (defScope s_RingInit) := ⟨rfl, rfl, rfl, by decide +kernel, rfl, by decide +kernel, by decide +kernel⟩
theorem sc_Ringwide : FnScope ["self"] ["self"] (defScope s_Ringwide) := ⟨rfl, rfl, rfl, by decide +kernel, rfl, by decide +kernel, by decide +kernel⟩
theorem sc_Ringtall : FnScope ["self"] ["self"] (defScope s_Ringtall) := ⟨rfl, rfl, rfl, by decide +kernel, rfl, by decide +kernel, by decide +kernel⟩
theorem sc_Ringbitsalong : FnScope ["self", "way"] ["self", "way"] (defScope s_Ringbitsalong) := ⟨rfl, rfl, rfl, by decide +kernel, rfl, by decide +kernel, by decide +kernel⟩
theorem sc_Ringbit : FnScope ["self", "way", "k", "bits"] ["self", "way", "k"] (defScope s_Ringbit) := ⟨rfl, rfl, rfl, by decide +kernel, rfl, by decide +kernel, by decide +kernel⟩
theorem sc_Ringstitched : FnScope ["self", "way", "k", "step", "line_bit", "steps"] ["self", "way", "k", "step"] (defScope s_Ringstitched) := ⟨rfl, rfl, rfl, by decide +kernel, rfl, by decide +kernel, by decide +kernel⟩
theorem sc_walk : FnScope ["ring", "start", "points", "right", "up", "here", "across", "corner", "upward"] ["ring", "start"] (defScope s_walk) := ⟨rfl, rfl, rfl, by decide +kernel, rfl, by decide +kernel, by decide +kernel⟩
theorem sc_ringrounds : FnScope ["ring", "found", "seen", "x", "y", "told", "point"] ["ring"] (defScope s_ringrounds) := ⟨rfl, rfl, rfl, by decide +kernel, rfl, by decide +kernel, by decide +kernel⟩
theorem sc_Lring : FnScope ["_law_loop_here"] ["_law_loop_here"] (defScope s_Lring) := ⟨rfl, rfl, rfl, by decide +kernel, rfl, by decide +kernel, by decide +kernel⟩
theorem sc_Lbits : FnScope ["_law_number", "_law_many", "_law_row_here", "_law_k"] ["_law_number", "_law_many"] (defScope s_Lbits) := ⟨rfl, rfl, rfl, by decide +kernel, rfl, by decide +kernel, by decide +kernel⟩
theorem sc_Lrow : FnScope ["_law_some", "_law_many", "_law_raw", "_law_row_here"] ["_law_some", "_law_many"] (defScope s_Lrow) := ⟨rfl, rfl, rfl, by decide +kernel, rfl, by decide +kernel, by decide +kernel⟩
theorem sc_Lloop : FnScope ["_law_some", "_law_wide", "_law_tall"] ["_law_some"] (defScope s_Lloop) := ⟨rfl, rfl, rfl, by decide +kernel, rfl, by decide +kernel, by decide +kernel⟩
theorem sc_Ldraws : FnScope ["_law_script", "_law_many", "_law_rows", "_law_mix", "_law_cell", "_law_rest"] ["_law_script", "_law_many"] (defScope s_Ldraws) := ⟨rfl, rfl, rfl, by decide +kernel, rfl, by decide +kernel, by decide +kernel⟩
theorem sc_Lcommon : FnScope ["_law_one", "_law_other"] ["_law_one", "_law_other"] (defScope s_Lcommon) := ⟨rfl, rfl, rfl, by decide +kernel, rfl, by decide +kernel, by decide +kernel⟩
theorem sc_law : FnScope ["_law_script", "_law_ring_here", "_law_ways", "_law_right", "_law_up"] ["_law_script"] (defScope s_law) := ⟨rfl, rfl, rfl, by decide +kernel, rfl, by decide +kernel, by decide +kernel⟩
set_option genInjectivity false in
set_option genSizeOf false in
structure Ad where
  a_Board : Addr
  a_Ring : Addr
  f_isnumber : Addr
  d_isnumber : FuncData
  f_isbelow : Addr
  d_isbelow : FuncData
  f_isbit : Addr
  d_isbit : FuncData
  f_allbits : Addr
  d_allbits : FuncData
  f_isside : Addr
  d_isside : FuncData
  f_isringside : Addr
  d_isringside : FuncData
  f_BoardInit : Addr
  d_BoardInit : FuncData
  f_RingInit : Addr
  d_RingInit : FuncData
  f_Ringwide : Addr
  d_Ringwide : FuncData
  f_Ringtall : Addr
  d_Ringtall : FuncData
  f_Ringbitsalong : Addr
  d_Ringbitsalong : FuncData
  f_Ringbit : Addr
  d_Ringbit : FuncData
  f_Ringstitched : Addr
  d_Ringstitched : FuncData
  f_walk : Addr
  d_walk : FuncData
  f_ringrounds : Addr
  d_ringrounds : FuncData
  f_Lring : Addr
  d_Lring : FuncData
  f_Lbits : Addr
  d_Lbits : FuncData
  f_Lrow : Addr
  d_Lrow : FuncData
  f_Lloop : Addr
  d_Lloop : FuncData
  f_Ldraws : Addr
  d_Ldraws : FuncData
  f_Lcommon : Addr
  d_Lcommon : FuncData
  f_law : Addr
  d_law : FuncData
  a_BadSize : Addr
  a_BadBit : Addr
  a_NoLine : Addr
  a_NoStep : Addr
  tk_LONGEST_SIDE : Tok
structure Txt (K : PySem.W.Frag) (mg : Str → Option Value) (t : Ad) : Prop where
  mg_Board : mg "Board" = some (.ref t.a_Board)
  mg_Ring : mg "Ring" = some (.ref t.a_Ring)
  cl_Ring : Cls K t.a_Ring
  mk_Ring : Mk K t.a_Ring t.f_RingInit
  naR_columns_count : NoAttr K t.a_Ring "columns_count"
  naR_rows_count : NoAttr K t.a_Ring "rows_count"
  naR_col_bits : NoAttr K t.a_Ring "col_bits"
  naR_row_bits : NoAttr K t.a_Ring "row_bits"
  F_isnumber : Fun K "is_number" "is_number" s_isnumber t.f_isnumber t.d_isnumber
  b_isnumber : Binds K t.d_isnumber ["value"] []
  mg_isnumber : mg "is_number" = some (.ref t.f_isnumber)
  F_isbelow : Fun K "is_below" "is_below" s_isbelow t.f_isbelow t.d_isbelow
  b_isbelow : Binds K t.d_isbelow ["value", "bound"] []
  mg_isbelow : mg "is_below" = some (.ref t.f_isbelow)
  F_isbit : Fun K "is_bit" "is_bit" s_isbit t.f_isbit t.d_isbit
  b_isbit : Binds K t.d_isbit ["value"] []
  mg_isbit : mg "is_bit" = some (.ref t.f_isbit)
  F_allbits : Fun K "all_bits" "all_bits" s_allbits t.f_allbits t.d_allbits
  b_allbits : Binds K t.d_allbits ["values"] []
  mg_allbits : mg "all_bits" = some (.ref t.f_allbits)
  F_isside : Fun K "is_side" "is_side" s_isside t.f_isside t.d_isside
  b_isside : Binds K t.d_isside ["count"] []
  mg_isside : mg "is_side" = some (.ref t.f_isside)
  F_isringside : Fun K "is_ring_side" "is_ring_side" s_isringside t.f_isringside t.d_isringside
  b_isringside : Binds K t.d_isringside ["count"] []
  mg_isringside : mg "is_ring_side" = some (.ref t.f_isringside)
  F_BoardInit : Fun K "__init__" "Board.__init__" s_BoardInit t.f_BoardInit t.d_BoardInit
  b_BoardInit : Binds K t.d_BoardInit ["self", "wide", "tall", "cols", "rows"] []
  cf_BoardInit : ClsFn K t.a_Board "__init__" t.f_BoardInit
  F_RingInit : Fun K "__init__" "Ring.__init__" s_RingInit t.f_RingInit t.d_RingInit
  b_RingInit : Binds K t.d_RingInit ["self", "cols", "rows"] []
  F_Ringwide : Fun K "wide" "Board.wide" s_Ringwide t.f_Ringwide t.d_Ringwide
  b_Ringwide : Binds K t.d_Ringwide ["self"] []
  m_Ringwide : Meth K t.a_Ring "wide" t.f_Ringwide
  F_Ringtall : Fun K "tall" "Board.tall" s_Ringtall t.f_Ringtall t.d_Ringtall
  b_Ringtall : Binds K t.d_Ringtall ["self"] []
  m_Ringtall : Meth K t.a_Ring "tall" t.f_Ringtall
  F_Ringbitsalong : Fun K "bits_along" "Board.bits_along" s_Ringbitsalong t.f_Ringbitsalong t.d_Ringbitsalong
  b_Ringbitsalong : Binds K t.d_Ringbitsalong ["self", "way"] []
  m_Ringbitsalong : Meth K t.a_Ring "bits_along" t.f_Ringbitsalong
  F_Ringbit : Fun K "bit" "Board.bit" s_Ringbit t.f_Ringbit t.d_Ringbit
  b_Ringbit : Binds K t.d_Ringbit ["self", "way", "k"] []
  m_Ringbit : Meth K t.a_Ring "bit" t.f_Ringbit
  F_Ringstitched : Fun K "stitched" "Board.stitched" s_Ringstitched t.f_Ringstitched t.d_Ringstitched
  b_Ringstitched : Binds K t.d_Ringstitched ["self", "way", "k", "step"] []
  m_Ringstitched : Meth K t.a_Ring "stitched" t.f_Ringstitched
  F_walk : Fun K "walk" "walk" s_walk t.f_walk t.d_walk
  b_walk : Binds K t.d_walk ["ring", "start"] []
  mg_walk : mg "walk" = some (.ref t.f_walk)
  F_ringrounds : Fun K "ring_rounds" "ring_rounds" s_ringrounds t.f_ringrounds t.d_ringrounds
  b_ringrounds : Binds K t.d_ringrounds ["ring"] []
  mg_ringrounds : mg "ring_rounds" = some (.ref t.f_ringrounds)
  F_Lring : Fun K "_law_ring" "_law_ring" s_Lring t.f_Lring t.d_Lring
  b_Lring : Binds K t.d_Lring ["_law_loop_here"] []
  mg_Lring : mg "_law_ring" = some (.ref t.f_Lring)
  F_Lbits : Fun K "_law_bits" "_law_bits" s_Lbits t.f_Lbits t.d_Lbits
  b_Lbits : Binds K t.d_Lbits ["_law_number", "_law_many"] []
  mg_Lbits : mg "_law_bits" = some (.ref t.f_Lbits)
  F_Lrow : Fun K "_law_row" "_law_row" s_Lrow t.f_Lrow t.d_Lrow
  b_Lrow : Binds K t.d_Lrow ["_law_some", "_law_many"] []
  mg_Lrow : mg "_law_row" = some (.ref t.f_Lrow)
  F_Lloop : Fun K "_law_loop" "_law_loop" s_Lloop t.f_Lloop t.d_Lloop
  b_Lloop : Binds K t.d_Lloop ["_law_some"] []
  mg_Lloop : mg "_law_loop" = some (.ref t.f_Lloop)
  F_Ldraws : Fun K "_law_draws" "_law_draws" s_Ldraws t.f_Ldraws t.d_Ldraws
  b_Ldraws : Binds K t.d_Ldraws ["_law_script", "_law_many"] []
  mg_Ldraws : mg "_law_draws" = some (.ref t.f_Ldraws)
  F_Lcommon : Fun K "_law_common" "_law_common" s_Lcommon t.f_Lcommon t.d_Lcommon
  b_Lcommon : Binds K t.d_Lcommon ["_law_one", "_law_other"] []
  mg_Lcommon : mg "_law_common" = some (.ref t.f_Lcommon)
  F_law : Fun K "law" "law" s_law t.f_law t.d_law
  b_law : Binds K t.d_law ["_law_script"] []
  mg_law : mg "law" = some (.ref t.f_law)
  mg_BadSize : mg "BadSize" = some (.ref t.a_BadSize)
  mg_BadBit : mg "BadBit" = some (.ref t.a_BadBit)
  mg_NoLine : mg "NoLine" = some (.ref t.a_NoLine)
  mg_NoStep : mg "NoStep" = some (.ref t.a_NoStep)
  x_BadSize : PySem.W.excIn K t.a_BadSize [.type "ValueError", .type "Exception", .type "BaseException", .type "object"] "ValueError.__new__" = true
  x_BadBit : PySem.W.excIn K t.a_BadBit [.type "ValueError", .type "Exception", .type "BaseException", .type "object"] "ValueError.__new__" = true
  x_NoLine : PySem.W.excIn K t.a_NoLine [.type "ValueError", .type "Exception", .type "BaseException", .type "object"] "ValueError.__new__" = true
  x_NoStep : PySem.W.excIn K t.a_NoStep [.type "ValueError", .type "Exception", .type "BaseException", .type "object"] "ValueError.__new__" = true
  mg_LONGEST_SIDE : mg "LONGEST_SIDE" = some (.int 40 t.tk_LONGEST_SIDE)
  no_isinstance : mg "isinstance" = none
  no_int : mg "int" = none
  no_bool : mg "bool" = none
  no_all : mg "all" = none
  no_len : mg "len" = none
  no_tuple : mg "tuple" = none
  no_list : mg "list" = none
  no_range : mg "range" = none
  no_abs : mg "abs" = none
  no_ValueError : mg "ValueError" = none
theorem txt_mk {K : PySem.W.Frag} {h : Heap} {mg : Str → Option Value} (X : K.In h) (G : h.Ns mainGlobals mg) {C_Board : Addr} {C_Ring : Addr} {f_isnumber : Addr} {od_isnumber an_isnumber : Option Addr} {sl_isnumber : Array (Option Value)} {oc_isnumber kV_isnumber dc_isnumber pm_isnumber cd_isnumber ct_isnumber : Value} {f_isbelow : Addr} {od_isbelow an_isbelow : Option Addr} {sl_isbelow : Array (Option Value)} {oc_isbelow kV_isbelow dc_isbelow pm_isbelow cd_isbelow ct_isbelow : Value} {f_isbit : Addr} {od_isbit an_isbit : Option Addr} {sl_isbit : Array (Option Value)} {oc_isbit kV_isbit dc_isbit pm_isbit cd_isbit ct_isbit : Value} {f_allbits : Addr} {od_allbits an_allbits : Option Addr} {sl_allbits : Array (Option Value)} {oc_allbits kV_allbits dc_allbits pm_allbits cd_allbits ct_allbits : Value} {f_isside : Addr} {od_isside an_isside : Option Addr} {sl_isside : Array (Option Value)} {oc_isside kV_isside dc_isside pm_isside cd_isside ct_isside : Value} {f_isringside : Addr} {od_isringside an_isringside : Option Addr} {sl_isringside : Array (Option Value)} {oc_isringside kV_isringside dc_isringside pm_isringside cd_isringside ct_isringside : Value} {f_BoardInit : Addr} {od_BoardInit an_BoardInit : Option Addr} {sl_BoardInit : Array (Option Value)} {oc_BoardInit kV_BoardInit dc_BoardInit pm_BoardInit cd_BoardInit ct_BoardInit : Value} {f_RingInit : Addr} {od_RingInit an_RingInit : Option Addr} {sl_RingInit : Array (Option Value)} {oc_RingInit kV_RingInit dc_RingInit pm_RingInit cd_RingInit ct_RingInit : Value} {f_Ringwide : Addr} {od_Ringwide an_Ringwide : Option Addr} {sl_Ringwide : Array (Option Value)} {oc_Ringwide kV_Ringwide dc_Ringwide pm_Ringwide cd_Ringwide ct_Ringwide : Value} {f_Ringtall : Addr} {od_Ringtall an_Ringtall : Option Addr} {sl_Ringtall : Array (Option Value)} {oc_Ringtall kV_Ringtall dc_Ringtall pm_Ringtall cd_Ringtall ct_Ringtall : Value} {f_Ringbitsalong : Addr} {od_Ringbitsalong an_Ringbitsalong : Option Addr} {sl_Ringbitsalong : Array (Option Value)} {oc_Ringbitsalong kV_Ringbitsalong dc_Ringbitsalong pm_Ringbitsalong cd_Ringbitsalong ct_Ringbitsalong : Value} {f_Ringbit : Addr} {od_Ringbit an_Ringbit : Option Addr} {sl_Ringbit : Array (Option Value)} {oc_Ringbit kV_Ringbit dc_Ringbit pm_Ringbit cd_Ringbit ct_Ringbit : Value} {f_Ringstitched : Addr} {od_Ringstitched an_Ringstitched : Option Addr} {sl_Ringstitched : Array (Option Value)} {oc_Ringstitched kV_Ringstitched dc_Ringstitched pm_Ringstitched cd_Ringstitched ct_Ringstitched : Value} {f_walk : Addr} {od_walk an_walk : Option Addr} {sl_walk : Array (Option Value)} {oc_walk kV_walk dc_walk pm_walk cd_walk ct_walk : Value} {f_ringrounds : Addr} {od_ringrounds an_ringrounds : Option Addr} {sl_ringrounds : Array (Option Value)} {oc_ringrounds kV_ringrounds dc_ringrounds pm_ringrounds cd_ringrounds ct_ringrounds : Value} {f_Lring : Addr} {od_Lring an_Lring : Option Addr} {sl_Lring : Array (Option Value)} {oc_Lring kV_Lring dc_Lring pm_Lring cd_Lring ct_Lring : Value} {f_Lbits : Addr} {od_Lbits an_Lbits : Option Addr} {sl_Lbits : Array (Option Value)} {oc_Lbits kV_Lbits dc_Lbits pm_Lbits cd_Lbits ct_Lbits : Value} {f_Lrow : Addr} {od_Lrow an_Lrow : Option Addr} {sl_Lrow : Array (Option Value)} {oc_Lrow kV_Lrow dc_Lrow pm_Lrow cd_Lrow ct_Lrow : Value} {f_Lloop : Addr} {od_Lloop an_Lloop : Option Addr} {sl_Lloop : Array (Option Value)} {oc_Lloop kV_Lloop dc_Lloop pm_Lloop cd_Lloop ct_Lloop : Value} {f_Ldraws : Addr} {od_Ldraws an_Ldraws : Option Addr} {sl_Ldraws : Array (Option Value)} {oc_Ldraws kV_Ldraws dc_Ldraws pm_Ldraws cd_Ldraws ct_Ldraws : Value} {f_Lcommon : Addr} {od_Lcommon an_Lcommon : Option Addr} {sl_Lcommon : Array (Option Value)} {oc_Lcommon kV_Lcommon dc_Lcommon pm_Lcommon cd_Lcommon ct_Lcommon : Value} {f_law : Addr} {od_law an_law : Option Addr} {sl_law : Array (Option Value)} {oc_law kV_law dc_law pm_law cd_law ct_law : Value} {C_BadSize : Addr} {C_BadBit : Addr} {C_NoLine : Addr} {C_NoStep : Addr} {tk_LONGEST_SIDE : Tok}
    (aC_Board : PySem.W.nsIn K mainGlobals "Board" = some (some (.ref C_Board)))
    (ga_Board : PySem.W.specialIn K (.ref C_Board) "__getattribute__" = some (some (.builtin "type.__getattribute__")))
    (rd_Board : PySem.W.readsIn K C_Board (.type "type") = true)
    (aC_Ring : PySem.W.nsIn K mainGlobals "Ring" = some (some (.ref C_Ring)))
    (pg_Ring : PySem.W.plainGet K C_Ring Str.empty = true)
    (hd_Ring : PySem.W.hasDictIn K C_Ring = true)
    (po_Ring : PySem.W.plainOver K C_Ring = true)
    (sa_Ring : PySem.W.findIn K (.ref C_Ring) "__setattr__" = some (some (.builtin "object.__setattr__")))
    (mk_Ring : PySem.W.makesIn K C_Ring = true)
    (kc_Ring : PySem.W.keepIn K (.ref C_Ring) = true)
    (naR_columns_count : PySem.W.findIn K (.ref C_Ring) "columns_count" = some none)
    (naR_rows_count : PySem.W.findIn K (.ref C_Ring) "rows_count" = some none)
    (naR_col_bits : PySem.W.findIn K (.ref C_Ring) "col_bits" = some none)
    (naR_row_bits : PySem.W.findIn K (.ref C_Ring) "row_bits" = some none)
    (a_isnumber : PySem.W.nsIn K mainGlobals "is_number" = some (some (.ref f_isnumber)))
    (l_isnumber : K.lookup f_isnumber = some ⟨oc_isnumber, od_isnumber, .func (PySem.W.fnOf "is_number" "is_number" (defArgs s_isnumber) (defBody s_isnumber) (defScope s_isnumber) .none kV_isnumber dc_isnumber pm_isnumber an_isnumber cd_isnumber ct_isnumber), sl_isnumber⟩)
    (c_isnumber : PySem.W.codeIn K cd_isnumber "is_number" = true)
    (k_isnumber : PySem.W.keepIn K (.ref f_isnumber) = true)
    (a_isbelow : PySem.W.nsIn K mainGlobals "is_below" = some (some (.ref f_isbelow)))
    (l_isbelow : K.lookup f_isbelow = some ⟨oc_isbelow, od_isbelow, .func (PySem.W.fnOf "is_below" "is_below" (defArgs s_isbelow) (defBody s_isbelow) (defScope s_isbelow) .none kV_isbelow dc_isbelow pm_isbelow an_isbelow cd_isbelow ct_isbelow), sl_isbelow⟩)
    (c_isbelow : PySem.W.codeIn K cd_isbelow "is_below" = true)
    (k_isbelow : PySem.W.keepIn K (.ref f_isbelow) = true)
    (a_isbit : PySem.W.nsIn K mainGlobals "is_bit" = some (some (.ref f_isbit)))
    (l_isbit : K.lookup f_isbit = some ⟨oc_isbit, od_isbit, .func (PySem.W.fnOf "is_bit" "is_bit" (defArgs s_isbit) (defBody s_isbit) (defScope s_isbit) .none kV_isbit dc_isbit pm_isbit an_isbit cd_isbit ct_isbit), sl_isbit⟩)
    (c_isbit : PySem.W.codeIn K cd_isbit "is_bit" = true)
    (k_isbit : PySem.W.keepIn K (.ref f_isbit) = true)
    (a_allbits : PySem.W.nsIn K mainGlobals "all_bits" = some (some (.ref f_allbits)))
    (l_allbits : K.lookup f_allbits = some ⟨oc_allbits, od_allbits, .func (PySem.W.fnOf "all_bits" "all_bits" (defArgs s_allbits) (defBody s_allbits) (defScope s_allbits) .none kV_allbits dc_allbits pm_allbits an_allbits cd_allbits ct_allbits), sl_allbits⟩)
    (c_allbits : PySem.W.codeIn K cd_allbits "all_bits" = true)
    (k_allbits : PySem.W.keepIn K (.ref f_allbits) = true)
    (a_isside : PySem.W.nsIn K mainGlobals "is_side" = some (some (.ref f_isside)))
    (l_isside : K.lookup f_isside = some ⟨oc_isside, od_isside, .func (PySem.W.fnOf "is_side" "is_side" (defArgs s_isside) (defBody s_isside) (defScope s_isside) .none kV_isside dc_isside pm_isside an_isside cd_isside ct_isside), sl_isside⟩)
    (c_isside : PySem.W.codeIn K cd_isside "is_side" = true)
    (k_isside : PySem.W.keepIn K (.ref f_isside) = true)
    (a_isringside : PySem.W.nsIn K mainGlobals "is_ring_side" = some (some (.ref f_isringside)))
    (l_isringside : K.lookup f_isringside = some ⟨oc_isringside, od_isringside, .func (PySem.W.fnOf "is_ring_side" "is_ring_side" (defArgs s_isringside) (defBody s_isringside) (defScope s_isringside) .none kV_isringside dc_isringside pm_isringside an_isringside cd_isringside ct_isringside), sl_isringside⟩)
    (c_isringside : PySem.W.codeIn K cd_isringside "is_ring_side" = true)
    (k_isringside : PySem.W.keepIn K (.ref f_isringside) = true)
    (fc_BoardInit : PySem.W.findCls K (.ref C_Board) (.type "type") "__init__" = some (.val (.ref f_BoardInit)))
    (l_BoardInit : K.lookup f_BoardInit = some ⟨oc_BoardInit, od_BoardInit, .func (PySem.W.fnOf "__init__" "Board.__init__" (defArgs s_BoardInit) (defBody s_BoardInit) (defScope s_BoardInit) .none kV_BoardInit dc_BoardInit pm_BoardInit an_BoardInit cd_BoardInit ct_BoardInit), sl_BoardInit⟩)
    (c_BoardInit : PySem.W.codeIn K cd_BoardInit "Board.__init__" = true)
    (k_BoardInit : PySem.W.keepIn K (.ref f_BoardInit) = true)
    (a_RingInit : PySem.W.findIn K (.ref C_Ring) "__init__" = some (some (.ref f_RingInit)))
    (i_RingInit : PySem.W.isFn K (.ref f_RingInit) = true)
    (l_RingInit : K.lookup f_RingInit = some ⟨oc_RingInit, od_RingInit, .func (PySem.W.fnOf "__init__" "Ring.__init__" (defArgs s_RingInit) (defBody s_RingInit) (defScope s_RingInit) .none kV_RingInit dc_RingInit pm_RingInit an_RingInit cd_RingInit ct_RingInit), sl_RingInit⟩)
    (c_RingInit : PySem.W.codeIn K cd_RingInit "Ring.__init__" = true)
    (k_RingInit : PySem.W.keepIn K (.ref f_RingInit) = true)
    (a_Ringwide : PySem.W.findIn K (.ref C_Ring) "wide" = some (some (.ref f_Ringwide)))
    (i_Ringwide : PySem.W.isFn K (.ref f_Ringwide) = true)
    (l_Ringwide : K.lookup f_Ringwide = some ⟨oc_Ringwide, od_Ringwide, .func (PySem.W.fnOf "wide" "Board.wide" (defArgs s_Ringwide) (defBody s_Ringwide) (defScope s_Ringwide) .none kV_Ringwide dc_Ringwide pm_Ringwide an_Ringwide cd_Ringwide ct_Ringwide), sl_Ringwide⟩)
    (c_Ringwide : PySem.W.codeIn K cd_Ringwide "Board.wide" = true)
    (k_Ringwide : PySem.W.keepIn K (.ref f_Ringwide) = true)
    (a_Ringtall : PySem.W.findIn K (.ref C_Ring) "tall" = some (some (.ref f_Ringtall)))
    (i_Ringtall : PySem.W.isFn K (.ref f_Ringtall) = true)
    (l_Ringtall : K.lookup f_Ringtall = some ⟨oc_Ringtall, od_Ringtall, .func (PySem.W.fnOf "tall" "Board.tall" (defArgs s_Ringtall) (defBody s_Ringtall) (defScope s_Ringtall) .none kV_Ringtall dc_Ringtall pm_Ringtall an_Ringtall cd_Ringtall ct_Ringtall), sl_Ringtall⟩)
    (c_Ringtall : PySem.W.codeIn K cd_Ringtall "Board.tall" = true)
    (k_Ringtall : PySem.W.keepIn K (.ref f_Ringtall) = true)
    (a_Ringbitsalong : PySem.W.findIn K (.ref C_Ring) "bits_along" = some (some (.ref f_Ringbitsalong)))
    (i_Ringbitsalong : PySem.W.isFn K (.ref f_Ringbitsalong) = true)
    (l_Ringbitsalong : K.lookup f_Ringbitsalong = some ⟨oc_Ringbitsalong, od_Ringbitsalong, .func (PySem.W.fnOf "bits_along" "Board.bits_along" (defArgs s_Ringbitsalong) (defBody s_Ringbitsalong) (defScope s_Ringbitsalong) .none kV_Ringbitsalong dc_Ringbitsalong pm_Ringbitsalong an_Ringbitsalong cd_Ringbitsalong ct_Ringbitsalong), sl_Ringbitsalong⟩)
    (c_Ringbitsalong : PySem.W.codeIn K cd_Ringbitsalong "Board.bits_along" = true)
    (k_Ringbitsalong : PySem.W.keepIn K (.ref f_Ringbitsalong) = true)
    (a_Ringbit : PySem.W.findIn K (.ref C_Ring) "bit" = some (some (.ref f_Ringbit)))
    (i_Ringbit : PySem.W.isFn K (.ref f_Ringbit) = true)
    (l_Ringbit : K.lookup f_Ringbit = some ⟨oc_Ringbit, od_Ringbit, .func (PySem.W.fnOf "bit" "Board.bit" (defArgs s_Ringbit) (defBody s_Ringbit) (defScope s_Ringbit) .none kV_Ringbit dc_Ringbit pm_Ringbit an_Ringbit cd_Ringbit ct_Ringbit), sl_Ringbit⟩)
    (c_Ringbit : PySem.W.codeIn K cd_Ringbit "Board.bit" = true)
    (k_Ringbit : PySem.W.keepIn K (.ref f_Ringbit) = true)
    (a_Ringstitched : PySem.W.findIn K (.ref C_Ring) "stitched" = some (some (.ref f_Ringstitched)))
    (i_Ringstitched : PySem.W.isFn K (.ref f_Ringstitched) = true)
    (l_Ringstitched : K.lookup f_Ringstitched = some ⟨oc_Ringstitched, od_Ringstitched, .func (PySem.W.fnOf "stitched" "Board.stitched" (defArgs s_Ringstitched) (defBody s_Ringstitched) (defScope s_Ringstitched) .none kV_Ringstitched dc_Ringstitched pm_Ringstitched an_Ringstitched cd_Ringstitched ct_Ringstitched), sl_Ringstitched⟩)
    (c_Ringstitched : PySem.W.codeIn K cd_Ringstitched "Board.stitched" = true)
    (k_Ringstitched : PySem.W.keepIn K (.ref f_Ringstitched) = true)
    (a_walk : PySem.W.nsIn K mainGlobals "walk" = some (some (.ref f_walk)))
    (l_walk : K.lookup f_walk = some ⟨oc_walk, od_walk, .func (PySem.W.fnOf "walk" "walk" (defArgs s_walk) (defBody s_walk) (defScope s_walk) .none kV_walk dc_walk pm_walk an_walk cd_walk ct_walk), sl_walk⟩)
    (c_walk : PySem.W.codeIn K cd_walk "walk" = true)
    (k_walk : PySem.W.keepIn K (.ref f_walk) = true)
    (a_ringrounds : PySem.W.nsIn K mainGlobals "ring_rounds" = some (some (.ref f_ringrounds)))
    (l_ringrounds : K.lookup f_ringrounds = some ⟨oc_ringrounds, od_ringrounds, .func (PySem.W.fnOf "ring_rounds" "ring_rounds" (defArgs s_ringrounds) (defBody s_ringrounds) (defScope s_ringrounds) .none kV_ringrounds dc_ringrounds pm_ringrounds an_ringrounds cd_ringrounds ct_ringrounds), sl_ringrounds⟩)
    (c_ringrounds : PySem.W.codeIn K cd_ringrounds "ring_rounds" = true)
    (k_ringrounds : PySem.W.keepIn K (.ref f_ringrounds) = true)
    (a_Lring : PySem.W.nsIn K mainGlobals "_law_ring" = some (some (.ref f_Lring)))
    (l_Lring : K.lookup f_Lring = some ⟨oc_Lring, od_Lring, .func (PySem.W.fnOf "_law_ring" "_law_ring" (defArgs s_Lring) (defBody s_Lring) (defScope s_Lring) .none kV_Lring dc_Lring pm_Lring an_Lring cd_Lring ct_Lring), sl_Lring⟩)
    (c_Lring : PySem.W.codeIn K cd_Lring "_law_ring" = true)
    (k_Lring : PySem.W.keepIn K (.ref f_Lring) = true)
    (a_Lbits : PySem.W.nsIn K mainGlobals "_law_bits" = some (some (.ref f_Lbits)))
    (l_Lbits : K.lookup f_Lbits = some ⟨oc_Lbits, od_Lbits, .func (PySem.W.fnOf "_law_bits" "_law_bits" (defArgs s_Lbits) (defBody s_Lbits) (defScope s_Lbits) .none kV_Lbits dc_Lbits pm_Lbits an_Lbits cd_Lbits ct_Lbits), sl_Lbits⟩)
    (c_Lbits : PySem.W.codeIn K cd_Lbits "_law_bits" = true)
    (k_Lbits : PySem.W.keepIn K (.ref f_Lbits) = true)
    (a_Lrow : PySem.W.nsIn K mainGlobals "_law_row" = some (some (.ref f_Lrow)))
    (l_Lrow : K.lookup f_Lrow = some ⟨oc_Lrow, od_Lrow, .func (PySem.W.fnOf "_law_row" "_law_row" (defArgs s_Lrow) (defBody s_Lrow) (defScope s_Lrow) .none kV_Lrow dc_Lrow pm_Lrow an_Lrow cd_Lrow ct_Lrow), sl_Lrow⟩)
    (c_Lrow : PySem.W.codeIn K cd_Lrow "_law_row" = true)
    (k_Lrow : PySem.W.keepIn K (.ref f_Lrow) = true)
    (a_Lloop : PySem.W.nsIn K mainGlobals "_law_loop" = some (some (.ref f_Lloop)))
    (l_Lloop : K.lookup f_Lloop = some ⟨oc_Lloop, od_Lloop, .func (PySem.W.fnOf "_law_loop" "_law_loop" (defArgs s_Lloop) (defBody s_Lloop) (defScope s_Lloop) .none kV_Lloop dc_Lloop pm_Lloop an_Lloop cd_Lloop ct_Lloop), sl_Lloop⟩)
    (c_Lloop : PySem.W.codeIn K cd_Lloop "_law_loop" = true)
    (k_Lloop : PySem.W.keepIn K (.ref f_Lloop) = true)
    (a_Ldraws : PySem.W.nsIn K mainGlobals "_law_draws" = some (some (.ref f_Ldraws)))
    (l_Ldraws : K.lookup f_Ldraws = some ⟨oc_Ldraws, od_Ldraws, .func (PySem.W.fnOf "_law_draws" "_law_draws" (defArgs s_Ldraws) (defBody s_Ldraws) (defScope s_Ldraws) .none kV_Ldraws dc_Ldraws pm_Ldraws an_Ldraws cd_Ldraws ct_Ldraws), sl_Ldraws⟩)
    (c_Ldraws : PySem.W.codeIn K cd_Ldraws "_law_draws" = true)
    (k_Ldraws : PySem.W.keepIn K (.ref f_Ldraws) = true)
    (a_Lcommon : PySem.W.nsIn K mainGlobals "_law_common" = some (some (.ref f_Lcommon)))
    (l_Lcommon : K.lookup f_Lcommon = some ⟨oc_Lcommon, od_Lcommon, .func (PySem.W.fnOf "_law_common" "_law_common" (defArgs s_Lcommon) (defBody s_Lcommon) (defScope s_Lcommon) .none kV_Lcommon dc_Lcommon pm_Lcommon an_Lcommon cd_Lcommon ct_Lcommon), sl_Lcommon⟩)
    (c_Lcommon : PySem.W.codeIn K cd_Lcommon "_law_common" = true)
    (k_Lcommon : PySem.W.keepIn K (.ref f_Lcommon) = true)
    (a_law : PySem.W.nsIn K mainGlobals "law" = some (some (.ref f_law)))
    (l_law : K.lookup f_law = some ⟨oc_law, od_law, .func (PySem.W.fnOf "law" "law" (defArgs s_law) (defBody s_law) (defScope s_law) .none kV_law dc_law pm_law an_law cd_law ct_law), sl_law⟩)
    (c_law : PySem.W.codeIn K cd_law "law" = true)
    (k_law : PySem.W.keepIn K (.ref f_law) = true)
    (aX_BadSize : PySem.W.nsIn K mainGlobals "BadSize" = some (some (.ref C_BadSize)))
    (aX_BadBit : PySem.W.nsIn K mainGlobals "BadBit" = some (some (.ref C_BadBit)))
    (aX_NoLine : PySem.W.nsIn K mainGlobals "NoLine" = some (some (.ref C_NoLine)))
    (aX_NoStep : PySem.W.nsIn K mainGlobals "NoStep" = some (some (.ref C_NoStep)))
    (x_BadSize : PySem.W.excIn K C_BadSize [.type "ValueError", .type "Exception", .type "BaseException", .type "object"] "ValueError.__new__" = true)
    (x_BadBit : PySem.W.excIn K C_BadBit [.type "ValueError", .type "Exception", .type "BaseException", .type "object"] "ValueError.__new__" = true)
    (x_NoLine : PySem.W.excIn K C_NoLine [.type "ValueError", .type "Exception", .type "BaseException", .type "object"] "ValueError.__new__" = true)
    (x_NoStep : PySem.W.excIn K C_NoStep [.type "ValueError", .type "Exception", .type "BaseException", .type "object"] "ValueError.__new__" = true)
    (v_LONGEST_SIDE : PySem.W.nsIn K mainGlobals "LONGEST_SIDE" = some (some (.int 40 tk_LONGEST_SIDE)))
    (z_isinstance : PySem.W.nsIn K mainGlobals "isinstance" = some none)
    (z_int : PySem.W.nsIn K mainGlobals "int" = some none)
    (z_bool : PySem.W.nsIn K mainGlobals "bool" = some none)
    (z_all : PySem.W.nsIn K mainGlobals "all" = some none)
    (z_len : PySem.W.nsIn K mainGlobals "len" = some none)
    (z_tuple : PySem.W.nsIn K mainGlobals "tuple" = some none)
    (z_list : PySem.W.nsIn K mainGlobals "list" = some none)
    (z_range : PySem.W.nsIn K mainGlobals "range" = some none)
    (z_abs : PySem.W.nsIn K mainGlobals "abs" = some none)
    (z_ValueError : PySem.W.nsIn K mainGlobals "ValueError" = some none) : ∃ t : Ad, Txt K mg t ∧ (∀ (s : Shared) (v : Value), BindsTo s t.d_law ⟨[v], []⟩ [("_law_script", v)]) :=
  ⟨{ a_Board := C_Board, a_Ring := C_Ring, f_isnumber := f_isnumber, d_isnumber := PySem.W.fnOf "is_number" "is_number" (defArgs s_isnumber) (defBody s_isnumber) (defScope s_isnumber) .none kV_isnumber dc_isnumber pm_isnumber an_isnumber cd_isnumber ct_isnumber, f_isbelow := f_isbelow, d_isbelow := PySem.W.fnOf "is_below" "is_below" (defArgs s_isbelow) (defBody s_isbelow) (defScope s_isbelow) .none kV_isbelow dc_isbelow pm_isbelow an_isbelow cd_isbelow ct_isbelow, f_isbit := f_isbit, d_isbit := PySem.W.fnOf "is_bit" "is_bit" (defArgs s_isbit) (defBody s_isbit) (defScope s_isbit) .none kV_isbit dc_isbit pm_isbit an_isbit cd_isbit ct_isbit, f_allbits := f_allbits, d_allbits := PySem.W.fnOf "all_bits" "all_bits" (defArgs s_allbits) (defBody s_allbits) (defScope s_allbits) .none kV_allbits dc_allbits pm_allbits an_allbits cd_allbits ct_allbits, f_isside := f_isside, d_isside := PySem.W.fnOf "is_side" "is_side" (defArgs s_isside) (defBody s_isside) (defScope s_isside) .none kV_isside dc_isside pm_isside an_isside cd_isside ct_isside, f_isringside := f_isringside, d_isringside := PySem.W.fnOf "is_ring_side" "is_ring_side" (defArgs s_isringside) (defBody s_isringside) (defScope s_isringside) .none kV_isringside dc_isringside pm_isringside an_isringside cd_isringside ct_isringside, f_BoardInit := f_BoardInit, d_BoardInit := PySem.W.fnOf "__init__" "Board.__init__" (defArgs s_BoardInit) (defBody s_BoardInit) (defScope s_BoardInit) .none kV_BoardInit dc_BoardInit pm_BoardInit an_BoardInit cd_BoardInit ct_BoardInit, f_RingInit := f_RingInit, d_RingInit := PySem.W.fnOf "__init__" "Ring.__init__" (defArgs s_RingInit) (defBody s_RingInit) (defScope s_RingInit) .none kV_RingInit dc_RingInit pm_RingInit an_RingInit cd_RingInit ct_RingInit, f_Ringwide := f_Ringwide, d_Ringwide := PySem.W.fnOf "wide" "Board.wide" (defArgs s_Ringwide) (defBody s_Ringwide) (defScope s_Ringwide) .none kV_Ringwide dc_Ringwide pm_Ringwide an_Ringwide cd_Ringwide ct_Ringwide, f_Ringtall := f_Ringtall, d_Ringtall := PySem.W.fnOf "tall" "Board.tall" (defArgs s_Ringtall) (defBody s_Ringtall) (defScope s_Ringtall) .none kV_Ringtall dc_Ringtall pm_Ringtall an_Ringtall cd_Ringtall ct_Ringtall, f_Ringbitsalong := f_Ringbitsalong, d_Ringbitsalong := PySem.W.fnOf "bits_along" "Board.bits_along" (defArgs s_Ringbitsalong) (defBody s_Ringbitsalong) (defScope s_Ringbitsalong) .none kV_Ringbitsalong dc_Ringbitsalong pm_Ringbitsalong an_Ringbitsalong cd_Ringbitsalong ct_Ringbitsalong, f_Ringbit := f_Ringbit, d_Ringbit := PySem.W.fnOf "bit" "Board.bit" (defArgs s_Ringbit) (defBody s_Ringbit) (defScope s_Ringbit) .none kV_Ringbit dc_Ringbit pm_Ringbit an_Ringbit cd_Ringbit ct_Ringbit, f_Ringstitched := f_Ringstitched, d_Ringstitched := PySem.W.fnOf "stitched" "Board.stitched" (defArgs s_Ringstitched) (defBody s_Ringstitched) (defScope s_Ringstitched) .none kV_Ringstitched dc_Ringstitched pm_Ringstitched an_Ringstitched cd_Ringstitched ct_Ringstitched, f_walk := f_walk, d_walk := PySem.W.fnOf "walk" "walk" (defArgs s_walk) (defBody s_walk) (defScope s_walk) .none kV_walk dc_walk pm_walk an_walk cd_walk ct_walk, f_ringrounds := f_ringrounds, d_ringrounds := PySem.W.fnOf "ring_rounds" "ring_rounds" (defArgs s_ringrounds) (defBody s_ringrounds) (defScope s_ringrounds) .none kV_ringrounds dc_ringrounds pm_ringrounds an_ringrounds cd_ringrounds ct_ringrounds, f_Lring := f_Lring, d_Lring := PySem.W.fnOf "_law_ring" "_law_ring" (defArgs s_Lring) (defBody s_Lring) (defScope s_Lring) .none kV_Lring dc_Lring pm_Lring an_Lring cd_Lring ct_Lring, f_Lbits := f_Lbits, d_Lbits := PySem.W.fnOf "_law_bits" "_law_bits" (defArgs s_Lbits) (defBody s_Lbits) (defScope s_Lbits) .none kV_Lbits dc_Lbits pm_Lbits an_Lbits cd_Lbits ct_Lbits, f_Lrow := f_Lrow, d_Lrow := PySem.W.fnOf "_law_row" "_law_row" (defArgs s_Lrow) (defBody s_Lrow) (defScope s_Lrow) .none kV_Lrow dc_Lrow pm_Lrow an_Lrow cd_Lrow ct_Lrow, f_Lloop := f_Lloop, d_Lloop := PySem.W.fnOf "_law_loop" "_law_loop" (defArgs s_Lloop) (defBody s_Lloop) (defScope s_Lloop) .none kV_Lloop dc_Lloop pm_Lloop an_Lloop cd_Lloop ct_Lloop, f_Ldraws := f_Ldraws, d_Ldraws := PySem.W.fnOf "_law_draws" "_law_draws" (defArgs s_Ldraws) (defBody s_Ldraws) (defScope s_Ldraws) .none kV_Ldraws dc_Ldraws pm_Ldraws an_Ldraws cd_Ldraws ct_Ldraws, f_Lcommon := f_Lcommon, d_Lcommon := PySem.W.fnOf "_law_common" "_law_common" (defArgs s_Lcommon) (defBody s_Lcommon) (defScope s_Lcommon) .none kV_Lcommon dc_Lcommon pm_Lcommon an_Lcommon cd_Lcommon ct_Lcommon, f_law := f_law, d_law := PySem.W.fnOf "law" "law" (defArgs s_law) (defBody s_law) (defScope s_law) .none kV_law dc_law pm_law an_law cd_law ct_law, a_BadSize := C_BadSize, a_BadBit := C_BadBit, a_NoLine := C_NoLine, a_NoStep := C_NoStep, tk_LONGEST_SIDE := tk_LONGEST_SIDE }, ⟨PySem.W.mg_of X G aC_Board, PySem.W.mg_of X G aC_Ring, ⟨pg_Ring, hd_Ring, po_Ring, sa_Ring⟩, ⟨mk_Ring, a_RingInit, i_RingInit, kc_Ring⟩, naR_columns_count, naR_rows_count, naR_col_bits, naR_row_bits, fun_mk (st := s_isnumber) l_isnumber c_isnumber k_isnumber, (fun_mk (st := s_isnumber) l_isnumber c_isnumber k_isnumber).binds (ps := ["value"]) fun _ _ _ _ _ _ us hl => (by obtain ⟨_, rfl⟩ := len1 hl; rfl), PySem.W.mg_of X G a_isnumber, fun_mk (st := s_isbelow) l_isbelow c_isbelow k_isbelow, (fun_mk (st := s_isbelow) l_isbelow c_isbelow k_isbelow).binds (ps := ["value", "bound"]) fun _ _ _ _ _ _ us hl => (by obtain ⟨_, _, rfl⟩ := len2 hl; rfl), PySem.W.mg_of X G a_isbelow, fun_mk (st := s_isbit) l_isbit c_isbit k_isbit, (fun_mk (st := s_isbit) l_isbit c_isbit k_isbit).binds (ps := ["value"]) fun _ _ _ _ _ _ us hl => (by obtain ⟨_, rfl⟩ := len1 hl; rfl), PySem.W.mg_of X G a_isbit, fun_mk (st := s_allbits) l_allbits c_allbits k_allbits, (fun_mk (st := s_allbits) l_allbits c_allbits k_allbits).binds (ps := ["values"]) fun _ _ _ _ _ _ us hl => (by obtain ⟨_, rfl⟩ := len1 hl; rfl), PySem.W.mg_of X G a_allbits, fun_mk (st := s_isside) l_isside c_isside k_isside, (fun_mk (st := s_isside) l_isside c_isside k_isside).binds (ps := ["count"]) fun _ _ _ _ _ _ us hl => (by obtain ⟨_, rfl⟩ := len1 hl; rfl), PySem.W.mg_of X G a_isside, fun_mk (st := s_isringside) l_isringside c_isringside k_isringside, (fun_mk (st := s_isringside) l_isringside c_isringside k_isringside).binds (ps := ["count"]) fun _ _ _ _ _ _ us hl => (by obtain ⟨_, rfl⟩ := len1 hl; rfl), PySem.W.mg_of X G a_isringside, fun_mk (st := s_BoardInit) l_BoardInit c_BoardInit k_BoardInit, (fun_mk (st := s_BoardInit) l_BoardInit c_BoardInit k_BoardInit).binds (ps := ["self", "wide", "tall", "cols", "rows"]) fun _ _ _ _ _ _ us hl => (by obtain ⟨_, _, _, _, _, rfl⟩ := len5 hl; rfl), ⟨ga_Board, rd_Board, fc_BoardInit, k_BoardInit⟩, fun_mk (st := s_RingInit) l_RingInit c_RingInit k_RingInit, (fun_mk (st := s_RingInit) l_RingInit c_RingInit k_RingInit).binds (ps := ["self", "cols", "rows"]) fun _ _ _ _ _ _ us hl => (by obtain ⟨_, _, _, rfl⟩ := len3 hl; rfl), fun_mk (st := s_Ringwide) l_Ringwide c_Ringwide k_Ringwide, (fun_mk (st := s_Ringwide) l_Ringwide c_Ringwide k_Ringwide).binds (ps := ["self"]) fun _ _ _ _ _ _ us hl => (by obtain ⟨_, rfl⟩ := len1 hl; rfl), ⟨a_Ringwide, i_Ringwide, k_Ringwide⟩, fun_mk (st := s_Ringtall) l_Ringtall c_Ringtall k_Ringtall, (fun_mk (st := s_Ringtall) l_Ringtall c_Ringtall k_Ringtall).binds (ps := ["self"]) fun _ _ _ _ _ _ us hl => (by obtain ⟨_, rfl⟩ := len1 hl; rfl), ⟨a_Ringtall, i_Ringtall, k_Ringtall⟩, fun_mk (st := s_Ringbitsalong) l_Ringbitsalong c_Ringbitsalong k_Ringbitsalong, (fun_mk (st := s_Ringbitsalong) l_Ringbitsalong c_Ringbitsalong k_Ringbitsalong).binds (ps := ["self", "way"]) fun _ _ _ _ _ _ us hl => (by obtain ⟨_, _, rfl⟩ := len2 hl; rfl), ⟨a_Ringbitsalong, i_Ringbitsalong, k_Ringbitsalong⟩, fun_mk (st := s_Ringbit) l_Ringbit c_Ringbit k_Ringbit, (fun_mk (st := s_Ringbit) l_Ringbit c_Ringbit k_Ringbit).binds (ps := ["self", "way", "k"]) fun _ _ _ _ _ _ us hl => (by obtain ⟨_, _, _, rfl⟩ := len3 hl; rfl), ⟨a_Ringbit, i_Ringbit, k_Ringbit⟩, fun_mk (st := s_Ringstitched) l_Ringstitched c_Ringstitched k_Ringstitched, (fun_mk (st := s_Ringstitched) l_Ringstitched c_Ringstitched k_Ringstitched).binds (ps := ["self", "way", "k", "step"]) fun _ _ _ _ _ _ us hl => (by obtain ⟨_, _, _, _, rfl⟩ := len4 hl; rfl), ⟨a_Ringstitched, i_Ringstitched, k_Ringstitched⟩, fun_mk (st := s_walk) l_walk c_walk k_walk, (fun_mk (st := s_walk) l_walk c_walk k_walk).binds (ps := ["ring", "start"]) fun _ _ _ _ _ _ us hl => (by obtain ⟨_, _, rfl⟩ := len2 hl; rfl), PySem.W.mg_of X G a_walk, fun_mk (st := s_ringrounds) l_ringrounds c_ringrounds k_ringrounds, (fun_mk (st := s_ringrounds) l_ringrounds c_ringrounds k_ringrounds).binds (ps := ["ring"]) fun _ _ _ _ _ _ us hl => (by obtain ⟨_, rfl⟩ := len1 hl; rfl), PySem.W.mg_of X G a_ringrounds, fun_mk (st := s_Lring) l_Lring c_Lring k_Lring, (fun_mk (st := s_Lring) l_Lring c_Lring k_Lring).binds (ps := ["_law_loop_here"]) fun _ _ _ _ _ _ us hl => (by obtain ⟨_, rfl⟩ := len1 hl; rfl), PySem.W.mg_of X G a_Lring, fun_mk (st := s_Lbits) l_Lbits c_Lbits k_Lbits, (fun_mk (st := s_Lbits) l_Lbits c_Lbits k_Lbits).binds (ps := ["_law_number", "_law_many"]) fun _ _ _ _ _ _ us hl => (by obtain ⟨_, _, rfl⟩ := len2 hl; rfl), PySem.W.mg_of X G a_Lbits, fun_mk (st := s_Lrow) l_Lrow c_Lrow k_Lrow, (fun_mk (st := s_Lrow) l_Lrow c_Lrow k_Lrow).binds (ps := ["_law_some", "_law_many"]) fun _ _ _ _ _ _ us hl => (by obtain ⟨_, _, rfl⟩ := len2 hl; rfl), PySem.W.mg_of X G a_Lrow, fun_mk (st := s_Lloop) l_Lloop c_Lloop k_Lloop, (fun_mk (st := s_Lloop) l_Lloop c_Lloop k_Lloop).binds (ps := ["_law_some"]) fun _ _ _ _ _ _ us hl => (by obtain ⟨_, rfl⟩ := len1 hl; rfl), PySem.W.mg_of X G a_Lloop, fun_mk (st := s_Ldraws) l_Ldraws c_Ldraws k_Ldraws, (fun_mk (st := s_Ldraws) l_Ldraws c_Ldraws k_Ldraws).binds (ps := ["_law_script", "_law_many"]) fun _ _ _ _ _ _ us hl => (by obtain ⟨_, _, rfl⟩ := len2 hl; rfl), PySem.W.mg_of X G a_Ldraws, fun_mk (st := s_Lcommon) l_Lcommon c_Lcommon k_Lcommon, (fun_mk (st := s_Lcommon) l_Lcommon c_Lcommon k_Lcommon).binds (ps := ["_law_one", "_law_other"]) fun _ _ _ _ _ _ us hl => (by obtain ⟨_, _, rfl⟩ := len2 hl; rfl), PySem.W.mg_of X G a_Lcommon, fun_mk (st := s_law) l_law c_law k_law, (fun_mk (st := s_law) l_law c_law k_law).binds (ps := ["_law_script"]) fun _ _ _ _ _ _ us hl => (by obtain ⟨_, rfl⟩ := len1 hl; rfl), PySem.W.mg_of X G a_law, PySem.W.mg_of X G aX_BadSize, PySem.W.mg_of X G aX_BadBit, PySem.W.mg_of X G aX_NoLine, PySem.W.mg_of X G aX_NoStep, x_BadSize, x_BadBit, x_NoLine, x_NoStep, PySem.W.mg_of X G v_LONGEST_SIDE, PySem.W.mg_none_of X G z_isinstance, PySem.W.mg_none_of X G z_int, PySem.W.mg_none_of X G z_bool, PySem.W.mg_none_of X G z_all, PySem.W.mg_none_of X G z_len, PySem.W.mg_none_of X G z_tuple, PySem.W.mg_none_of X G z_list, PySem.W.mg_none_of X G z_range, PySem.W.mg_none_of X G z_abs, PySem.W.mg_none_of X G z_ValueError⟩, fun s v => .of_eq rfl⟩
local macro_rules | `(tactic| walk_at "rd1") => `(tactic| first
  | ((with_reducible refine' rd_var (v := ?kv) ?ke ?kh); (case ke => exact rfl))
  | (with_reducible refine rd_seqA fun _ _ => ?_) | (with_reducible refine rd_asg ?_) | (with_reducible refine rd_name ?_) | (with_reducible refine rd_ret ?_) | (with_reducible refine rd_retN ?_) | (with_reducible refine rd_drop ?_)
  | (with_reducible refine rd_ifS ?_) | (with_reducible refine rd_tB ?_) | (with_reducible refine rd_tTest ?_) | (with_reducible refine rd_exbl ?_) | (with_reducible refine rd_c ?_) | (with_reducible refine rd_op ?_) | (with_reducible refine rd_un ?_)
  | (with_reducible refine rd_andV ?_) | (with_reducible refine rd_orV ?_) | (with_reducible refine rd_notV ?_) | (with_reducible refine rd_and ?_) | (with_reducible refine rd_or ?_) | (with_reducible refine rd_not ?_) | (with_reducible refine rd_if ?_) | (with_reducible refine rd_true ?_)
  | (with_reducible refine rd_I0 ?_) | (with_reducible refine rd_U ?_) | (with_reducible refine rd_eqI ?_) | (with_reducible refine rd_neI ?_) | (with_reducible refine rd_eqS ?_) | (with_reducible refine rd_eqB ?_) | (with_reducible refine rd_neB ?_)
  | (with_reducible refine rd_chain ?_) | (with_reducible refine rd_call ?_) | (with_reducible refine rd_nil ?_) | (with_reducible refine rd_cons ?_) | (with_reducible refine rd_CB ?_) | (with_reducible refine rd_tup ?_) | (with_reducible refine rd_lst ?_)
  | (with_reducible refine rd_next ?_) | ((with_reducible refine' rd_aug (x := ?kv) ?ke ?kh); (case ke => exact rfl)) | (with_reducible refine rd_ipI ?_) | (with_reducible refine rd_gcons ?_) | (with_reducible refine rd_gnil ?_) | (with_reducible refine rd_gsub ?_) | (with_reducible refine rd_sfld ?_) | (with_reducible refine rd_while ?_) | (with_reducible refine rd_comp ?_) | (with_reducible refine rd_fld ?_) | (with_reducible refine rd_meth ?_) | (with_reducible refine rd_make ?_) | (with_reducible refine rd_raise ?_) | (with_reducible refine rd_try ?_) | (with_reducible refine rd_callS ?_) | (with_reducible refine rd_methS ?_) | (with_reducible refine rd_makeS ?_) | (with_reducible refine rd_bm ?_) | (with_reducible refine rd_bm0 ?_) | (with_reducible refine rd_sl ?_) | (with_reducible refine rd_nopart ?_) | (with_reducible refine rd_part ?_) | (with_reducible refine rd_exint ?_) | (with_reducible refine rd_exref ?_)
  | (with_reducible refine rd_abs ?_) | (with_reducible refine rd_min2 ?_) | (with_reducible refine rd_max2 ?_) | (with_reducible refine rd_intB ?_) | (with_reducible refine rd_for ?_) | (with_reducible refine rd_rng1 ?_) | (with_reducible refine rd_ilist ?_) | (with_reducible refine rd_itup ?_) | (with_reducible refine rd_izipS ?_) | (with_reducible refine iteT ?_) | (with_reducible refine iteF ?_) | (with_reducible refine if_true_do ?_) | (with_reducible refine iteNN ?_) | (with_reducible refine iteTA ?_) | (with_reducible refine iteFA ?_) | ((with_reducible refine' rd_cut (r := ?kr) ?ke ?kh); (case ke => assumption)) | (dsimp only))
local macro_rules | `(tactic| walk_at "rd") => `(tactic| repeat walk_at "rd1")

section
variable {P : Program} {w : World} {K : PySem.W.Frag} {mg : Str → Option Value} {base : Heap} {t : Ad}
def isBit (i : Int) : Bool := decide (0 ≤ i) && decide (i < 2)
def sp_isnumber : Sp := fun vs H Q _ => ∃ i, vs = [.int i] ∧ Q (.bl true) H
theorem ok_isnumber (T : Txt K mg t) : FnOk P w K mg base CX0 1 t.f_isnumber t.d_isnumber ["value"] sp_isnumber := by
  refine T.F_isnumber.ok sc_isnumber (fun vs H Q E h => ?_) (fun cdv A outer s H vs Q E hr h => ?_)
  · obtain ⟨i, rfl, _⟩ := h; rfl
  · obtain ⟨i, rfl, k⟩ := h
    refine ⟨_, (pss_one (ps_ret (pe_and (pe_callB (cI_isinstK K rfl) rfl T.no_isinstance (by rfl) (pa_cons (pv 0) (pa_cons (pe_bltn (v := .ty "int") rfl T.no_int (by rfl : bootBuiltins "int" = some (.type "int")) rfl) pa_nil))) (pe_one (pe_not (pe_callB (cI_isinstK K rfl) rfl T.no_isinstance (by rfl) (pa_cons (pv 0) (pa_cons (pe_bltn (v := .ty "bool") rfl T.no_bool (by rfl : bootBuiltins "bool" = some (.type "bool")) rfl) pa_nil)))))))), ?_⟩
    walk_at "rd"
    refine rd_isi (.int i) kit_ii ?_
    walk_at "rd"
    refine rd_isi (.int i) kit_ib ?_
    walk_at "rd"
    exact k
def sp_isbelow : Sp := fun vs H Q _ => ∃ i b, vs = [.int i, .int b] ∧ Q (.bl (decide (0 ≤ i) && decide (i < b))) H
theorem ok_isbelow (T : Txt K mg t) : FnOk P w K mg base CX0 2 t.f_isbelow t.d_isbelow ["value", "bound"] sp_isbelow := by
  have G_isnumber := ok_isnumber (P := P) (w := w) (base := base) T
  refine T.F_isbelow.ok sc_isbelow (fun vs H Q E h => ?_) (fun cdv A outer s H vs Q E hr h => ?_)
  · obtain ⟨i, b, rfl, _⟩ := h; rfl
  · obtain ⟨i, b, rfl, k⟩ := h
    refine ⟨_, (pss_one (ps_ret (pe_and (pe_call G_isnumber (hr.mono (by first | decide | omega)) rfl T.mg_isnumber T.F_isnumber.kp T.b_isnumber .nil pass0 (pa_cons (pv 0) pa_nil)) (pe_one (pe_chain op_le op_lt pe_int (pv 0) (pv 1)))))), ?_⟩
    walk_at "rd"
    refine ⟨i, rfl, ?_⟩
    walk_at "rd"
    refine ite2 (fun h0 => ?_) (fun h0 => ?_)
    · walk_at "rd"
      rw [h0] at k
      exact k
    · rw [Bool.not_eq_true] at h0
      rw [h0] at k
      exact k
def sp_isbit : Sp := fun vs H Q _ => ∃ i, vs = [.int i] ∧ Q (.bl (isBit i)) H
theorem ok_isbit (T : Txt K mg t) : FnOk P w K mg base CX0 3 t.f_isbit t.d_isbit ["value"] sp_isbit := by
  have G_isbelow := ok_isbelow (P := P) (w := w) (base := base) T
  refine T.F_isbit.ok sc_isbit (fun vs H Q E h => ?_) (fun cdv A outer s H vs Q E hr h => ?_)
  · obtain ⟨i, rfl, _⟩ := h; rfl
  · obtain ⟨i, rfl, k⟩ := h
    refine ⟨_, (pss_one (ps_ret (pe_call G_isbelow (hr.mono (by first | decide | omega)) rfl T.mg_isbelow T.F_isbelow.kp T.b_isbelow .nil pass0 (pa_cons (pv 0) (pa_cons pe_int pa_nil))))), ?_⟩
    walk_at "rd"
    exact ⟨i, 2, rfl, k⟩
/-- a side's length -/
def isSide (n : Int) : Bool := decide (0 < n) && decide (n < 41)
def sp_isside : Sp := fun vs H Q _ => ∃ i, vs = [.int i] ∧ Q (.bl (isSide i)) H
theorem ok_isside (T : Txt K mg t) : FnOk P w K mg base CX0 3 t.f_isside t.d_isside ["count"] sp_isside := by
  have G_isbelow := ok_isbelow (P := P) (w := w) (base := base) T
  refine T.F_isside.ok sc_isside (fun vs H Q E h => ?_) (fun cdv A outer s H vs Q E hr h => ?_)
  · obtain ⟨i, rfl, _⟩ := h; rfl
  · obtain ⟨i, rfl, k⟩ := h
    refine ⟨_, (pss_one (ps_ret (pe_and (pe_call G_isbelow (hr.mono (by first | decide | omega)) rfl T.mg_isbelow T.F_isbelow.kp T.b_isbelow .nil pass0 (pa_cons (pv 0) (pa_cons (pe_op op_add (pe_glob (v := .int 40) rfl T.mg_LONGEST_SIDE ⟨_, rfl⟩) pe_int) pa_nil))) (pe_one (pe_cmpR op_gt (pv 0) pe_int (nomark _)))))), ?_⟩
    walk_at "rd"
    refine ⟨i, _, rfl, ?_⟩
    walk_at "rd"
    refine ite2 (fun h0 => ?_) (fun h0 => ?_)
    · walk_at "rd"
      have e : isSide i = decide (0 < i) := by
        rw [Bool.and_eq_true, decide_eq_true_eq, decide_eq_true_eq] at h0
        unfold isSide
        rw [decide_eq_true (by omega : i < 41), Bool.and_true]
      rw [e] at k
      exact k
    · have e : isSide i = false := by
        rw [Bool.and_eq_true, decide_eq_true_eq, decide_eq_true_eq] at h0
        unfold isSide
        by_cases hi : 0 < i
        · rw [decide_eq_false (by omega : ¬ i < 41), Bool.and_false]
        · rw [decide_eq_false hi, Bool.false_and]
      rw [e] at k
      exact k
end

section
variable {P : Program} {w : World} {K : PySem.W.Frag} {mg : Str → Option Value} {base : Heap} {t : Ad}
def sp_allbits : Sp := fun vs H Q _ => ∃ (p : Addr) (ns : List Int), vs = [.ref p] ∧ H p = some (.lst (ns.map V.int)) ∧ ns.length ≤ 1000 ∧ ∀ H', Same H H' → Q (.bl (ns.all isBit)) H'
theorem ok_allbits (T : Txt K mg t) : FnOk P w K mg base CX0 4 t.f_allbits t.d_allbits ["values"] sp_allbits := by
  have G_isbit := ok_isbit (P := P) (w := w) (base := base) T
  refine T.F_allbits.ok sc_allbits (fun vs H Q E h => ?_) (fun cdv A outer s H vs Q E hr h => ?_)
  · obtain ⟨p, ns, rfl, _⟩ := h; rfl
  · obtain ⟨p, ns, rfl, hp, hl, k⟩ := h
    refine ⟨_, (pss_one (ps_ret (pe_callB (cI_allK K rfl rfl) rfl T.no_all (by rfl) (pa_cons (pe_comp (N := ["value"]) (cap := [none]) rfl ⟨rfl, rfl, rfl, rfl, rfl, rfl⟩ (pi_list (pv 0)) (fun _ _ _ => (pg_name (i := 0) (show (["value"] : List Str).Nodup by decide +kernel) rfl (Or.inl rfl))) (fun _ _ _ => pts_nil) (fun _ _ _ => (pe_call G_isbit (hr.mono (by first | decide | omega)) rfl T.mg_isbit T.F_isbit.kp T.b_isbit .nil pass0 (pa_cons (pv 0) pa_nil)))) pa_nil)))), ?_⟩
    walk_at "rd"
    refine ⟨⟨_, SqL.of hp⟩, fun l hn => ?_⟩
    refine compW_list (fun v => match v with | .int i => .bl (isBit i) | _ => .non) (SqL.of hp) (by rw [List.length_map]; exact hl) hn (fun x o H' Q' hx s1 q => ?_) (fun H' s1 e => ?_)
    · obtain ⟨i, _, rfl⟩ := List.mem_map.mp hx
      walk_at "rd"
      exact ⟨i, rfl, q H' (Same.refl _)⟩
    · walk_at "rd"
      have e' : H' l = some (.lst ((ns.map isBit).map V.bl)) := by rw [e, List.map_map, List.map_map]; rfl
      refine rd_all e' ?_
      rw [List.all_map]
      exact k H' s1
/-! a cloth -/
def bfl (a b : Addr) (w h : Int) : List (Str × V) := putF "row_bits" (.ref b) (putF "col_bits" (.ref a) (putF "rows_count" (.int h) (putF "columns_count" (.int w) [])))
def cfl (s : Int) (a b : Addr) (w h : Int) : List (Str × V) := putF "first_colour" (.int s) (bfl a b w h)
abbrev NoF (m : Str) : Prop := ((¬ m = "first_colour") ∧ ¬ m = "col_bits") ∧ (¬ m = "row_bits") ∧ (¬ m = "columns_count") ∧ ¬ m = "rows_count"
theorem bfl_w {w h : Int} (a b : Addr) : (bfl a b w h).lookup ("columns_count" : Str) = some (.int w) := by
  unfold bfl; rw [lookup_putF, if_neg (by decide +kernel), lookup_putF, if_neg (by decide +kernel), lookup_putF, if_neg (by decide +kernel), lookup_putF, if_pos rfl]
theorem bfl_h {w h : Int} (a b : Addr) : (bfl a b w h).lookup ("rows_count" : Str) = some (.int h) := by
  unfold bfl; rw [lookup_putF, if_neg (by decide +kernel), lookup_putF, if_neg (by decide +kernel), lookup_putF, if_pos rfl]
theorem bfl_c {w h : Int} (a b : Addr) : (bfl a b w h).lookup ("col_bits" : Str) = some (.ref a) := by
  unfold bfl; rw [lookup_putF, if_neg (by decide +kernel), lookup_putF, if_pos rfl]
theorem bfl_r {w h : Int} (a b : Addr) : (bfl a b w h).lookup ("row_bits" : Str) = some (.ref b) := by
  unfold bfl; rw [lookup_putF, if_pos rfl]
theorem bfl_no {w h : Int} (a b : Addr) {m : Str} (n : NoF m) : (bfl a b w h).lookup m = none := by
  obtain ⟨⟨n1, n2⟩, n3, n4, n5⟩ := n
  unfold bfl; rw [lookup_putF, if_neg n3, lookup_putF, if_neg n2, lookup_putF, if_neg n5, lookup_putF, if_neg n4]; rfl
structure BoardAt (C : Addr) (H : Hp) (p : Addr) (w h : Int) (cs rs : List Int) : Prop where
  ob : ∃ dx a b, H p = some (.ins C dx (bfl a b w h)) ∧ H a = some (.tup (cs.map V.int)) ∧ H b = some (.tup (rs.map V.int))
structure ClothAt (C : Addr) (H : Hp) (p : Addr) (s : Int) (cs rs : List Int) : Prop where
  ob : ∃ dx a b, H p = some (.ins C dx (cfl s a b ((cs.length : Int) + 1) ((rs.length : Int) + 1))) ∧ H a = some (.tup (cs.map V.int)) ∧ H b = some (.tup (rs.map V.int))
def Bits (l : List Int) : Prop := l.length ≤ 39 ∧ ∀ z ∈ l, z = 0 ∨ z = 1
def KpBut (H : Hp) (p : Addr) (H' : Hp) : Prop := ∀ b o, H b = some o → b ≠ p → H' b = some o
def bitsOk (s : Int) (cs rs : List Int) : Bool := isBit s && (cs.all isBit && rs.all isBit)

end

section
variable {P : Program} {w : World} {K : PySem.W.Frag} {mg : Str → Option Value} {base : Heap} {t : Ad}
def spx_BoardInitR (C BB : Addr) : Sp := fun vs H Q E => ∃ (p dx c r : Addr) (w h : Int) (cs rs : List Int), vs = [.ref p, .int w, .int h, .ref c, .ref r] ∧ H p = some (.ins C dx []) ∧ H c = some (.lst (cs.map V.int)) ∧ H r = some (.lst (rs.map V.int)) ∧
  cs.length ≤ 1000 ∧ rs.length ≤ 1000 ∧ (((cs.all isBit && rs.all isBit) = false ∧ ∀ H', Same H H' → E (.ref BB) none H') ∨
    ((cs.all isBit && rs.all isBit) = true ∧ ∀ H', KpBut H p H' → BoardAt C H' p w h cs rs → Q .non H'))
theorem okx_BoardInitR (T : Txt K mg t) : FnOk P w K mg base (CX1 P w) 5 t.f_BoardInit t.d_BoardInit ["self", "wide", "tall", "cols", "rows"] (spx_BoardInitR t.a_Ring t.a_BadBit) := by
  have G_allbits := ok_allbits (P := P) (w := w) (base := base) T
  refine T.F_BoardInit.ok1 sc_BoardInit (fun vs H Q E h => ?_) (fun cdv A outer s H vs Q E hr h => ?_)
  · obtain ⟨p, dx, c, r, wd, ht, cs, rs, rfl, _⟩ := h; rfl
  · obtain ⟨p, dx, c, r, wd, ht, cs, rs, rfl, hp, hc, hr', lc, lr, k⟩ := h
    refine cutC (ps_if (pt_not (PW.pt (pw_and (pt_val (pe_call G_allbits.up (hr.mono (by first | decide | omega)) rfl T.mg_allbits T.F_allbits.kp T.b_allbits .nil pass1 (pa_cons (pv 3) pa_nil))) (pw_and1 (pt_val (pe_call G_allbits.up (hr.mono (by first | decide | omega)) rfl T.mg_allbits T.F_allbits.kp T.b_allbits .nil pass1 (pa_cons (pv 4) pa_nil))))))) (pss_one (ps_raiseK T.mg_BadBit T.x_BadBit PySem.F.excBase_ValueError rfl rfl (fun _ _ _ _ _ _ _ _ I m q => xe_new I m q) (pa_cons pe_str pa_nil))) pss_nil) fun _ _ => cutC (ps_fld (pv 0) (pv 1) rfl) fun _ _ => cutC (ps_fld (pv 0) (pv 2) rfl) fun _ _ => cutC (ps_fld (pv 0) (pe_callTy (cI_tupleK K rfl) rfl T.no_tuple (by rfl) (pa_cons (pv 3) pa_nil)) rfl) fun _ _ => cutE (ps_fld (pv 0) (pe_callTy (cI_tupleK K rfl) rfl T.no_tuple (by rfl) (pa_cons (pv 4) pa_nil)) rfl) fun _ _ => ?_
    walk_at "rd"
    refine ⟨c, cs, rfl, hc, lc, fun H1 s1 => ?_⟩
    cases b2 : cs.all isBit with
    | false =>
      walk_at "rd"
      refine ⟨by show 1 ≤ sizeLine; decide, ?_⟩
      rcases k with ⟨_, e⟩ | ⟨y, _⟩
      · exact e _ s1
      · rw [b2] at y; cases y
    | true =>
      walk_at "rd"
      refine ⟨r, rs, rfl, s1 _ _ hr', lr, fun H2 s2 => ?_⟩
      have s12 := s1.trans s2
      cases b3 : rs.all isBit with
      | false =>
        walk_at "rd"
        refine ⟨by show 1 ≤ sizeLine; decide, ?_⟩
        rcases k with ⟨_, e⟩ | ⟨y, _⟩
        · exact e _ s12
        · rw [b2, b3] at y; cases y
      | true =>
        walk_at "rd"
        have k : ∀ H', KpBut H p H' → BoardAt t.a_Ring H' p wd ht cs rs → Q .non H' := by
          rcases k with ⟨y, _⟩ | ⟨_, z⟩
          · rw [b2, b3] at y; cases y
          · exact z
        have npc : c ≠ p := ne_of hc hp (by intro z; cases z)
        have npr : r ≠ p := ne_of hr' hp (by intro z; cases z)
        refine rd_sfldv (s12 _ _ hp) T.cl_Ring T.naR_columns_count (by show 0 < 1000; decide) ?_
        walk_at "rd"
        refine rd_sfldv upd_same T.cl_Ring T.naR_rows_count (Nat.lt_of_le_of_lt (length_putF _ _ _) (by show 1 < 1000; decide)) ?_
        rw [upd_upd]
        walk_at "rd"
        refine rd_tupleL (by rw [upd_ne npc]; exact s12 _ _ hc) fun a ha => ?_
        have pa : p ≠ a := by intro z; subst z; rw [upd_same] at ha; cases ha
        walk_at "rd"
        refine rd_sfldv (by rw [upd_ne pa, upd_same]) T.cl_Ring T.naR_col_bits (Nat.lt_of_le_of_lt (length_putF _ _ _) (Nat.lt_of_le_of_lt (Nat.succ_le_succ (length_putF _ _ _)) (by show 2 < 1000; decide))) ?_
        walk_at "rd"
        have ra : r ≠ a := by intro z; subst z; rw [upd_ne npr, s12 _ _ hr'] at ha; cases ha
        refine rd_tupleL (by rw [upd_ne npr, upd_ne ra, upd_ne npr]; exact s12 _ _ hr') fun b hb => ?_
        have pb : p ≠ b := by intro z; subst z; rw [upd_same] at hb; cases hb
        have ab : a ≠ b := by intro z; subst z; rw [upd_ne pa.symm, upd_same] at hb; cases hb
        walk_at "rd"
        refine rd_sfldv (by rw [upd_ne pb, upd_same]) T.cl_Ring T.naR_row_bits (Nat.lt_of_le_of_lt (length_putF _ _ _) (Nat.lt_of_le_of_lt (Nat.succ_le_succ (length_putF _ _ _)) (Nat.lt_of_le_of_lt (Nat.succ_le_succ (Nat.succ_le_succ (length_putF _ _ _))) (by show 3 < 1000; decide)))) ?_
        walk_at "rd"
        refine k _ (fun x o e hx => ?_) ⟨⟨dx, a, b, upd_same, ?_, ?_⟩⟩
        · have e2 := s12 _ _ e
          have xa : x ≠ a := by intro z; subst z; rw [upd_ne hx, e2] at ha; cases ha
          have xb : x ≠ b := by intro z; subst z; rw [upd_ne hx, upd_ne xa, upd_ne hx, e2] at hb; cases hb
          rw [upd_ne hx, upd_ne xb, upd_ne hx, upd_ne xa, upd_ne hx]
          exact e2
        · rw [upd_ne pa.symm, upd_ne ab, upd_ne pa.symm, upd_same]
        · rw [upd_ne pb.symm, upd_same]

def sp_isringside : Sp := fun vs H Q _ => ∃ i, vs = [.int i] ∧ Q (.bl (isSide i && decide (i % 2 = 0))) H
theorem ok_isringside (T : Txt K mg t) : FnOk P w K mg base CX0 4 t.f_isringside t.d_isringside ["count"] sp_isringside := by
  have G_isside := ok_isside (P := P) (w := w) (base := base) T
  refine T.F_isringside.ok sc_isringside (fun vs H Q E h => ?_) (fun cdv A outer s H vs Q E hr h => ?_)
  · obtain ⟨i, rfl, _⟩ := h; rfl
  · obtain ⟨i, rfl, k⟩ := h
    refine ⟨_, (pss_one (ps_ret (pe_and (pe_call G_isside (hr.mono (by first | decide | omega)) rfl T.mg_isside T.F_isside.kp T.b_isside .nil pass0 (pa_cons (pv 0) pa_nil)) (pe_one (pe_cmpR op_eq (pe_op op_mod (pv 0) pe_int) pe_int (nomark _)))))), ?_⟩
    walk_at "rd"
    refine ⟨i, rfl, ?_⟩
    cases e : isSide i with
    | false => rw [e] at k; walk_at "rd"; exact k
    | true => rw [e] at k; walk_at "rd"; refine rd_I (by decide) ?_; walk_at "rd"; exact k
/-- a ring's side -/
def rOk (n : Nat) : Prop := 2 ≤ n ∧ n ≤ 40 ∧ n % 2 = 0
instance (n : Nat) : Decidable (rOk n) := by unfold rOk; infer_instance
theorem rside {n : Nat} : (isSide (n : Int) && decide ((n : Int) % 2 = 0)) = decide (rOk n) := by
  unfold isSide
  by_cases h : rOk n
  · rw [decide_eq_true h]
    obtain ⟨h1, h2, h3⟩ := h
    rw [decide_eq_true (by omega : (0 : Int) < (n : Int)), decide_eq_true (by omega : (n : Int) < 41), decide_eq_true (by omega : (n : Int) % 2 = 0)]; rfl
  · rw [decide_eq_false h, Bool.eq_false_iff]
    intro z
    rw [Bool.and_eq_true, Bool.and_eq_true, decide_eq_true_eq, decide_eq_true_eq, decide_eq_true_eq] at z
    exact h ⟨by omega, by omega, by omega⟩
def RingAt (C : Addr) (H : Hp) (p : Addr) (cs rs : List Int) : Prop := BoardAt C H p cs.length rs.length cs rs
theorem RingAt.mono {C : Addr} {H H' : Hp} {p : Addr} {cs rs : List Int} (e : Same H H') (c : RingAt C H p cs rs) : RingAt C H' p cs rs := by
  obtain ⟨dx, a, b, h1, h2, h3⟩ := c.ob
  exact ⟨dx, a, b, e _ _ h1, e _ _ h2, e _ _ h3⟩
def spx_RingInit (C BS BB : Addr) : Sp := fun vs H Q E => ∃ (p dx c r : Addr) (cs rs : List Int), vs = [.ref p, .ref c, .ref r] ∧ H p = some (.ins C dx []) ∧ H c = some (.lst (cs.map V.int)) ∧ H r = some (.lst (rs.map V.int)) ∧
  cs.length ≤ 1000 ∧ rs.length ≤ 1000 ∧ ((¬ (rOk cs.length ∧ rOk rs.length) ∧ E (.ref BS) none H) ∨ ((rOk cs.length ∧ rOk rs.length) ∧ (cs.all isBit && rs.all isBit) = false ∧ ∀ H', Same H H' → E (.ref BB) none H') ∨
    ((rOk cs.length ∧ rOk rs.length) ∧ (cs.all isBit && rs.all isBit) = true ∧ ∀ H', KpBut H p H' → RingAt C H' p cs rs → Q .non H'))
theorem okx_RingInit (T : Txt K mg t) : FnOk P w K mg base (CX1 P w) 6 t.f_RingInit t.d_RingInit ["self", "cols", "rows"] (spx_RingInit t.a_Ring t.a_BadSize t.a_BadBit) := by
  have G_isringside := ok_isringside (P := P) (w := w) (base := base) T
  have GX_BoardInit := okx_BoardInitR (P := P) (w := w) (base := base) T
  refine T.F_RingInit.ok1 sc_RingInit (fun vs H Q E h => ?_) (fun cdv A outer s H vs Q E hr h => ?_)
  · obtain ⟨p, dx, c, r, cs, rs, rfl, _⟩ := h; rfl
  · obtain ⟨p, dx, c, r, cs, rs, rfl, hp, hc, hr', lc, lr, k⟩ := h
    refine ⟨_, (pss_cons (ps_if (pt_not (PW.pt (pw_and (pt_val (pe_call G_isringside.up (hr.mono (by first | decide | omega)) rfl T.mg_isringside T.F_isringside.kp T.b_isringside .nil pass1 (pa_cons (pe_callB (cI_lenK K rfl) rfl T.no_len (by rfl) (pa_cons (pv 1) pa_nil)) pa_nil))) (pw_and1 (pt_val (pe_call G_isringside.up (hr.mono (by first | decide | omega)) rfl T.mg_isringside T.F_isringside.kp T.b_isringside .nil pass1 (pa_cons (pe_callB (cI_lenK K rfl) rfl T.no_len (by rfl) (pa_cons (pv 2) pa_nil)) pa_nil))))))) (pss_one (ps_raiseK T.mg_BadSize T.x_BadSize PySem.F.excBase_ValueError rfl rfl (fun _ _ _ _ _ _ _ _ I m q => xe_new I m q) (pa_cons pe_str pa_nil))) pss_nil) (pss_one (ps_expr (pe_callC rfl T.mg_Board T.cf_BoardInit GX_BoardInit (hr.mono (by first | decide | omega)) T.b_BoardInit .nil pass1 (pa_cons (pv 0) (pa_cons (pe_callB (cI_lenK K rfl) rfl T.no_len (by rfl) (pa_cons (pv 1) pa_nil)) (pa_cons (pe_callB (cI_lenK K rfl) rfl T.no_len (by rfl) (pa_cons (pv 2) pa_nil)) (pa_cons (pv 1) (pa_cons (pv 2) pa_nil))))))))), ?_⟩
    walk_at "rd"
    refine rd_lenL hc ?_
    walk_at "rd"
    refine ⟨_, rfl, ?_⟩
    rw [List.length_map, rside]
    have sz : (¬ (rOk cs.length ∧ rOk rs.length) → E (.ref t.a_BadSize) none H) := fun n => by
      rcases k with ⟨_, e⟩ | ⟨z, _⟩ | ⟨z, _⟩
      · exact e
      · exact absurd z n
      · exact absurd z n
    by_cases c1 : rOk cs.length
    · rw [decide_eq_true c1]
      walk_at "rd"
      refine rd_lenL hr' ?_
      walk_at "rd"
      refine ⟨_, rfl, ?_⟩
      rw [List.length_map, rside]
      by_cases c2 : rOk rs.length
      · rw [decide_eq_true c2]
        walk_at "rd"
        refine rd_lenL hc ?_
        walk_at "rd"
        refine rd_lenL hr' ?_
        walk_at "rd"
        rw [List.length_map, List.length_map]
        refine ⟨p, dx, c, r, _, _, cs, rs, rfl, hp, hc, hr', lc, lr, ?_⟩
        rcases k with ⟨z, _⟩ | ⟨_, b, e⟩ | ⟨_, b, q⟩
        · exact absurd ⟨c1, c2⟩ z
        · exact .inl ⟨b, e⟩
        · refine .inr ⟨b, fun H' kp rg => ?_⟩
          walk_at "rd"
          exact q H' kp rg
      · rw [decide_eq_false c2]
        walk_at "rd"
        exact ⟨by show 1 ≤ sizeLine; decide, sz fun z => c2 z.2⟩
    · rw [decide_eq_false c1]
      walk_at "rd"
      exact ⟨by show 1 ≤ sizeLine; decide, sz fun z => c1 z.1⟩
def RBits (l : List Int) : Prop := rOk l.length ∧ ∀ z ∈ l, z = 0 ∨ z = 1
theorem RBits.all {l : List Int} (h : RBits l) : l.all isBit = true := by
  rw [List.all_eq_true]
  intro z hz
  rcases h.2 z hz with rfl | rfl <;> rfl
def sp_RingInit (C : Addr) : Sp := fun vs H Q _ => ∃ (p dx c r : Addr) (cs rs : List Int), vs = [.ref p, .ref c, .ref r] ∧ H p = some (.ins C dx []) ∧ H c = some (.lst (cs.map V.int)) ∧ H r = some (.lst (rs.map V.int)) ∧ RBits cs ∧ RBits rs ∧
  ∀ H', KpBut H p H' → RingAt C H' p cs rs → Q .non H'
theorem ok_RingInit (T : Txt K mg t) : FnOk P w K mg base CX0 6 t.f_RingInit t.d_RingInit ["self", "cols", "rows"] (sp_RingInit t.a_Ring) :=
  (okx_RingInit T).down fun vs H Q E hh => by
    obtain ⟨p, dx, c, r, cs, rs, e, hp, hc, hr, bc, br, k⟩ := hh
    exact ⟨p, dx, c, r, cs, rs, e, hp, hc, hr, by have := bc.1.2.1; omega, by have := br.1.2.1; omega, .inr (.inr ⟨⟨bc.1, br.1⟩, by rw [bc.all, br.all]; rfl, k⟩)⟩
end

section
variable {P : Program} {w : World} {K : PySem.W.Frag} {mg : Str → Option Value} {base : Heap} {t : Ad}
def sp_Ringwide (C : Addr) : Sp := fun vs H Q _ => ∃ (p : Addr) (cs rs : List Int), vs = [.ref p] ∧ RingAt C H p cs rs ∧ Q (.int cs.length) H
theorem ok_Ringwide (T : Txt K mg t) : FnOk P w K mg base CX0 1 t.f_Ringwide t.d_Ringwide ["self"] (sp_Ringwide t.a_Ring) := by
  refine T.F_Ringwide.ok sc_Ringwide (fun vs H Q E h => ?_) (fun cdv A outer s H vs Q E hr h => ?_)
  · obtain ⟨p, cs, rs, rfl, _⟩ := h; rfl
  · obtain ⟨p, cs, rs, rfl, ⟨dx, a, b, h1, h2, h3⟩, k⟩ := h
    refine ⟨_, (pss_one (ps_ret (pe_fldK K rfl (pv 0) rfl))), ?_⟩
    walk_at "rd"
    refine rd_fldv h1 T.cl_Ring T.naR_columns_count (bfl_w _ _) ?_
    walk_at "rd"
    exact k
def sp_Ringtall (C : Addr) : Sp := fun vs H Q _ => ∃ (p : Addr) (cs rs : List Int), vs = [.ref p] ∧ RingAt C H p cs rs ∧ Q (.int rs.length) H
theorem ok_Ringtall (T : Txt K mg t) : FnOk P w K mg base CX0 1 t.f_Ringtall t.d_Ringtall ["self"] (sp_Ringtall t.a_Ring) := by
  refine T.F_Ringtall.ok sc_Ringtall (fun vs H Q E h => ?_) (fun cdv A outer s H vs Q E hr h => ?_)
  · obtain ⟨p, cs, rs, rfl, _⟩ := h; rfl
  · obtain ⟨p, cs, rs, rfl, ⟨dx, a, b, h1, h2, h3⟩, k⟩ := h
    refine ⟨_, (pss_one (ps_ret (pe_fldK K rfl (pv 0) rfl))), ?_⟩
    walk_at "rd"
    refine rd_fldv h1 T.cl_Ring T.naR_rows_count (bfl_h _ _) ?_
    walk_at "rd"
    exact k
/-- the bits of a way -/
def IsWay (w : Str) (cs rs bs : List Int) : Prop := (w = "col" ∧ bs = cs) ∨ (w = "row" ∧ bs = rs)
theorem rc_ne : ¬ (("row" : Str) = "col") := by decide +kernel
def spx_Ringbitsalong (C NL : Addr) : Sp := fun vs H Q E => ∃ (p : Addr) (w : Str) (cs rs : List Int), vs = [.ref p, .str w] ∧ RingAt C H p cs rs ∧
  ((∃ bs, IsWay w cs rs bs ∧ ∀ a, H a = some (.tup (bs.map V.int)) → Q (.ref a) H) ∨ (¬ w = "col" ∧ ¬ w = "row" ∧ E (.ref NL) none H))
theorem okx_Ringbitsalong (T : Txt K mg t) : FnOk P w K mg base (CX1 P w) 1 t.f_Ringbitsalong t.d_Ringbitsalong ["self", "way"] (spx_Ringbitsalong t.a_Ring t.a_NoLine) := by
  refine T.F_Ringbitsalong.ok1 sc_Ringbitsalong (fun vs H Q E h => ?_) (fun cdv A outer s H vs Q E hr h => ?_)
  · obtain ⟨p, w, cs, rs, rfl, _⟩ := h; rfl
  · obtain ⟨p, w, cs, rs, rfl, ⟨dx, a, b, h1, h2, h3⟩, hw⟩ := h
    refine cutC (ps_if (pt_cmpR op_eq (pv 1) pe_str (nomark _)) (pss_one (ps_ret (pe_fldK K rfl (pv 0) rfl))) pss_nil) fun _ _ => cutC (ps_if (pt_cmpR op_eq (pv 1) pe_str (nomark _)) (pss_one (ps_ret (pe_fldK K rfl (pv 0) rfl))) pss_nil) fun _ _ => cutE (ps_raiseK T.mg_NoLine T.x_NoLine PySem.F.excBase_ValueError rfl rfl (fun _ _ _ _ _ _ _ _ I m q => xe_new I m q) (pa_cons pe_str pa_nil)) fun _ _ => ?_
    walk_at "rd"
    rcases hw with ⟨bs, ⟨rfl, rfl⟩ | ⟨rfl, rfl⟩, k⟩ | ⟨n1, n2, k⟩
    · rw [decide_eq_true (rfl : ("col" : Str) = "col")]
      walk_at "rd"
      refine rd_fldv h1 T.cl_Ring T.naR_col_bits (bfl_c _ _) ?_
      walk_at "rd"
      exact k a h2
    · rw [decide_eq_false rc_ne]
      walk_at "rd"
      rw [decide_eq_true (rfl : ("row" : Str) = "row")]
      walk_at "rd"
      refine rd_fldv h1 T.cl_Ring T.naR_row_bits (bfl_r _ _) ?_
      walk_at "rd"
      exact k b h3
    · rw [decide_eq_false n1]
      walk_at "rd"
      rw [decide_eq_false n2]
      walk_at "rd"
      exact ⟨by show 1 ≤ sizeLine; decide, k⟩
theorem below_t {x b : Int} (h : 0 ≤ x ∧ x < b) : (decide (0 ≤ x) && decide (x < b)) = true := by rw [decide_eq_true h.1, decide_eq_true h.2]; rfl
theorem below_f {x b : Int} (h : ¬ (0 ≤ x ∧ x < b)) : (decide (0 ≤ x) && decide (x < b)) = false := by
  rw [Bool.eq_false_iff]
  intro z
  rw [Bool.and_eq_true, decide_eq_true_eq, decide_eq_true_eq] at z
  exact h z
/-- there is no such line -/
def NoLn (w : Str) (k : Int) (cs rs : List Int) : Prop := (¬ w = "col" ∧ ¬ w = "row") ∨ ∃ bs, IsWay w cs rs bs ∧ ¬ (0 ≤ k ∧ k < bs.length)
def spx_Ringbit (C NL : Addr) : Sp := fun vs H Q E => ∃ (p : Addr) (w : Str) (k : Int) (cs rs : List Int), vs = [.ref p, .str w, .int k] ∧ RingAt C H p cs rs ∧
  ((∃ bs, IsWay w cs rs bs ∧ 0 ≤ k ∧ k < bs.length ∧ Q (.int (bs.getD k.toNat 0)) H) ∨ (NoLn w k cs rs ∧ E (.ref NL) none H))
theorem okx_Ringbit (T : Txt K mg t) : FnOk P w K mg base (CX1 P w) 3 t.f_Ringbit t.d_Ringbit ["self", "way", "k"] (spx_Ringbit t.a_Ring t.a_NoLine) := by
  have G_isbelow := ok_isbelow (P := P) (w := w) (base := base) T
  have GX_Ringbitsalong := okx_Ringbitsalong (P := P) (w := w) (base := base) T
  refine T.F_Ringbit.ok1 sc_Ringbit (fun vs H Q E h => ?_) (fun cdv A outer s H vs Q E hr h => ?_)
  · obtain ⟨p, w, k, cs, rs, rfl, _⟩ := h; rfl
  · obtain ⟨p, w, k, cs, rs, rfl, hc, h⟩ := h
    obtain ⟨dx, a, b, e1, e2, e3⟩ := hc.ob
    refine cutC (ps_set (i := 3) sc_Ringbit.nd rfl (Or.inl rfl) (pe_meth (pv 0) T.cl_Ring T.m_Ringbitsalong GX_Ringbitsalong (hr.mono (by first | decide | omega)) T.b_Ringbitsalong .nil pass1 (pa_cons (pv 1) pa_nil))) fun _ _ => cutC (ps_if (pt_not (pt_val (pe_call G_isbelow.up (hr.mono (by first | decide | omega)) rfl T.mg_isbelow T.F_isbelow.kp T.b_isbelow .nil pass1 (pa_cons (pv 2) (pa_cons (pe_callB (cI_lenK K rfl) rfl T.no_len (by rfl) (pa_cons (pv 3) pa_nil)) pa_nil))))) (pss_one (ps_raiseK T.mg_NoLine T.x_NoLine PySem.F.excBase_ValueError rfl rfl (fun _ _ _ _ _ _ _ _ I m q => xe_new I m q) (pa_cons pe_str pa_nil))) pss_nil) fun _ _ => cutE (ps_ret (pe_ix (ix_tupK K rfl) (pv 3) (pv 2) (fun _ _ => rfl))) fun _ _ => ?_
    walk_at "rd"
    refine rd_methv e1 (bfl_no _ _ (by decide +kernel)) ?_
    walk_at "rd"
    rcases h with ⟨bs, hw, h0, h1, q⟩ | ⟨⟨n1, n2⟩ | ⟨bs, hw, hn⟩, q⟩
    · refine ⟨p, w, cs, rs, rfl, hc, .inl ⟨bs, hw, fun z hz => ?_⟩⟩
      walk_at "rd"
      refine rd_lenT hz ?_
      walk_at "rd"
      refine ⟨k, _, rfl, ?_⟩
      rw [List.length_map, below_t ⟨h0, h1⟩]
      walk_at "rd"
      refine rd_ixT (SqT.of hz) (atI_ints h0 h1) ?_
      exact q
    · exact ⟨p, w, cs, rs, rfl, hc, .inr ⟨n1, n2, q⟩⟩
    · refine ⟨p, w, cs, rs, rfl, hc, .inl ⟨bs, hw, fun z hz => ?_⟩⟩
      walk_at "rd"
      refine rd_lenT hz ?_
      walk_at "rd"
      refine ⟨k, _, rfl, ?_⟩
      rw [List.length_map, below_f hn]
      walk_at "rd"
      exact ⟨by show 1 ≤ sizeLine; decide, q⟩
/-- the line is there, its step is not -/
def NoSt (w : Str) (k st : Int) (cs rs : List Int) : Prop := ∃ bs os, IsWay w cs rs bs ∧ IsWay w rs cs os ∧ 0 ≤ k ∧ k < bs.length ∧ ¬ (0 ≤ st ∧ st < (os.length : Int))
/-- a step of a line is a stitch -/
def stB (bs : List Int) (k st : Int) : Bool := decide ((st + bs.getD k.toNat 0) % 2 = 1)
def spx_Ringstitched (C NL NS : Addr) : Sp := fun vs H Q E => ∃ (p : Addr) (w : Str) (k st : Int) (cs rs : List Int), vs = [.ref p, .str w, .int k, .int st] ∧ RingAt C H p cs rs ∧
  ((∃ bs os, IsWay w cs rs bs ∧ IsWay w rs cs os ∧ 0 ≤ k ∧ k < bs.length ∧ 0 ≤ st ∧ st < os.length ∧ Q (.bl (stB bs k st)) H) ∨ (NoLn w k cs rs ∧ E (.ref NL) none H) ∨ (NoSt w k st cs rs ∧ E (.ref NS) none H))
theorem okx_Ringstitched (T : Txt K mg t) : FnOk P w K mg base (CX1 P w) 4 t.f_Ringstitched t.d_Ringstitched ["self", "way", "k", "step"] (spx_Ringstitched t.a_Ring t.a_NoLine t.a_NoStep) := by
  have G_isbelow := ok_isbelow (P := P) (w := w) (base := base) T
  have GX_Ringbit := okx_Ringbit (P := P) (w := w) (base := base) T
  have G_Ringwide := ok_Ringwide (P := P) (w := w) (base := base) T
  have G_Ringtall := ok_Ringtall (P := P) (w := w) (base := base) T
  refine T.F_Ringstitched.ok1 sc_Ringstitched (fun vs H Q E h => ?_) (fun cdv A outer s H vs Q E hr h => ?_)
  · obtain ⟨p, w, k, st, cs, rs, rfl, _⟩ := h; rfl
  · obtain ⟨p, w, k, st, cs, rs, rfl, hc, h⟩ := h
    obtain ⟨dx, a, b, e1, e2, e3⟩ := hc.ob
    refine cutC (ps_set (i := 4) sc_Ringstitched.nd rfl (Or.inl rfl) (pe_meth (pv 0) T.cl_Ring T.m_Ringbit GX_Ringbit (hr.mono (by first | decide | omega)) T.b_Ringbit .nil pass1 (pa_cons (pv 1) (pa_cons (pv 2) pa_nil)))) fun _ _ => cutC (ps_set (i := 5) sc_Ringstitched.nd rfl (Or.inl rfl) (pe_ifExp (pt_cmpR op_eq (pv 1) pe_str (nomark _)) (pe_meth0 (pv 0) T.cl_Ring T.m_Ringtall G_Ringtall.up (hr.mono (by first | decide | omega)) T.b_Ringtall .nil pass1) (pe_meth0 (pv 0) T.cl_Ring T.m_Ringwide G_Ringwide.up (hr.mono (by first | decide | omega)) T.b_Ringwide .nil pass1))) fun _ _ => cutC (ps_if (pt_not (pt_val (pe_call G_isbelow.up (hr.mono (by first | decide | omega)) rfl T.mg_isbelow T.F_isbelow.kp T.b_isbelow .nil pass1 (pa_cons (pv 3) (pa_cons (pv 5) pa_nil))))) (pss_one (ps_raiseK T.mg_NoStep T.x_NoStep PySem.F.excBase_ValueError rfl rfl (fun _ _ _ _ _ _ _ _ I m q => xe_new I m q) (pa_cons pe_str pa_nil))) pss_nil) fun _ _ => cutE (ps_ret (pe_cmpR op_eq (pe_op op_mod (pe_op op_add (pv 3) (pv 4)) pe_int) pe_int (nomark _))) fun _ _ => ?_
    walk_at "rd"
    refine rd_methv e1 (bfl_no _ _ (by decide +kernel)) ?_
    walk_at "rd"
    rcases h with ⟨bs, os, hw, ho, h0, h1, g0, g1, q⟩ | ⟨n, q⟩ | ⟨⟨bs, os, hw, ho, h0, h1, hn⟩, q⟩
    · refine ⟨p, w, k, cs, rs, rfl, hc, .inl ⟨bs, hw, h0, h1, ?_⟩⟩
      walk_at "rd"
      rcases ho with ⟨rfl, rfl⟩ | ⟨rfl, rfl⟩
      · rw [decide_eq_true (rfl : ("col" : Str) = "col")]
        walk_at "rd"
        refine rd_methv e1 (bfl_no _ _ (by decide +kernel)) ?_
        walk_at "rd"
        refine ⟨p, cs, _, rfl, hc, ?_⟩
        walk_at "rd"
        refine ⟨st, _, rfl, ?_⟩
        rw [below_t ⟨g0, g1⟩]
        walk_at "rd"
        refine rd_I (by decide) ?_
        walk_at "rd"
        exact q
      · rw [decide_eq_false rc_ne]
        walk_at "rd"
        refine rd_methv e1 (bfl_no _ _ (by decide +kernel)) ?_
        walk_at "rd"
        refine ⟨p, _, rs, rfl, hc, ?_⟩
        walk_at "rd"
        refine ⟨st, _, rfl, ?_⟩
        rw [below_t ⟨g0, g1⟩]
        walk_at "rd"
        refine rd_I (by decide) ?_
        walk_at "rd"
        exact q
    · exact ⟨p, w, k, cs, rs, rfl, hc, .inr ⟨n, q⟩⟩
    · refine ⟨p, w, k, cs, rs, rfl, hc, .inl ⟨bs, hw, h0, h1, ?_⟩⟩
      walk_at "rd"
      rcases ho with ⟨rfl, rfl⟩ | ⟨rfl, rfl⟩
      · rw [decide_eq_true (rfl : ("col" : Str) = "col")]
        walk_at "rd"
        refine rd_methv e1 (bfl_no _ _ (by decide +kernel)) ?_
        walk_at "rd"
        refine ⟨p, cs, _, rfl, hc, ?_⟩
        walk_at "rd"
        refine ⟨st, _, rfl, ?_⟩
        rw [below_f hn]
        walk_at "rd"
        exact ⟨by show 1 ≤ sizeLine; decide, q⟩
      · rw [decide_eq_false rc_ne]
        walk_at "rd"
        refine rd_methv e1 (bfl_no _ _ (by decide +kernel)) ?_
        walk_at "rd"
        refine ⟨p, _, rs, rfl, hc, ?_⟩
        walk_at "rd"
        refine ⟨st, _, rfl, ?_⟩
        rw [below_f hn]
        walk_at "rd"
        exact ⟨by show 1 ≤ sizeLine; decide, q⟩
def sp_Ringstitched (C : Addr) : Sp := fun vs H Q _ => ∃ (p : Addr) (w : Str) (k st : Int) (cs rs bs os : List Int), vs = [.ref p, .str w, .int k, .int st] ∧ RingAt C H p cs rs ∧ IsWay w cs rs bs ∧ IsWay w rs cs os ∧ 0 ≤ k ∧ k < bs.length ∧ 0 ≤ st ∧ st < os.length ∧
  Q (.bl (stB bs k st)) H
theorem ok_Ringstitched (T : Txt K mg t) : FnOk P w K mg base CX0 4 t.f_Ringstitched t.d_Ringstitched ["self", "way", "k", "step"] (sp_Ringstitched t.a_Ring) :=
  (okx_Ringstitched T).down fun vs H Q E ⟨p, w, k, st, cs, rs, bs, os, e, hc, hw, ho, h0, h1, g0, g1, q⟩ => ⟨p, w, k, st, cs, rs, e, hc, .inl ⟨bs, os, hw, ho, h0, h1, g0, g1, q⟩⟩
end


section
variable {P : Program} {w : World} {K : PySem.W.Frag} {mg : Str → Option Value} {base : Heap} {t : Ad}
/-! the law's own helpers: what is drawn -/
def Sm (z : Int) : Prop := -1000000000000000000 < z ∧ z < 1000000000000000000
theorem sm_snoc {zs : List Int} {z : Int} (h : ∀ y ∈ zs, Sm y) (hz : Sm z) : ∀ y ∈ zs ++ [z], Sm y := fun y hy => by
  rcases List.mem_append.mp hy with q | q
  · exact h y q
  · rw [List.mem_singleton.mp q]; exact hz
theorem sm_mod (r : Int) {m : Int} (h0 : 0 < m) (h1 : m ≤ 1000003) : Sm (r % m) := by
  have := Int.emod_nonneg r (by omega : m ≠ 0)
  have := Int.emod_lt_of_pos r h0
  unfold Sm; omega
def sp_Ldraws (K : PySem.W.Frag) : Sp := fun vs H Q _ => ∃ (a : Addr) (m : Nat) (ns : List Int), vs = [.ref a, .int m] ∧ SqL K H a (ns.map V.int) ∧ ns.length ≤ 63 ∧ m ≤ 200 ∧
  ∀ (l : Addr) (zs : List Int) (H' : Hp), Same H H' → H' l = some (.lst (zs.map V.int)) → m ≤ zs.length → zs.length ≤ 300 → (∀ z ∈ zs, Sm z) → Q (.ref l) H'
theorem map_snoc (zs : List Int) (z : Int) : zs.map V.int ++ [V.int z] = (zs ++ [z]).map V.int := by simp
theorem ok_Ldraws (T : Txt K mg t) : FnOk P w K mg base CX0 1 t.f_Ldraws t.d_Ldraws ["_law_script", "_law_many"] (sp_Ldraws K) := by
  refine T.F_Ldraws.ok sc_Ldraws (fun vs H Q E h => ?_) (fun cdv A outer s H vs Q E hr h => ?_)
  · obtain ⟨a, m, ns, rfl, _⟩ := h; rfl
  · obtain ⟨a, m, ns, rfl, hS, hl, hm, k⟩ := h
    refine cutC (ps_set (i := 2) sc_Ldraws.nd rfl (Or.inl rfl) (pe_lst pa_nil)) fun _ _ => cutC (ps_set (i := 3) sc_Ldraws.nd rfl (Or.inl rfl) pe_int) fun _ _ => cutC (ps_for PassesOwn.never rfl (pi_list (pv 0)) (pg_name (i := 4) sc_Ldraws.nd rfl (Or.inl rfl)) (pss_cons (ps_set (i := 3) sc_Ldraws.nd rfl (Or.inl rfl) (pe_op op_mod (pe_op op_add (pe_op op_mul (pv 3) pe_int) (pv 4)) pe_int)) (pss_cons (ps_set (i := 5) sc_Ldraws.nd rfl (Or.inl rfl) (pe_callB cI_abs rfl T.no_abs (by rfl) (pa_cons (pv 4) pa_nil))) (pss_cons (ps_if (pt_cmpR op_lt (pv 5) (pe_op op_pow pe_int pe_int) (nomark _)) (pss_cons (ps_expr (pe_bm PySem.F.plainAttrs_list PySem.F.slot_list_append PySem.F.type_list_append mt_append (pv 2) (pa_cons (pv 4) pa_nil))) (pss_one (ps_set (i := 5) sc_Ldraws.nd rfl (Or.inl rfl) pe_int))) pss_nil) (pss_one (ps_while PassesOwn.never (PW.pt (pw_and (pt_cmpR op_gt (pv 5) pe_int (nomark _)) (pw_and1 (pt_cmpR op_lt (pe_callB (cI_lenK K rfl) rfl T.no_len (by rfl) (pa_cons (pv 2) pa_nil)) (pv 1) (nomark _))))) (pss_cons (ps_expr (pe_bm PySem.F.plainAttrs_list PySem.F.slot_list_append PySem.F.type_list_append mt_append (pv 2) (pa_cons (pe_op op_mod (pv 5) pe_int) pa_nil))) (pss_one (ps_set (i := 5) sc_Ldraws.nd rfl (Or.inl rfl) (pe_op op_fdiv (pv 5) pe_int)))))))))) fun _ _ => cutC (ps_while PassesOwn.never (pt_cmpR op_lt (pe_callB (cI_lenK K rfl) rfl T.no_len (by rfl) (pa_cons (pv 2) pa_nil)) (pv 1) (nomark _)) (pss_cons (ps_set (i := 3) sc_Ldraws.nd rfl (Or.inl rfl) (pe_op op_mod (pe_op op_add (pe_op op_mul (pv 3) pe_int) pe_int) pe_int)) (pss_one (ps_expr (pe_bm PySem.F.plainAttrs_list PySem.F.slot_list_append PySem.F.type_list_append mt_append (pv 2) (pa_cons (pe_op op_mod (pe_op op_mul (pv 3) (pv 3)) pe_int) pa_nil)))))) fun _ _ => cutE (ps_ret (pv 2)) fun _ _ => ?_
    walk_at "rd"
    refine ⟨Nat.zero_le _, fun l hn => ?_⟩
    walk_at "rd"
    have hz : ∀ {zs : List Int}, zs.length ≤ 300 → (zs.map V.int).length < sizeLine := fun h => by rw [List.length_map]; exact small1000 (by omega)
    refine ⟨⟨_, (Same.new hn).seq hS⟩, forW_list (K := K) (a := a) (xs := ns.map V.int) (fun i σ' H' => ∃ (zs : List Int) (mix : Int) (c r : Option V), σ' = [some (.ref a), some (.int m), some (.ref l), some (.int mix), c, r] ∧ Same H H' ∧ H' l = some (.lst (zs.map V.int)) ∧ zs.length ≤ i + m ∧ ∀ z ∈ zs, Sm z)
      ⟨[], 1, none, none, rfl, Same.new hn, upd_same, Nat.zero_le _, fun z hz => by cases hz⟩ (fun i σ' H' _ ⟨_, _, _, _, _, s, _⟩ => s.seq hS) ?_ ?_⟩
    · rintro i y σ' H' hi ⟨zs, mix, c, r, rfl, s1, e1, lz, sm⟩
      have hil : i < ns.length := by have := (List.getElem?_eq_some_iff.mp hi).1; rwa [List.length_map] at this
      obtain ⟨z, rfl⟩ : ∃ z, y = V.int z := by
        rw [List.getElem?_map] at hi
        cases e : ns[i]? with
        | none => rw [e] at hi; cases hi
        | some z => rw [e] at hi; exact ⟨z, (Option.some.inj hi).symm⟩
      walk_at "rd"
      refine rd_I (.inr ⟨by decide, by decide⟩) ?_
      walk_at "rd"
      refine rd_I (by decide) ?_
      walk_at "rd"
      refine rd_I ⟨by decide, by decide, by decide⟩ ?_
      walk_at "rd"
      refine ite2 (fun hc => ?_) (fun _ => ?_)
      · have hc := of_decide_eq_true hc
        have hcz : Sm z := by
          unfold Sm
          have e18 : (10 : Int) ^ 18 = 1000000000000000000 := by decide
          by_cases hz0 : z < 0
          · rw [if_pos hz0] at hc; change -z < (10 : Int) ^ 18 at hc; omega
          · rw [if_neg hz0] at hc; change z < (10 : Int) ^ 18 at hc; omega
        walk_at "rd"
        refine rd_bmL e1 ?_
        walk_at "rd"
        refine rd_append e1 (hz (by omega)) ?_
        rw [map_snoc]
        walk_at "rd"
        refine ⟨fun n σ' H' => ∃ (zs : List Int) (mix : Int) (r : Int), σ' = [some (.ref a), some (.int m), some (.ref l), some (.int mix), some (.int z), some (.int r)] ∧ Same H H' ∧ H' l = some (.lst (zs.map V.int)) ∧ zs.length ≤ i + 1 + m ∧ n = m - zs.length ∧ ∀ z ∈ zs, Sm z,
          ⟨_, zs ++ [z], _, _, rfl, s1.later hn, upd_same, by rw [List.length_append, List.length_singleton]; omega, rfl, sm_snoc sm hcz⟩, ?_⟩
        rintro n σ' H' ⟨zs, mix, r, rfl, s1, e1, lz, rfl, sm⟩
        walk_at "rd"
        refine ite2 (fun _ => ?_) (fun _ => ?_)
        · walk_at "rd"
          refine rd_lenL e1 ?_
          walk_at "rd"
          rw [List.length_map]
          refine ite2 (fun h2 => ?_) (fun h2 => ?_)
          · have h2 := of_decide_eq_true h2
            refine ⟨fun σ' H' => ∃ (zs' : List Int) (mix : Int) (r : Int), σ' = [some (.ref a), some (.int m), some (.ref l), some (.int mix), some (.int z), some (.int r)] ∧ Same H H' ∧ H' l = some (.lst (zs'.map V.int)) ∧ zs'.length = zs.length + 1 ∧ ∀ z ∈ zs', Sm z, ?_, ?_⟩
            · rintro σ' H' ⟨zs', mix, r, rfl, s1, e1, lz', sm'⟩
              exact ⟨m - zs'.length, by omega, zs', mix, r, rfl, s1, e1, by omega, rfl, sm'⟩
            · walk_at "rd"
              refine rd_bmL e1 ?_
              walk_at "rd"
              refine rd_I (by decide) ?_
              walk_at "rd"
              refine rd_append e1 (hz (by omega)) ?_
              rw [map_snoc]
              walk_at "rd"
              refine rd_I ⟨by decide, by decide⟩ ?_
              walk_at "rd"
              exact ⟨zs ++ [r % 1000003], mix, _, rfl, s1.later hn, upd_same, by rw [List.length_append, List.length_singleton], sm_snoc sm (sm_mod r (by decide) (by decide))⟩
          · walk_at "rd"
            exact ⟨zs, mix, _, _, rfl, s1, e1, lz, sm⟩
        · walk_at "rd"
          exact ⟨zs, mix, _, _, rfl, s1, e1, lz, sm⟩
      · walk_at "rd"
        refine ⟨fun n σ' H' => ∃ (zs : List Int) (mix : Int) (r : Int), σ' = [some (.ref a), some (.int m), some (.ref l), some (.int mix), some (.int z), some (.int r)] ∧ Same H H' ∧ H' l = some (.lst (zs.map V.int)) ∧ zs.length ≤ i + 1 + m ∧ n = m - zs.length ∧ ∀ z ∈ zs, Sm z,
          ⟨_, zs, _, _, rfl, s1, e1, by omega, rfl, sm⟩, ?_⟩
        rintro n σ' H' ⟨zs, mix, r, rfl, s1, e1, lz, rfl, sm⟩
        walk_at "rd"
        refine ite2 (fun _ => ?_) (fun _ => ?_)
        · walk_at "rd"
          refine rd_lenL e1 ?_
          walk_at "rd"
          rw [List.length_map]
          refine ite2 (fun h2 => ?_) (fun h2 => ?_)
          · have h2 := of_decide_eq_true h2
            refine ⟨fun σ' H' => ∃ (zs' : List Int) (mix : Int) (r : Int), σ' = [some (.ref a), some (.int m), some (.ref l), some (.int mix), some (.int z), some (.int r)] ∧ Same H H' ∧ H' l = some (.lst (zs'.map V.int)) ∧ zs'.length = zs.length + 1 ∧ ∀ z ∈ zs', Sm z, ?_, ?_⟩
            · rintro σ' H' ⟨zs', mix, r, rfl, s1, e1, lz', sm'⟩
              exact ⟨m - zs'.length, by omega, zs', mix, r, rfl, s1, e1, by omega, rfl, sm'⟩
            · walk_at "rd"
              refine rd_bmL e1 ?_
              walk_at "rd"
              refine rd_I (by decide) ?_
              walk_at "rd"
              refine rd_append e1 (hz (by omega)) ?_
              rw [map_snoc]
              walk_at "rd"
              refine rd_I ⟨by decide, by decide⟩ ?_
              walk_at "rd"
              exact ⟨zs ++ [r % 1000003], mix, _, rfl, s1.later hn, upd_same, by rw [List.length_append, List.length_singleton], sm_snoc sm (sm_mod r (by decide) (by decide))⟩
          · walk_at "rd"
            exact ⟨zs, mix, _, _, rfl, s1, e1, lz, sm⟩
        · walk_at "rd"
          exact ⟨zs, mix, _, _, rfl, s1, e1, lz, sm⟩
    · rintro σ' H' ⟨zs, mix, c, r, rfl, s1, e1, lz, sm⟩
      rw [List.length_map] at lz
      walk_at "rd"
      refine ⟨fun n σ' H' => ∃ (zs : List Int) (mix : Int), σ' = [some (.ref a), some (.int m), some (.ref l), some (.int mix), c, r] ∧ (-(2 ^ 64) < mix ∧ mix < 2 ^ 64 ∨ True) ∧ Same H H' ∧ H' l = some (.lst (zs.map V.int)) ∧ zs.length ≤ 300 ∧ n = m - zs.length ∧ ∀ z ∈ zs, Sm z,
        ⟨_, zs, mix, rfl, .inr trivial, s1, e1, by omega, rfl, sm⟩, ?_⟩
      rintro n σ' H' ⟨zs, mix, rfl, _, s1, e1, lz, rfl, sm⟩
      walk_at "rd"
      refine rd_lenL e1 ?_
      walk_at "rd"
      rw [List.length_map]
      refine ite2 (fun h2 => ?_) (fun h2 => ?_)
      · have h2 := of_decide_eq_true h2
        refine ⟨fun σ' H' => ∃ (zs' : List Int) (mix : Int), σ' = [some (.ref a), some (.int m), some (.ref l), some (.int mix), c, r] ∧ Same H H' ∧ H' l = some (.lst (zs'.map V.int)) ∧ zs'.length = zs.length + 1 ∧ ∀ z ∈ zs', Sm z, ?_, ?_⟩
        · rintro σ' H' ⟨zs', mix, rfl, s1, e1, lz', sm'⟩
          exact ⟨m - zs'.length, by omega, zs', mix, rfl, .inr trivial, s1, e1, by omega, rfl, sm'⟩
        · walk_at "rd"
          refine rd_I (.inr ⟨by decide, by decide⟩) ?_
          walk_at "rd"
          refine rd_I (by decide) ?_
          walk_at "rd"
          refine rd_bmL e1 ?_
          walk_at "rd"
          refine rd_I (.inl ⟨by omega, by omega⟩) ?_
          walk_at "rd"
          refine rd_I (by decide) ?_
          walk_at "rd"
          refine rd_append e1 (hz (by omega)) ?_
          rw [map_snoc]
          walk_at "rd"
          exact ⟨zs ++ [_], _, rfl, s1.later hn, upd_same, by rw [List.length_append, List.length_singleton], sm_snoc sm (sm_mod _ (by decide) (by decide))⟩
      · have h2 : ¬ ((zs.length : Int) < m) := fun z => h2 (decide_eq_true z)
        walk_at "rd"
        exact k l zs H' s1 e1 (by omega) (by omega) sm
end

section
variable {P : Program} {w : World} {K : PySem.W.Frag} {mg : Str → Option Value} {base : Heap} {t : Ad}
def sp_Lbits : Sp := fun vs H Q _ => ∃ (n : Int) (m : Nat), vs = [.int n, .int m] ∧ m ≤ 100 ∧ ∀ (l : Addr) (bs : List Int) (H' : Hp), Same H H' → H l = none → H' l = some (.lst (bs.map V.int)) → bs.length = m → (∀ z ∈ bs, z = 0 ∨ z = 1) → Q (.ref l) H'
theorem emod_le {a b : Int} (ha : 0 ≤ a) (hb : 0 < b) : a % b ≤ a := by
  obtain ⟨m, rfl⟩ := Int.eq_ofNat_of_zero_le ha
  obtain ⟨n, rfl⟩ := Int.eq_ofNat_of_zero_le (Int.le_of_lt hb)
  rw [← Int.natCast_emod]
  exact Int.ofNat_le.mpr (Nat.mod_le _ _)
theorem mod2 (n : Int) : n % 2 = 0 ∨ n % 2 = 1 := by omega
theorem ok_Lbits (T : Txt K mg t) : FnOk P w K mg base CX0 1 t.f_Lbits t.d_Lbits ["_law_number", "_law_many"] sp_Lbits := by
  refine T.F_Lbits.ok sc_Lbits (fun vs H Q E h => ?_) (fun cdv A outer s H vs Q E hr h => ?_)
  · obtain ⟨n, m, rfl, _⟩ := h; rfl
  · obtain ⟨n, m, rfl, hm, k⟩ := h
    refine cutC (ps_set (i := 2) sc_Lbits.nd rfl (Or.inl rfl) (pe_lst pa_nil)) fun _ _ => cutC (ps_for PassesOwn.never rfl (pi_range1 rfl T.no_range (pa_cons (pv 1) pa_nil)) (pg_name (i := 3) sc_Lbits.nd rfl (Or.inl rfl)) (pss_cons (ps_expr (pe_bm PySem.F.plainAttrs_list PySem.F.slot_list_append PySem.F.type_list_append mt_append (pv 2) (pa_cons (pe_op op_mod (pv 0) pe_int) pa_nil))) (pss_one (ps_set (i := 0) sc_Lbits.nd rfl (Or.inl rfl) (pe_op op_fdiv (pv 0) pe_int))))) fun _ _ => cutE (ps_ret (pv 2)) fun _ _ => ?_
    walk_at "rd"
    refine ⟨Nat.zero_le _, fun l hn => ?_⟩
    walk_at "rd"
    refine ⟨m, rfl, by omega, by omega, ?_⟩
    rw [Int.toNat_natCast]
    refine forW_range (fun i σ' H' => ∃ (n : Int) (bs : List Int) (c : Option V), σ' = [some (.int n), some (.int m), some (.ref l), c] ∧ Same H H' ∧ H' l = some (.lst (bs.map V.int)) ∧ bs.length = i ∧ ∀ z ∈ bs, z = 0 ∨ z = 1)
      ⟨n, [], none, rfl, Same.new hn, upd_same, rfl, fun z hz => by cases hz⟩ ?_ ?_
    · rintro i σ' H' hi ⟨n, bs, c, rfl, s1, e1, lb, hb⟩
      walk_at "rd"
      refine rd_bmL e1 ?_
      walk_at "rd"
      refine rd_I (by decide) ?_
      walk_at "rd"
      refine rd_append e1 (by rw [List.length_map]; exact small1000 (by omega)) ?_
      rw [map_snoc]
      walk_at "rd"
      refine rd_I ⟨by decide, by decide⟩ ?_
      walk_at "rd"
      refine ⟨_, bs ++ [n % 2], _, rfl, s1.later hn, upd_same, by rw [List.length_append, List.length_singleton]; omega, fun z hz => ?_⟩
      rcases List.mem_append.mp hz with h | h
      · exact hb z h
      · rw [List.mem_singleton.mp h]; exact mod2 n
    · rintro σ' H' ⟨n, bs, c, rfl, s1, e1, lb, hb⟩
      walk_at "rd"
      exact k l bs H' s1 hn e1 lb hb
def sp_Lrow : Sp := fun vs H Q _ => ∃ (a : Addr) (m : Nat) (zs : List Int), vs = [.ref a, .int m] ∧ H a = some (.lst (zs.map V.int)) ∧ 4 ≤ zs.length ∧ m ≤ 100 ∧ ∀ (l : Addr) (bs : List Int) (H' : Hp), Same H H' → H l = none → H' l = some (.lst (bs.map V.int)) → bs.length = m → (∀ z ∈ bs, z = 0 ∨ z = 1) → Q (.ref l) H'
theorem ok_Lrow (T : Txt K mg t) : FnOk P w K mg base CX0 2 t.f_Lrow t.d_Lrow ["_law_some", "_law_many"] sp_Lrow := by
  have G_Lbits := ok_Lbits (P := P) (w := w) (base := base) T
  refine T.F_Lrow.ok sc_Lrow (fun vs H Q E h => ?_) (fun cdv A outer s H vs Q E hr h => ?_)
  · obtain ⟨a, m, zs, rfl, _⟩ := h; rfl
  · obtain ⟨a, m, zs, rfl, ha, hl, hm, k⟩ := h
    refine cutC (ps_set (i := 2) sc_Lrow.nd rfl (Or.inl rfl) (pe_op op_add (pe_op op_add (pe_ix (ix_listK K rfl) (pv 0) pe_int (fun _ _ => rfl)) (pe_op op_mul pe_int (pe_ix (ix_listK K rfl) (pv 0) pe_int (fun _ _ => rfl)))) (pe_op op_mul (pe_op op_mul pe_int pe_int) (pe_ix (ix_listK K rfl) (pv 0) pe_int (fun _ _ => rfl))))) fun _ _ => cutC (ps_if (pt_cmpR op_eq (pe_op op_mod (pe_ix (ix_listK K rfl) (pv 0) pe_int (fun _ _ => rfl)) pe_int) pe_int (nomark _)) (pss_one (ps_set (i := 2) sc_Lrow.nd rfl (Or.inl rfl) (pe_un un_neg (pe_op op_mod (pe_ix (ix_listK K rfl) (pv 0) pe_int (fun _ _ => rfl)) pe_int)))) pss_nil) fun _ _ => cutC (ps_set (i := 3) sc_Lrow.nd rfl (Or.inr rfl) (pe_call G_Lbits (hr.mono (by first | decide | omega)) rfl T.mg_Lbits T.F_Lbits.kp T.b_Lbits .nil pass0 (pa_cons (pv 2) (pa_cons (pv 1) pa_nil)))) fun _ _ => cutC (ps_if (pt_cmpR op_eq (pe_op op_mod (pe_ix (ix_listK K rfl) (pv 0) pe_int (fun _ _ => rfl)) pe_int) pe_int (nomark _)) (pss_one (ps_set (i := 3) sc_Lrow.nd rfl (Or.inr rfl) (pe_comp (N := ["_law_k", "_law_row_here", "_law_some"]) (cap := [none, some 3, some 0]) rfl ⟨rfl, rfl, rfl, rfl, rfl, rfl⟩ (pi_range1 rfl T.no_range (pa_cons (pv 1) pa_nil)) (fun _ _ _ => (pg_name (i := 0) (show (["_law_k", "_law_row_here", "_law_some"] : List Str).Nodup by decide +kernel) rfl (Or.inl rfl))) (fun _ _ _ => pts_nil) (fun _ _ _ => (pe_ix (ix_listK K rfl) (pv 1) (pe_op op_mod (pv 0) (pe_op op_add pe_int (pe_op op_mod (pe_ix (ix_listK K rfl) (pv 2) pe_int (fun _ _ => rfl)) pe_int))) (fun _ _ => rfl)))))) pss_nil) fun _ _ => cutE (ps_ret (pv 3)) fun _ _ => ?_
    have I0 : atI (zs.map V.int) 0 = _ := atI_ints (by decide) (by omega)
    have I1 : atI (zs.map V.int) 1 = _ := atI_ints (by decide) (by omega)
    have I2 : atI (zs.map V.int) 2 = _ := atI_ints (by decide) (by omega)
    have I3 : atI (zs.map V.int) 3 = _ := atI_ints (by decide) (by omega)
    generalize zs.getD (0 : Int).toNat 0 = z0 at I0
    generalize zs.getD (1 : Int).toNat 0 = z1 at I1
    generalize zs.getD (2 : Int).toNat 0 = z2 at I2
    generalize zs.getD (3 : Int).toNat 0 = z3 at I3
    -- behind the raw number: the bits, and the pattern
    walk_at "rd"
    refine rd_ixL (SqL.of ha) I0 ?_
    walk_at "rd"
    refine rd_ixL (SqL.of ha) I1 ?_
    walk_at "rd"
    refine rd_I (.inl ⟨by decide, by decide⟩) ?_
    walk_at "rd"
    refine rd_I (.inl ⟨by decide, by decide⟩) ?_
    walk_at "rd"
    refine rd_ixL (SqL.of ha) I2 ?_
    walk_at "rd"
    refine rd_I (.inl ⟨by decide, by decide⟩) ?_
    walk_at "rd"
    refine rd_ixL (SqL.of ha) I3 ?_
    walk_at "rd"
    refine rd_I (by decide) ?_
    walk_at "rd"
    refine ite2 (fun _ => ?_) (fun _ => ?_)
    · walk_at "rd"
      refine rd_ixL (SqL.of ha) I0 ?_
      walk_at "rd"
      refine rd_I (by decide) ?_
      walk_at "rd"
      refine ⟨_, m, rfl, hm, fun l bs H1 s1 n1 e1 lb hb => ?_⟩
      walk_at "rd"
      refine rd_ixL (SqL.of (s1 _ _ ha)) I3 ?_
      walk_at "rd"
      refine rd_I (by decide) ?_
      walk_at "rd"
      refine ite2 (fun _ => ?_) (fun _ => ?_)
      · walk_at "rd"
        refine ⟨m, rfl, by omega, by omega, fun l2 hn => ?_⟩
        rw [Int.toNat_natCast]
        refine compW_range (fun i => .int (bs.getD (((0 : Int) + (i : Nat)) % (1 + z1 % 4)).toNat 0)) (by omega) hn (fun i o H' Q' hi s2 q => ?_) (fun H' s2 e2 => ?_)
        · walk_at "rd"
          refine rd_ixL (SqL.of (s2 _ _ (s1 _ _ ha))) I1 ?_
          walk_at "rd"
          refine rd_I (by decide) ?_
          walk_at "rd"
          have p1 : 0 < 1 + z1 % 4 := by omega
          refine rd_I p1 ?_
          walk_at "rd"
          have q0 := Int.emod_nonneg ((0 : Int) + (i : Nat)) (by omega : 1 + z1 % 4 ≠ 0)
          have q1 : ((0 : Int) + (i : Nat)) % (1 + z1 % 4) ≤ (0 : Int) + (i : Nat) := emod_le (by omega) (by omega)
          refine rd_ixL (SqL.of (s2 _ _ e1)) (atI_ints q0 (by omega)) ?_
          exact q H' (Same.refl _)
        · walk_at "rd"
          refine k l2 ((List.range m).map fun i => bs.getD (((0 : Int) + (i : Nat)) % (1 + z1 % 4)).toNat 0) H' (s1.trans s2) (s1.free hn) (by rw [e2, List.map_map]; rfl) (by rw [List.length_map, List.length_range]) fun z hz => ?_
          obtain ⟨i, hi, rfl⟩ := List.mem_map.mp hz
          have hi := List.mem_range.mp hi
          have q0 := Int.emod_nonneg ((0 : Int) + (i : Nat)) (by omega : 1 + z1 % 4 ≠ 0)
          have q1 : ((0 : Int) + (i : Nat)) % (1 + z1 % 4) ≤ (0 : Int) + (i : Nat) := emod_le (by omega) (by omega)
          exact hb _ (L2.getD_mem (by omega))
      · walk_at "rd"
        exact k l bs H1 s1 n1 e1 lb hb
    · walk_at "rd"
      refine ⟨_, m, rfl, hm, fun l bs H1 s1 n1 e1 lb hb => ?_⟩
      walk_at "rd"
      refine rd_ixL (SqL.of (s1 _ _ ha)) I3 ?_
      walk_at "rd"
      refine rd_I (by decide) ?_
      walk_at "rd"
      refine ite2 (fun _ => ?_) (fun _ => ?_)
      · walk_at "rd"
        refine ⟨m, rfl, by omega, by omega, fun l2 hn => ?_⟩
        rw [Int.toNat_natCast]
        refine compW_range (fun i => .int (bs.getD (((0 : Int) + (i : Nat)) % (1 + z1 % 4)).toNat 0)) (by omega) hn (fun i o H' Q' hi s2 q => ?_) (fun H' s2 e2 => ?_)
        · walk_at "rd"
          refine rd_ixL (SqL.of (s2 _ _ (s1 _ _ ha))) I1 ?_
          walk_at "rd"
          refine rd_I (by decide) ?_
          walk_at "rd"
          have p1 : 0 < 1 + z1 % 4 := by omega
          refine rd_I p1 ?_
          walk_at "rd"
          have q0 := Int.emod_nonneg ((0 : Int) + (i : Nat)) (by omega : 1 + z1 % 4 ≠ 0)
          have q1 : ((0 : Int) + (i : Nat)) % (1 + z1 % 4) ≤ (0 : Int) + (i : Nat) := emod_le (by omega) (by omega)
          refine rd_ixL (SqL.of (s2 _ _ e1)) (atI_ints q0 (by omega)) ?_
          exact q H' (Same.refl _)
        · walk_at "rd"
          refine k l2 ((List.range m).map fun i => bs.getD (((0 : Int) + (i : Nat)) % (1 + z1 % 4)).toNat 0) H' (s1.trans s2) (s1.free hn) (by rw [e2, List.map_map]; rfl) (by rw [List.length_map, List.length_range]) fun z hz => ?_
          obtain ⟨i, hi, rfl⟩ := List.mem_map.mp hz
          have hi := List.mem_range.mp hi
          have q0 := Int.emod_nonneg ((0 : Int) + (i : Nat)) (by omega : 1 + z1 % 4 ≠ 0)
          have q1 : ((0 : Int) + (i : Nat)) % (1 + z1 % 4) ≤ (0 : Int) + (i : Nat) := emod_le (by omega) (by omega)
          exact hb _ (L2.getD_mem (by omega))
      · walk_at "rd"
        exact k l bs H1 s1 n1 e1 lb hb
end

section
variable {P : Program} {w : World} {K : PySem.W.Frag} {mg : Str → Option Value} {base : Heap} {t : Ad}
/-- a loop: two lists of bits -/
structure LoopAt (H : Hp) (p : Addr) (cs rs : List Int) : Prop where
  ob : ∃ c r, H p = some (.tup [.ref c, .ref r]) ∧ H c = some (.lst (cs.map V.int)) ∧ H r = some (.lst (rs.map V.int))
  bc : RBits cs
  br : RBits rs
theorem pick_la (i : Int) : 0 < ([4, 4, 8, 20, 3] : List Int).getD (i % 5).toNat 0 ∧ ([4, 4, 8, 20, 3] : List Int).getD (i % 5).toNat 0 ≤ 20 := by
  have h := L2.getD_mem (zs := ([4, 4, 8, 20, 3] : List Int)) (k := (i % 5).toNat) (d := 0) (by simp; omega)
  simp only [List.mem_cons, List.not_mem_nil, or_false] at h
  rcases h with h | h | h | h | h <;> rw [h] <;> decide
theorem pick_lb (i : Int) : 0 < ([4, 8, 4, 3, 20] : List Int).getD (i % 5).toNat 0 ∧ ([4, 8, 4, 3, 20] : List Int).getD (i % 5).toNat 0 ≤ 20 := by
  have h := L2.getD_mem (zs := ([4, 8, 4, 3, 20] : List Int)) (k := (i % 5).toNat) (d := 0) (by simp; omega)
  simp only [List.mem_cons, List.not_mem_nil, or_false] at h
  rcases h with h | h | h | h | h <;> rw [h] <;> decide
def sp_Lloop : Sp := fun vs H Q _ => ∃ (a : Addr) (zs : List Int), vs = [.ref a] ∧ H a = some (.lst (zs.map V.int)) ∧ 11 ≤ zs.length ∧ ∀ p cs rs H', Same H H' → LoopAt H' p cs rs → Q (.ref p) H'
theorem ok_Lloop (T : Txt K mg t) : FnOk P w K mg base CX0 3 t.f_Lloop t.d_Lloop ["_law_some"] sp_Lloop := by
  have G_Lrow := ok_Lrow (P := P) (w := w) (base := base) T
  refine T.F_Lloop.ok sc_Lloop (fun vs H Q E h => ?_) (fun cdv A outer s H vs Q E hr h => ?_)
  · obtain ⟨a, zs, rfl, _⟩ := h; rfl
  · obtain ⟨a, zs, rfl, ha, hl, k⟩ := h
    refine cutC (ps_set (i := 1) sc_Lloop.nd rfl (Or.inl rfl) (pe_op op_add pe_int (pe_op op_mul pe_int (pe_op op_mod (pe_ix (ix_listK K rfl) (pv 0) pe_int (fun _ _ => rfl)) (pe_ix (ix_listK K rfl) (pe_lst (pa_cons pe_int (pa_cons pe_int (pa_cons pe_int (pa_cons pe_int (pa_cons pe_int pa_nil)))))) (pe_op op_mod (pe_ix (ix_listK K rfl) (pv 0) pe_int (fun _ _ => rfl)) pe_int) (fun _ _ => rfl)))))) fun _ _ => cutC (ps_set (i := 2) sc_Lloop.nd rfl (Or.inl rfl) (pe_op op_add pe_int (pe_op op_mul pe_int (pe_op op_mod (pe_ix (ix_listK K rfl) (pv 0) pe_int (fun _ _ => rfl)) (pe_ix (ix_listK K rfl) (pe_lst (pa_cons pe_int (pa_cons pe_int (pa_cons pe_int (pa_cons pe_int (pa_cons pe_int pa_nil)))))) (pe_op op_mod (pe_ix (ix_listK K rfl) (pv 0) pe_int (fun _ _ => rfl)) pe_int) (fun _ _ => rfl)))))) fun _ _ => cutE (ps_ret (pe_tup (pa_cons (pe_call G_Lrow (hr.mono (by first | decide | omega)) rfl T.mg_Lrow T.F_Lrow.kp T.b_Lrow .nil pass0 (pa_cons (pe_slice (sl_listK K rfl) (pv 0) (po_some pe_int) po_none) (pa_cons (pv 1) pa_nil))) (pa_cons (pe_call G_Lrow (hr.mono (by first | decide | omega)) rfl T.mg_Lrow T.F_Lrow.kp T.b_Lrow .nil pass0 (pa_cons (pe_slice (sl_listK K rfl) (pv 0) (po_some pe_int) po_none) (pa_cons (pv 2) pa_nil))) pa_nil)))) fun _ _ => ?_
    have I0 : atI (zs.map V.int) 0 = _ := atI_ints (by decide) (by omega)
    have I1 : atI (zs.map V.int) 1 = _ := atI_ints (by decide) (by omega)
    have I2 : atI (zs.map V.int) 2 = _ := atI_ints (by decide) (by omega)
    generalize zs.getD (0 : Int).toNat 0 = z0 at I0
    generalize zs.getD (1 : Int).toNat 0 = z1 at I1
    generalize zs.getD (2 : Int).toNat 0 = z2 at I2
    have m0 : 0 ≤ z0 % 5 := by omega
    have m5 : z0 % 5 < 5 := by omega
    walk_at "rd"
    refine rd_ixL (SqL.of ha) I1 ?_
    walk_at "rd"
    refine ⟨by show 5 ≤ sizeLine; decide, fun l1 n1 => ?_⟩
    have s1 := Same.new (o := HO.lst (([4, 4, 8, 20, 3] : List Int).map V.int)) n1
    walk_at "rd"
    refine rd_ixL (SqL.of (s1 _ _ ha)) I0 ?_
    walk_at "rd"
    refine rd_I (by decide) ?_
    walk_at "rd"
    refine rd_ixL (SqL.of (xs := ([4, 4, 8, 20, 3] : List Int).map V.int) upd_same) (atI_ints m0 m5) ?_
    walk_at "rd"
    refine rd_I (pick_la z0).1 ?_
    walk_at "rd"
    have va := pick_la z0
    have vb := pick_lb z0
    generalize ([4, 4, 8, 20, 3] : List Int).getD (z0 % 5).toNat 0 = va' at va ⊢
    have wa0 := Int.emod_nonneg z1 (by omega : va' ≠ 0)
    have wa1 := Int.emod_lt_of_pos z1 va.1
    refine rd_I (.inl ⟨by decide, by decide⟩) ?_
    walk_at "rd"
    refine rd_ixL (SqL.of (s1 _ _ ha)) I2 ?_
    walk_at "rd"
    refine ⟨by show 5 ≤ sizeLine; decide, fun l2 n2 => ?_⟩
    have s2 := Same.new (o := HO.lst (([4, 8, 4, 3, 20] : List Int).map V.int)) n2
    walk_at "rd"
    refine rd_ixL (SqL.of (s2 _ _ (s1 _ _ ha))) I0 ?_
    walk_at "rd"
    refine rd_I (by decide) ?_
    walk_at "rd"
    refine rd_ixL (SqL.of (xs := ([4, 8, 4, 3, 20] : List Int).map V.int) upd_same) (atI_ints m0 m5) ?_
    walk_at "rd"
    refine rd_I (pick_lb z0).1 ?_
    walk_at "rd"
    generalize ([4, 8, 4, 3, 20] : List Int).getD (z0 % 5).toNat 0 = vb' at vb ⊢
    have wb0 := Int.emod_nonneg z2 (by omega : vb' ≠ 0)
    have wb1 := Int.emod_lt_of_pos z2 vb.1
    refine rd_I (.inl ⟨by decide, by decide⟩) ?_
    walk_at "rd"
    have ha2 := s2 _ _ (s1 _ _ ha)
    refine rd_slL ha2 fun l3 n3 => ?_
    have s3 := Same.new (o := HO.lst (cutV (zs.map V.int) (some 3) none)) n3
    walk_at "rd"
    refine ⟨l3, (2 + 2 * (z1 % va')).toNat, zs.drop 3, (by show [V.ref l3, V.int (2 + 2 * (z1 % va'))] = _; rw [show (2 + 2 * (z1 % va') : Int) = (((2 + 2 * (z1 % va')).toNat : Nat) : Int) by omega]; rfl), by rw [upd_same]; exact congrArg (fun x => some (HO.lst x)) (cutV_drop (k := 3)), by rw [List.length_drop]; omega, by omega, fun c cs H1 s4 _ ec lc bc => ?_⟩
    walk_at "rd"
    have ha4 := s4 _ _ (s3 _ _ ha2)
    refine rd_slL ha4 fun l5 n5 => ?_
    have s5 := Same.new (o := HO.lst (cutV (zs.map V.int) (some 7) none)) n5
    walk_at "rd"
    refine ⟨l5, (2 + 2 * (z2 % vb')).toNat, zs.drop 7, (by show [V.ref l5, V.int (2 + 2 * (z2 % vb'))] = _; rw [show (2 + 2 * (z2 % vb') : Int) = (((2 + 2 * (z2 % vb')).toNat : Nat) : Int) by omega]; rfl), by rw [upd_same]; exact congrArg (fun x => some (HO.lst x)) (cutV_drop (k := 7)), by rw [List.length_drop]; omega, by omega, fun r rs H2 s6 _ er lr br => ?_⟩
    walk_at "rd"
    refine ⟨by show 2 ≤ sizeLine; decide, fun p hp => ?_⟩
    have s7 := Same.new (o := HO.tup [V.ref c, V.ref r]) hp
    exact k p cs rs _ (s1.trans (s2.trans (s3.trans (s4.trans (s5.trans (s6.trans s7)))))) ⟨⟨c, r, upd_same, s7 _ _ (s6 _ _ (s5 _ _ ec)), s7 _ _ er⟩, ⟨by unfold rOk; omega, bc⟩, ⟨by unfold rOk; omega, br⟩⟩
end

section
variable {P : Program} {w : World} {K : PySem.W.Frag} {mg : Str → Option Value} {base : Heap} {t : Ad}
def sp_Lring (C : Addr) : Sp := fun vs H Q _ => ∃ (p : Addr) (cs rs : List Int), vs = [.ref p] ∧ LoopAt H p cs rs ∧ ∀ x H', Same H H' → RingAt C H' x cs rs → Q (.ref x) H'
theorem ok_Lring (T : Txt K mg t) : FnOk P w K mg base CX0 8 t.f_Lring t.d_Lring ["_law_loop_here"] (sp_Lring t.a_Ring) := by
  have G_RingInit := ok_RingInit (P := P) (w := w) (base := base) T
  refine T.F_Lring.ok sc_Lring (fun vs H Q E h => ?_) (fun cdv A outer s H vs Q E hr h => ?_)
  · obtain ⟨p, cs, rs, rfl, _⟩ := h; rfl
  · obtain ⟨p, cs, rs, rfl, pl, k⟩ := h
    obtain ⟨⟨c, r, hp, hc, hr'⟩, bc, br⟩ := id pl
    refine ⟨_, (pss_one (ps_ret (pe_make T.mk_Ring G_RingInit (hr.mono (by first | decide | omega)) rfl T.mg_Ring T.b_RingInit .nil pass0 (pa_cons (pe_callTy (cI_listK K rfl) rfl T.no_list (by rfl) (pa_cons (pe_ix (ix_tupK K rfl) (pv 0) pe_int (fun _ _ => rfl)) pa_nil)) (pa_cons (pe_callTy (cI_listK K rfl) rfl T.no_list (by rfl) (pa_cons (pe_ix (ix_tupK K rfl) (pv 0) pe_int (fun _ _ => rfl)) pa_nil)) pa_nil))))), ?_⟩
    walk_at "rd"
    refine rd_ixT (SqT.of hp) (v := .ref c) rfl ?_
    walk_at "rd"
    refine rd_listL hc fun l1 n1 => ?_
    have s1 := Same.new (o := HO.lst (cs.map V.int)) n1
    walk_at "rd"
    refine rd_ixT (SqT.of (s1 _ _ hp)) (v := .ref r) rfl ?_
    walk_at "rd"
    refine rd_listL (s1 _ _ hr') fun l2 n2 => ?_
    have s2 := Same.new (o := HO.lst (rs.map V.int)) n2
    walk_at "rd"
    intro x dx nx ndx nex
    have s12 := s1.trans s2
    have h1 : upd (upd H l1 (.lst (cs.map V.int))) l2 (.lst (rs.map V.int)) l1 = some (.lst (cs.map V.int)) := s2 _ _ upd_same
    have h2 : upd (upd H l1 (.lst (cs.map V.int))) l2 (.lst (rs.map V.int)) l2 = some (.lst (rs.map V.int)) := upd_same
    generalize upd (upd H l1 (.lst (cs.map V.int))) l2 (.lst (rs.map V.int)) = H3 at h1 h2 s12 nx ndx ⊢
    have s3 : Same H3 (upd (upd H3 dx (.own x)) x (.ins t.a_Ring dx [])) := (Same.new ndx).later nx
    refine ⟨x, dx, l1, l2, cs, rs, rfl, upd_same, s3 _ _ h1, s3 _ _ h2, bc, br, fun H4 kp hC => ⟨rfl, ?_⟩⟩
    exact k x H4 (fun b o e => kp b o (s3 b o (s12 b o e)) (ne_of_none (s12 b o e) nx)) hC
end

local macro_rules | `(tactic| walk_at "rdv1") => `(tactic| first
  | ((with_reducible refine' rd_var (v := ?kv) ?ke ?kh); (case ke => exact rfl))
  | (with_reducible refine rd_seqA fun _ _ => ?_) | (with_reducible refine rd_asg ?_) | (with_reducible refine rd_name ?_) | (with_reducible refine rd_ret ?_) | (with_reducible refine rd_retN ?_) | (with_reducible refine rd_drop ?_)
  | (with_reducible refine rd_ifS ?_) | (with_reducible refine rd_tB ?_) | (with_reducible refine rd_tTest ?_) | (with_reducible refine rd_exbl ?_) | (with_reducible refine rd_c ?_) | (with_reducible refine rd_op ?_) | (with_reducible refine rd_un ?_)
  | (with_reducible refine rd_andV ?_) | (with_reducible refine rd_orV ?_) | (with_reducible refine rd_notV ?_) | (with_reducible refine rd_and ?_) | (with_reducible refine rd_or ?_) | (with_reducible refine rd_not ?_) | (with_reducible refine rd_true ?_)
  | (with_reducible refine rd_I0 ?_) | (with_reducible refine rd_U ?_) | (with_reducible refine rd_eqI ?_) | (with_reducible refine rd_neI ?_) | (with_reducible refine rd_eqS ?_) | (with_reducible refine rd_eqB ?_) | (with_reducible refine rd_neB ?_)
  | (with_reducible refine rd_chain ?_) | (with_reducible refine rd_call ?_) | (with_reducible refine rd_nil ?_) | (with_reducible refine rd_cons ?_) | (with_reducible refine rd_CB ?_) | (with_reducible refine rd_tup ?_) | (with_reducible refine rd_lst ?_)
  | (with_reducible refine rd_next ?_) | ((with_reducible refine' rd_aug (x := ?kv) ?ke ?kh); (case ke => exact rfl)) | (with_reducible refine rd_ipI ?_) | (with_reducible refine rd_gcons ?_) | (with_reducible refine rd_gnil ?_) | (with_reducible refine rd_gsub ?_) | (with_reducible refine rd_sfld ?_) | (with_reducible refine rd_while ?_) | (with_reducible refine rd_comp ?_) | (with_reducible refine rd_fld ?_) | (with_reducible refine rd_meth ?_) | (with_reducible refine rd_make ?_) | (with_reducible refine rd_raise ?_) | (with_reducible refine rd_try ?_) | (with_reducible refine rd_callS ?_) | (with_reducible refine rd_methS ?_) | (with_reducible refine rd_makeS ?_) | (with_reducible refine rd_bm ?_) | (with_reducible refine rd_bm0 ?_) | (with_reducible refine rd_sl ?_) | (with_reducible refine rd_nopart ?_) | (with_reducible refine rd_part ?_) | (with_reducible refine rd_exint ?_) | (with_reducible refine rd_exref ?_)
  | (with_reducible refine rd_augS ?_) | (with_reducible refine rd_dput ?_) | (with_reducible refine rd_din ?_) | (with_reducible refine rd_dnotin ?_) | (with_reducible refine rd_dnewT ?_) | (with_reducible refine rd_rng3 ?_) | (with_reducible refine rd_ienum ?_) | (with_reducible refine rd_abs ?_) | (with_reducible refine rd_min2 ?_) | (with_reducible refine rd_max2 ?_) | (with_reducible refine rd_intB ?_) | (with_reducible refine rd_for ?_) | (with_reducible refine rd_rng1 ?_) | (with_reducible refine rd_ilist ?_) | (with_reducible refine rd_itup ?_) | (with_reducible refine rd_izipS ?_) | (with_reducible refine iteT ?_) | (with_reducible refine iteF ?_) | (with_reducible refine if_true_do ?_) | (with_reducible refine iteNN ?_) | (with_reducible refine iteTA ?_) | (with_reducible refine iteFA ?_) | ((with_reducible refine' rd_cut (r := ?kr) ?ke ?kh); (case ke => assumption)) | (dsimp only))
local macro_rules | `(tactic| walk_at "rdv") => `(tactic| repeat walk_at "rdv1")

/-! ### the mathematics of rings: points, stitches, rounds -/
theorem nodup_le {α : Type} [DecidableEq α] : ∀ (a b : List α), a.Nodup → (∀ x ∈ a, x ∈ b) → a.length ≤ b.length
  | [], _, _, _ => Nat.zero_le _
  | x :: a, b, hn, hs => by
    rw [List.nodup_cons] at hn
    have hx := hs x List.mem_cons_self
    have ih := nodup_le a (b.erase x) hn.2 fun y hy => by
      have : y ≠ x := fun e => hn.1 (e ▸ hy)
      exact (List.mem_erase_of_ne this).mpr (hs y (List.mem_cons_of_mem _ hy))
    rw [List.length_erase_of_mem hx] at ih
    have := List.length_pos_of_mem hx
    rw [List.length_cons]
    omega
/-- one step along a line of N points that comes back to itself, its bit d -/
def st1 (N d x : Int) : Int := (x + if (x + d) % 2 = 1 then 1 else -1) % N
theorem st1_cases {N d x : Int} (hN : 2 ≤ N) (h0 : 0 ≤ x) (h1 : x < N) :
    ((x + d) % 2 = 1 ∧ ((x + 1 < N ∧ st1 N d x = x + 1) ∨ (x + 1 = N ∧ st1 N d x = 0))) ∨ (¬ (x + d) % 2 = 1 ∧ ((0 < x ∧ st1 N d x = x - 1) ∨ (x = 0 ∧ st1 N d x = N - 1))) := by
  unfold st1
  by_cases h : (x + d) % 2 = 1
  · rw [if_pos h]
    refine .inl ⟨h, ?_⟩
    by_cases hx : x + 1 < N
    · exact .inl ⟨hx, Int.emod_eq_of_lt (by omega) hx⟩
    · exact .inr ⟨by omega, by rw [show x + 1 = N by omega, Int.emod_self]⟩
  · rw [if_neg h]
    refine .inr ⟨h, ?_⟩
    by_cases hx : 0 < x
    · exact .inl ⟨hx, by rw [Int.emod_eq_of_lt (by omega) (by omega)]; omega⟩
    · refine .inr ⟨by omega, ?_⟩
      rw [show x + -1 = N - 1 + N * (-1) by omega, Int.add_mul_emod_self_left, Int.emod_eq_of_lt (by omega) (by omega)]
theorem st1_in {N d x : Int} (hN : 2 ≤ N) (h0 : 0 ≤ x) (h1 : x < N) : 0 ≤ st1 N d x ∧ st1 N d x < N := by
  rcases st1_cases (d := d) hN h0 h1 with ⟨_, h | h⟩ | ⟨_, h | h⟩ <;> omega
theorem st1_par {N d x : Int} (hN : 2 ≤ N) (ev : N % 2 = 0) (h0 : 0 ≤ x) (h1 : x < N) : (st1 N d x + x) % 2 = 1 := by
  rcases st1_cases (d := d) hN h0 h1 with ⟨_, h | h⟩ | ⟨_, h | h⟩ <;> omega
theorem st1_inv {N d x : Int} (hN : 2 ≤ N) (ev : N % 2 = 0) (h0 : 0 ≤ x) (h1 : x < N) : st1 N d (st1 N d x) = x := by
  have hi := st1_in (d := d) hN h0 h1
  rcases st1_cases (d := d) hN h0 h1 with ⟨_, h | h⟩ | ⟨_, h | h⟩ <;> rcases st1_cases (d := d) hN hi.1 hi.2 with ⟨_, g | g⟩ | ⟨_, g | g⟩ <;> omega
/-- the other end of the stitch along a row, along a column -/
def gR (cs rs : List Int) (p : Int × Int) : Int × Int := (st1 cs.length (rs.getD p.2.toNat 0) p.1, p.2)
def gC (cs rs : List Int) (p : Int × Int) : Int × Int := (p.1, st1 rs.length (cs.getD p.1.toNat 0) p.2)
def InR (cs rs : List Int) (p : Int × Int) : Prop := (0 ≤ p.1 ∧ p.1 < cs.length) ∧ 0 ≤ p.2 ∧ p.2 < rs.length
/-- both sides are even -/
def EvS (cs rs : List Int) : Prop := (2 ≤ cs.length ∧ cs.length % 2 = 0) ∧ 2 ≤ rs.length ∧ rs.length % 2 = 0
section
variable {cs rs : List Int} {p q : Int × Int}
theorem gR_in (e : EvS cs rs) (h : InR cs rs p) : InR cs rs (gR cs rs p) := ⟨st1_in (by have := e.1.1; omega) h.1.1 h.1.2, h.2⟩
theorem gC_in (e : EvS cs rs) (h : InR cs rs p) : InR cs rs (gC cs rs p) := ⟨h.1, st1_in (by have := e.2.1; omega) h.2.1 h.2.2⟩
theorem gR_inv (e : EvS cs rs) (h : InR cs rs p) : gR cs rs (gR cs rs p) = p := by
  have := st1_inv (d := rs.getD p.2.toNat 0) (by have := e.1.1; omega) (by have := e.1.2; omega) h.1.1 h.1.2
  exact Prod.ext this rfl
theorem gC_inv (e : EvS cs rs) (h : InR cs rs p) : gC cs rs (gC cs rs p) = p := by
  have := st1_inv (d := cs.getD p.1.toNat 0) (by have := e.2.1; omega) (by have := e.2.2; omega) h.2.1 h.2.2
  exact Prod.ext rfl this
theorem gR_par (e : EvS cs rs) (h : InR cs rs p) : ((gR cs rs p).1 + (gR cs rs p).2 + (p.1 + p.2)) % 2 = 1 := by
  have := st1_par (d := rs.getD p.2.toNat 0) (by have := e.1.1; omega) (by have := e.1.2; omega) h.1.1 h.1.2
  show (st1 _ _ p.1 + p.2 + (p.1 + p.2)) % 2 = 1
  omega
theorem gC_par (e : EvS cs rs) (h : InR cs rs p) : ((gC cs rs p).1 + (gC cs rs p).2 + (p.1 + p.2)) % 2 = 1 := by
  have := st1_par (d := cs.getD p.1.toNat 0) (by have := e.2.1; omega) (by have := e.2.2; omega) h.2.1 h.2.2
  show (p.1 + st1 _ _ p.2 + (p.1 + p.2)) % 2 = 1
  omega
theorem gR_inj (e : EvS cs rs) (h : InR cs rs p) (h' : InR cs rs q) (z : gR cs rs p = gR cs rs q) : p = q := by rw [← gR_inv e h, z, gR_inv e h']
theorem gC_inj (e : EvS cs rs) (h : InR cs rs p) (h' : InR cs rs q) (z : gC cs rs p = gC cs rs q) : p = q := by rw [← gC_inv e h, z, gC_inv e h']
/-- so many double steps on -/
def itr (cs rs : List Int) : Nat → Int × Int → Int × Int
  | 0, p => p
  | n + 1, p => gC cs rs (gR cs rs (itr cs rs n p))
theorem itr_in (e : EvS cs rs) (h : InR cs rs p) : ∀ n, InR cs rs (itr cs rs n p)
  | 0 => h
  | n + 1 => gC_in e (gR_in e (itr_in e h n))
theorem itr_par (e : EvS cs rs) (h : InR cs rs p) : ∀ n, ((itr cs rs n p).1 + (itr cs rs n p).2 + (p.1 + p.2)) % 2 = 0
  | 0 => by show (p.1 + p.2 + (p.1 + p.2)) % 2 = 0; omega
  | n + 1 => by
    have h1 := itr_par e h n
    have h2 := gR_par e (itr_in e h n)
    have h3 := gC_par e (gR_in e (itr_in e h n))
    show ((gC cs rs (gR cs rs (itr cs rs n p))).1 + (gC cs rs (gR cs rs (itr cs rs n p))).2 + (p.1 + p.2)) % 2 = 0
    omega
theorem itr_step_inj (e : EvS cs rs) (h : InR cs rs p) (h' : InR cs rs q) {i j : Nat} (z : itr cs rs (i + 1) p = itr cs rs (j + 1) q) : itr cs rs i p = itr cs rs j q :=
  gR_inj e (itr_in e h i) (itr_in e h' j) (gC_inj e (gR_in e (itr_in e h i)) (gR_in e (itr_in e h' j)) z)
theorem itr_back (e : EvS cs rs) (h : InR cs rs p) : ∀ (i k : Nat), itr cs rs i p = itr cs rs (i + k) p → p = itr cs rs k p
  | 0, k, z => by rw [Nat.zero_add] at z; exact z
  | i + 1, k, z => itr_back e h i k (itr_step_inj e h h (by rw [show i + k + 1 = i + 1 + k by omega]; exact z))
/-- not back yet -/
def NoRet (cs rs : List Int) (p : Int × Int) (n : Nat) : Prop := ∀ j, 0 < j → j < n → itr cs rs j p ≠ p
theorem itr_ne (e : EvS cs rs) (h : InR cs rs p) {n i j : Nat} (nr : NoRet cs rs p n) (hij : i < j) (hj : j < n) : itr cs rs i p ≠ itr cs rs j p := fun z => by
  have := itr_back e h i (j - i) (by rw [show i + (j - i) = j by omega]; exact z)
  exact nr (j - i) (by omega) (by omega) this.symm
/-- the points of so many double steps -/
def pts (cs rs : List Int) (p : Int × Int) : Nat → List (Int × Int)
  | 0 => []
  | n + 1 => pts cs rs p n ++ [itr cs rs n p, gR cs rs (itr cs rs n p)]
theorem pts_len (n : Nat) : (pts cs rs p n).length = 2 * n := by
  induction n with
  | zero => rfl
  | succ n ih => show (pts cs rs p n ++ _).length = _; rw [List.length_append, ih]; show 2 * n + 2 = _; omega
theorem mem_pts {n : Nat} : q ∈ pts cs rs p n ↔ ∃ i, i < n ∧ (q = itr cs rs i p ∨ q = gR cs rs (itr cs rs i p)) := by
  induction n with
  | zero => exact ⟨fun h => (by cases h), fun ⟨i, h, _⟩ => absurd h (Nat.not_lt_zero i)⟩
  | succ n ih =>
    show q ∈ pts cs rs p n ++ _ ↔ _
    rw [List.mem_append, ih]
    constructor
    · rintro (⟨i, hi, h⟩ | h)
      · exact ⟨i, by omega, h⟩
      · simp only [List.mem_cons, List.not_mem_nil, or_false] at h
        exact ⟨n, by omega, h⟩
    · rintro ⟨i, hi, h⟩
      by_cases e : i = n
      · subst e
        exact .inr (by simp only [List.mem_cons, List.not_mem_nil, or_false]; exact h)
      · exact .inl ⟨i, by omega, h⟩
theorem pts_in (e : EvS cs rs) (h : InR cs rs p) {n : Nat} : ∀ q ∈ pts cs rs p n, InR cs rs q := fun q hq => by
  obtain ⟨i, _, rfl | rfl⟩ := mem_pts.mp hq
  · exact itr_in e h i
  · exact gR_in e (itr_in e h i)
theorem itr_ne_gR (e : EvS cs rs) (h : InR cs rs p) (i j : Nat) : itr cs rs i p ≠ gR cs rs (itr cs rs j p) := fun z => by
  have h1 := itr_par e h i
  have h2 := itr_par e h j
  have h3 := gR_par e (itr_in e h j)
  rw [← z] at h3
  omega
theorem pts_nodup (e : EvS cs rs) (h : InR cs rs p) {n : Nat} (nr : NoRet cs rs p n) : (pts cs rs p n).Nodup := by
  induction n with
  | zero => exact List.nodup_nil
  | succ n ih =>
    have ih := ih fun j h0 h1 => nr j h0 (by omega)
    show (pts cs rs p n ++ [itr cs rs n p, gR cs rs (itr cs rs n p)]).Nodup
    rw [List.nodup_append]
    refine ⟨ih, ?_, ?_⟩
    · rw [List.nodup_cons]
      exact ⟨fun hm => itr_ne_gR e h n n (List.mem_singleton.mp hm), (by simp)⟩
    · intro a ha b hb z
      subst z
      obtain ⟨i, hi, hai⟩ := mem_pts.mp ha
      simp only [List.mem_cons, List.not_mem_nil, or_false] at hb
      rcases hai with rfl | rfl <;> rcases hb with hb | hb
      · exact itr_ne e h nr hi (by omega) hb
      · exact itr_ne_gR e h i n hb
      · exact itr_ne_gR e h n i hb.symm
      · exact itr_ne e h nr hi (by omega) (gR_inj e (itr_in e h i) (itr_in e h n) hb)
/-- all points, numbered -/
def dec (rs : List Int) (k : Nat) : Int × Int := (((k / rs.length : Nat) : Int), ((k % rs.length : Nat) : Int))
theorem dec_enc (h : InR cs rs p) : ∃ k, k < cs.length * rs.length ∧ dec rs k = p := by
  obtain ⟨⟨h1, h2⟩, h3, h4⟩ := h
  obtain ⟨x, y⟩ := p
  obtain ⟨x, rfl⟩ := Int.eq_ofNat_of_zero_le h1
  obtain ⟨y, rfl⟩ := Int.eq_ofNat_of_zero_le h3
  have hx : x < cs.length := by have : (x : Int) < cs.length := h2; omega
  have hy : y < rs.length := by have : (y : Int) < rs.length := h4; omega
  refine ⟨x * rs.length + y, ?_, ?_⟩
  · have := Nat.mul_le_mul_right rs.length (show x + 1 ≤ cs.length by omega)
    rw [Nat.add_mul, Nat.one_mul] at this
    omega
  · unfold dec
    rw [Nat.mul_comm, Nat.mul_add_div (by omega), Nat.div_eq_of_lt hy, Nat.mul_add_mod, Nat.mod_eq_of_lt hy]
    rfl
theorem few {l : List (Int × Int)} (hn : l.Nodup) (hi : ∀ q ∈ l, InR cs rs q) : l.length ≤ cs.length * rs.length := by
  have := nodup_le l ((List.range (cs.length * rs.length)).map (dec rs)) hn fun q hq => by
    obtain ⟨k, hk, rfl⟩ := dec_enc (hi q hq)
    exact List.mem_map.mpr ⟨k, List.mem_range.mpr hk, rfl⟩
  rwa [List.length_map, List.length_range] at this
theorem ret_few (e : EvS cs rs) (h : InR cs rs p) {n : Nat} (nr : NoRet cs rs p n) : 2 * n ≤ cs.length * rs.length := by
  have := few (pts_nodup e h nr) (pts_in e h)
  rwa [pts_len] at this
/-- a round -/
structure Rnd (cs rs : List Int) (p : Int × Int) (n : Nat) : Prop where
  pos : 1 ≤ n
  back : itr cs rs n p = p
  nr : NoRet cs rs p n
theorem Rnd.per (r : Rnd cs rs p n) : ∀ k, itr cs rs (k + n) p = itr cs rs k p
  | 0 => by rw [Nat.zero_add]; exact r.back
  | k + 1 => by
    rw [show k + 1 + n = k + n + 1 by omega]
    show gC cs rs (gR cs rs (itr cs rs (k + n) p)) = gC cs rs (gR cs rs (itr cs rs k p))
    rw [r.per k]
theorem Rnd.mod (r : Rnd cs rs p n) (k : Nat) : ∃ i, i < n ∧ itr cs rs k p = itr cs rs i p := by
  induction k using Nat.strongRecOn with
  | ind k ih =>
    by_cases h : k < n
    · exact ⟨k, h, rfl⟩
    · obtain ⟨i, hi, z⟩ := ih (k - n) (by have := r.pos; omega)
      refine ⟨i, hi, ?_⟩
      rw [← z, ← r.per (k - n), show k - n + n = k by omega]
/-- a point from which the walk meets a round is on it -/
theorem Rnd.meets (e : EvS cs rs) (h : InR cs rs p) (h' : InR cs rs q) (r : Rnd cs rs p n) : ∀ (i j : Nat), itr cs rs i q = itr cs rs j p → ∃ k, q = itr cs rs k p
  | 0, j, z => ⟨j, z⟩
  | i + 1, j, z => by
    refine r.meets e h h' i (j + n - 1) (itr_step_inj e h' h ?_)
    rw [show j + n - 1 + 1 = j + n by have := r.pos; omega, r.per j]
    exact z
theorem Rnd.apart (e : EvS cs rs) (h : InR cs rs p) (h' : InR cs rs q) (hp : (p.1 + p.2) % 2 = 0) (hq : (q.1 + q.2) % 2 = 0) {n m : Nat} (r : Rnd cs rs p n) (hn : q ∉ pts cs rs p n) : ∀ z ∈ pts cs rs q m, z ∉ pts cs rs p n := fun z hz hz' => by
  have on : ∀ i j, itr cs rs i q = itr cs rs j p → False := fun i j y => by
    obtain ⟨k, hk⟩ := r.meets e h h' i j y
    obtain ⟨l, hl, el⟩ := r.mod k
    exact hn (mem_pts.mpr ⟨l, hl, .inl (hk.trans el)⟩)
  have par : ∀ i j, itr cs rs i q ≠ gR cs rs (itr cs rs j p) := fun i j y => by
    have h1 := itr_par e h' i
    have h2 := itr_par e h j
    have h3 := gR_par e (itr_in e h j)
    rw [← y] at h3
    omega
  have par' : ∀ i j, gR cs rs (itr cs rs i q) ≠ itr cs rs j p := fun i j y => by
    have h1 := itr_par e h' i
    have h2 := itr_par e h j
    have h3 := gR_par e (itr_in e h' i)
    rw [y] at h3
    omega
  obtain ⟨i, _, hi⟩ := mem_pts.mp hz
  obtain ⟨j, _, hj⟩ := mem_pts.mp hz'
  rcases hi with rfl | rfl <;> rcases hj with hj | hj
  · exact on i j hj
  · exact par i j hj
  · exact par' i j hj
  · exact on i j (gR_inj e (itr_in e h' i) (itr_in e h j) hj)
/-! how far a walk goes -/
def dR (rs : List Int) (p : Int × Int) : Int := if (p.1 + rs.getD p.2.toNat 0) % 2 = 1 then 1 else -1
def dC (cs : List Int) (p : Int × Int) : Int := if (p.2 + cs.getD p.1.toNat 0) % 2 = 1 then 1 else -1
def sumR (cs rs : List Int) (p : Int × Int) : Nat → Int
  | 0 => 0
  | n + 1 => sumR cs rs p n + dR rs (itr cs rs n p)
def sumC (cs rs : List Int) (p : Int × Int) : Nat → Int
  | 0 => 0
  | n + 1 => sumC cs rs p n + dC cs (gR cs rs (itr cs rs n p))
theorem far_R (h : InR cs rs p) : ∀ n, (itr cs rs n p).1 = (p.1 + sumR cs rs p n) % cs.length
  | 0 => by show p.1 = (p.1 + 0) % _; rw [Int.add_zero, Int.emod_eq_of_lt h.1.1 h.1.2]
  | n + 1 => by
    show ((itr cs rs n p).1 + dR rs (itr cs rs n p)) % (cs.length : Int) = (p.1 + (sumR cs rs p n + dR rs (itr cs rs n p))) % (cs.length : Int)
    rw [far_R h n, Int.emod_add_emod, Int.add_assoc]
theorem far_C (h : InR cs rs p) : ∀ n, (itr cs rs n p).2 = (p.2 + sumC cs rs p n) % rs.length
  | 0 => by show p.2 = (p.2 + 0) % _; rw [Int.add_zero, Int.emod_eq_of_lt h.2.1 h.2.2]
  | n + 1 => by
    show ((itr cs rs n p).2 + dC cs (gR cs rs (itr cs rs n p))) % (rs.length : Int) = (p.2 + (sumC cs rs p n + dC cs (gR cs rs (itr cs rs n p)))) % (rs.length : Int)
    rw [far_C h n, Int.emod_add_emod, Int.add_assoc]
theorem turns {x S N : Int} (h : x = (x + S) % N) : S / N * N = S := by
  refine Int.ediv_mul_cancel_of_emod_eq_zero ?_
  have h2 : (x + S) % N = x % N := by rw [← Int.emod_emod_of_dvd (x + S) (Int.dvd_refl N), ← h]
  have h3 := Int.emod_eq_emod_iff_emod_sub_eq_zero.mp h2
  rwa [show x + S - x = S by omega] at h3
theorem Rnd.right (h : InR cs rs p) (r : Rnd cs rs p n) : sumR cs rs p n / cs.length * cs.length = sumR cs rs p n := turns (x := p.1) (by rw [← far_R h n, r.back])
theorem Rnd.up (h : InR cs rs p) (r : Rnd cs rs p n) : sumC cs rs p n / rs.length * rs.length = sumC cs rs p n := turns (x := p.2) (by rw [← far_C h n, r.back])
end

section
variable {P : Program} {w : World} {K : PySem.W.Frag} {mg : Str → Option Value} {base : Heap} {t : Ad}
theorem small1000' {n : Nat} (h : n < 2000) : n < sizeLine := Nat.lt_of_lt_of_le h (by decide)
/-! points in the heap -/
def Pt (H : Hp) (v : V) (q : Int × Int) : Prop := ∃ a, v = .ref a ∧ H a = some (.tup [.int q.1, .int q.2])
theorem Pt.mono {H H' : Hp} {v : V} {q : Int × Int} (s : Same H H') (h : Pt H v q) : Pt H' v q := by
  obtain ⟨a, rfl, ha⟩ := h
  exact ⟨a, rfl, s _ _ ha⟩
theorem Pt.upd {H : Hp} {v : V} {q : Int × Int} {l : Addr} {u o : HO} (h : Pt H v q) (e : H l = some u) (ne : ∀ ys, HO.tup ys ≠ u) : Pt (upd H l o) v q := by
  obtain ⟨a, rfl, ha⟩ := h
  exact ⟨a, rfl, by rw [upd_ne (ne_of ha e (ne _))]; exact ha⟩
def PwPt (H : Hp) (xs : List V) (ps : List (Int × Int)) : Prop := xs.length = ps.length ∧ ∀ (i : Nat) v q, xs[i]? = some v → ps[i]? = some q → Pt H v q
theorem PwPt.mono {H H' : Hp} {xs : List V} {ps : List (Int × Int)} (s : Same H H') (h : PwPt H xs ps) : PwPt H' xs ps := ⟨h.1, fun i v q h1 h2 => (h.2 i v q h1 h2).mono s⟩
theorem PwPt.upd {H : Hp} {xs : List V} {ps : List (Int × Int)} {l : Addr} {u o : HO} (h : PwPt H xs ps) (e : H l = some u) (ne : ∀ ys, HO.tup ys ≠ u) : PwPt (upd H l o) xs ps := ⟨h.1, fun i v q h1 h2 => (h.2 i v q h1 h2).upd e ne⟩
theorem PwPt.snoc {H : Hp} {xs : List V} {ps : List (Int × Int)} {v : V} {q : Int × Int} (h : PwPt H xs ps) (hv : Pt H v q) : PwPt H (xs ++ [v]) (ps ++ [q]) := by
  refine ⟨by rw [List.length_append, List.length_append, h.1]; rfl, fun i v' q' h1 h2 => ?_⟩
  by_cases hi : i < xs.length
  · rw [List.getElem?_append_left hi] at h1
    rw [List.getElem?_append_left (by rw [← h.1]; exact hi)] at h2
    exact h.2 i v' q' h1 h2
  · rw [List.getElem?_append_right (by omega)] at h1
    rw [List.getElem?_append_right (by rw [← h.1]; omega), ← h.1] at h2
    cases hk : i - xs.length with
    | zero =>
      rw [hk] at h1 h2
      simp only [List.getElem?_cons_zero, Option.some.injEq] at h1 h2
      rw [← h1, ← h2]; exact hv
    | succ k => rw [hk] at h1; simp at h1
theorem RBits.evs {cs rs : List Int} (bc : RBits cs) (br : RBits rs) : EvS cs rs := ⟨⟨bc.1.1, bc.1.2.2⟩, br.1.1, br.1.2.2⟩
theorem dR_eq {rs : List Int} {x y : Int} : (if stB rs y x = true then (1 : Int) else -1) = dR rs (x, y) := by
  unfold stB dR
  by_cases h : (x + rs.getD y.toNat 0) % 2 = 1
  · rw [decide_eq_true h, if_pos rfl, if_pos h]
  · rw [decide_eq_false h, if_neg (by decide), if_neg h]
theorem dC_eq {cs : List Int} {x y : Int} : (if stB cs x y = true then (1 : Int) else -1) = dC cs (x, y) := by
  unfold stB dC
  by_cases h : (y + cs.getD x.toNat 0) % 2 = 1
  · rw [decide_eq_true h, if_pos rfl, if_pos h]
  · rw [decide_eq_false h, if_neg (by decide), if_neg h]
/-- a round as it is told -/
structure RndAt (H : Hp) (T l : Addr) (cs rs : List Int) (p : Int × Int) (n : Nat) : Prop where
  ob : H T = some (.tup [.ref l, .int (sumR cs rs p n / cs.length), .int (sumC cs rs p n / rs.length)])
  li : ∃ xs, H l = some (.lst xs) ∧ PwPt H xs (pts cs rs p n)
theorem RndAt.mono {H H' : Hp} {T l : Addr} {cs rs : List Int} {p : Int × Int} {n : Nat} (s : Same H H') (h : RndAt H T l cs rs p n) : RndAt H' T l cs rs p n :=
  ⟨s _ _ h.ob, let ⟨xs, h1, h2⟩ := h.li; ⟨xs, s _ _ h1, h2.mono s⟩⟩
def sp_walk (C : Addr) : Sp := fun vs H Q _ => ∃ (p a : Addr) (cs rs : List Int) (x y : Int), vs = [.ref p, .ref a] ∧ RingAt C H p cs rs ∧ RBits cs ∧ RBits rs ∧ H a = some (.tup [.int x, .int y]) ∧ InR cs rs (x, y) ∧
  ∀ n T l H', Same H H' → Rnd cs rs (x, y) n → H l = none → RndAt H' T l cs rs (x, y) n → Q (.ref T) H'
theorem ok_walk (T : Txt K mg t) : FnOk P w K mg base CX0 5 t.f_walk t.d_walk ["ring", "start"] (sp_walk t.a_Ring) := by
  have G_Ringwide := ok_Ringwide (P := P) (w := w) (base := base) T
  have G_Ringtall := ok_Ringtall (P := P) (w := w) (base := base) T
  have G_Ringstitched := ok_Ringstitched (P := P) (w := w) (base := base) T
  refine T.F_walk.ok sc_walk (fun vs H Q E h => ?_) (fun cdv A outer s H vs Q E hr h => ?_)
  · obtain ⟨p, a, cs, rs, x, y, rfl, _⟩ := h; rfl
  · obtain ⟨p, a, cs, rs, x, y, rfl, hC, bc, br, ha, hin, k⟩ := h
    have ev := RBits.evs bc br
    have lc := bc.1
    have lr := br.1
    unfold rOk at lc lr
    have big : cs.length * rs.length ≤ 1600 := Nat.mul_le_mul lc.2.1 lr.2.1
    refine cutC (ps_set (i := 2) sc_walk.nd rfl (Or.inl rfl) (pe_lst pa_nil)) fun _ _ => cutC (ps_set (i := 3) sc_walk.nd rfl (Or.inl rfl) pe_int) fun _ _ => cutC (ps_set (i := 4) sc_walk.nd rfl (Or.inl rfl) pe_int) fun _ _ => cutC (ps_set (i := 5) sc_walk.nd rfl (Or.inl rfl) (pv 1)) fun _ _ => cutC (ps_while PassesOwn.never (PW.pt (pw_or (pt_cmpR op_eq (pe_callB (cI_lenK K rfl) rfl T.no_len (by rfl) (pa_cons (pv 2) pa_nil)) pe_int (nomark _)) (pw_or1 (pt_cmpR (op_neD hr.units) (pv 5) (pv 1) (nomark _))))) (pss_cons (ps_set (i := 6) sc_walk.nd rfl (Or.inl rfl) (pe_ifExp (pt_val (pe_meth (pv 0) T.cl_Ring T.m_Ringstitched G_Ringstitched (hr.mono (by first | decide | omega)) T.b_Ringstitched .nil pass0 (pa_cons pe_str (pa_cons (pe_ix (ix_tupK K rfl) (pv 5) pe_int (fun _ _ => rfl)) (pa_cons (pe_ix (ix_tupK K rfl) (pv 5) pe_int (fun _ _ => rfl)) pa_nil))))) pe_int (pe_un un_neg pe_int))) (pss_cons (ps_set (i := 7) sc_walk.nd rfl (Or.inl rfl) (pe_tup (pa_cons (pe_op op_mod (pe_op op_add (pe_ix (ix_tupK K rfl) (pv 5) pe_int (fun _ _ => rfl)) (pv 6)) (pe_meth0 (pv 0) T.cl_Ring T.m_Ringwide G_Ringwide (hr.mono (by first | decide | omega)) T.b_Ringwide .nil pass0)) (pa_cons (pe_ix (ix_tupK K rfl) (pv 5) pe_int (fun _ _ => rfl)) pa_nil)))) (pss_cons (ps_set (i := 8) sc_walk.nd rfl (Or.inl rfl) (pe_ifExp (pt_val (pe_meth (pv 0) T.cl_Ring T.m_Ringstitched G_Ringstitched (hr.mono (by first | decide | omega)) T.b_Ringstitched .nil pass0 (pa_cons pe_str (pa_cons (pe_ix (ix_tupK K rfl) (pv 7) pe_int (fun _ _ => rfl)) (pa_cons (pe_ix (ix_tupK K rfl) (pv 7) pe_int (fun _ _ => rfl)) pa_nil))))) pe_int (pe_un un_neg pe_int))) (pss_cons (ps_expr (pe_bm PySem.F.plainAttrs_list PySem.F.slot_list_append PySem.F.type_list_append mt_append (pv 2) (pa_cons (pv 5) pa_nil))) (pss_cons (ps_expr (pe_bm PySem.F.plainAttrs_list PySem.F.slot_list_append PySem.F.type_list_append mt_append (pv 2) (pa_cons (pv 7) pa_nil))) (pss_cons (ps_aug (i := 3) sc_walk.nd rfl (Or.inl rfl) (pv 6) ip_add) (pss_cons (ps_aug (i := 4) sc_walk.nd rfl (Or.inl rfl) (pv 8) ip_add) (pss_one (ps_set (i := 5) sc_walk.nd rfl (Or.inl rfl) (pe_tup (pa_cons (pe_ix (ix_tupK K rfl) (pv 7) pe_int (fun _ _ => rfl)) (pa_cons (pe_op op_mod (pe_op op_add (pe_ix (ix_tupK K rfl) (pv 7) pe_int (fun _ _ => rfl)) (pv 8)) (pe_meth0 (pv 0) T.cl_Ring T.m_Ringtall G_Ringtall (hr.mono (by first | decide | omega)) T.b_Ringtall .nil pass0)) pa_nil))))))))))))) fun _ _ => cutE (ps_ret (pe_tup (pa_cons (pv 2) (pa_cons (pe_op op_fdiv (pv 3) (pe_meth0 (pv 0) T.cl_Ring T.m_Ringwide G_Ringwide (hr.mono (by first | decide | omega)) T.b_Ringwide .nil pass0)) (pa_cons (pe_op op_fdiv (pv 4) (pe_meth0 (pv 0) T.cl_Ring T.m_Ringtall G_Ringtall (hr.mono (by first | decide | omega)) T.b_Ringtall .nil pass0)) pa_nil))))) fun _ _ => ?_
    walk_at "rdv"
    refine ⟨Nat.zero_le _, fun l n1 => ?_⟩
    have s1 := Same.new (o := HO.lst []) n1
    have e1 := upd_same (H := H) (a := l) (o := HO.lst [])
    generalize upd H l (HO.lst []) = H1 at s1 e1 ⊢
    walk_at "rdv"
    refine ⟨fun m σ' H' => ∃ (i : Nat) (xs : List V) (b : Addr) (o6 o7 o8 : Option V), m = cs.length * rs.length + 1 - i ∧ σ' = [some (.ref p), some (.ref a), some (.ref l), some (.int (sumR cs rs (x, y) i)), some (.int (sumC cs rs (x, y) i)), some (.ref b), o6, o7, o8] ∧ Same H H' ∧ H' l = some (.lst xs) ∧
      PwPt H' xs (pts cs rs (x, y) i) ∧ Pt H' (.ref b) (itr cs rs i (x, y)) ∧ NoRet cs rs (x, y) i, ⟨_, 0, [], a, none, none, none, rfl, rfl, s1, e1, ⟨rfl, fun i v q h1 => by simp at h1⟩, ⟨a, rfl, s1 _ _ ha⟩, fun j h0 h1 => absurd h1 (Nat.not_lt_zero j)⟩, ?_⟩
    rintro m σ' H2 ⟨i, xs, b, o6, o7, o8, rfl, rfl, s2, e2, px, ⟨b', hb', hb⟩, nr⟩
    cases hb'
    have lx : xs.length = 2 * i := by rw [px.1, pts_len]
    have few := ret_few ev hin nr
    refine rd_orB (decide (i = 0)) (!decide (itr cs rs i (x, y) = (x, y))) (fun Q' q => ?_) (fun hc Q' q => ?_) ?_
    · walk_at "rdv"
      refine rd_lenL e2 ?_
      walk_at "rdv"
      rw [lx, show decide (((2 * i : Nat) : Int) = 0) = decide (i = 0) from decide_eq_decide.mpr (by omega)]
      exact q
    · walk_at "rdv"
      refine rd_neP hb (s2 _ _ ha) ?_
      walk_at "rdv"
      exact q
    · have hq := itr_in ev hin i
      have hc := gR_in ev hq
      refine ite2 (fun tt => ?_) (fun tf => ?_)
      · refine ⟨fun σ' H' => ∃ (xs : List V) (b : Addr) (o6 o7 o8 : Option V), σ' = [some (.ref p), some (.ref a), some (.ref l), some (.int (sumR cs rs (x, y) (i + 1))), some (.int (sumC cs rs (x, y) (i + 1))), some (.ref b), o6, o7, o8] ∧ Same H H' ∧ H' l = some (.lst xs) ∧
          PwPt H' xs (pts cs rs (x, y) (i + 1)) ∧ Pt H' (.ref b) (itr cs rs (i + 1) (x, y)), ?_, ?_⟩
        · rintro σ' H' ⟨xs, b, o6, o7, o8, rfl, s3, e3, px, hb⟩
          refine ⟨_, ?_, i + 1, xs, b, o6, o7, o8, rfl, rfl, s3, e3, px, hb, fun j h0 h1 => ?_⟩
          · omega
          · by_cases hj : j < i
            · exact nr j h0 hj
            · have : j = i := by omega
              subst this
              rw [decide_eq_false (by omega : ¬ j = 0), Bool.false_or] at tt
              intro z
              rw [decide_eq_true z] at tt
              cases tt
        · obtain ⟨dx, a1, b1, g1, g2, g3⟩ := hC.ob
          have hC2 := hC.mono s2
          have z1 := s2 _ _ g1
          have iS : itr cs rs (i + 1) (x, y) = gC cs rs (gR cs rs (itr cs rs i (x, y))) := rfl
          have sR : sumR cs rs (x, y) (i + 1) = sumR cs rs (x, y) i + dR rs (itr cs rs i (x, y)) := rfl
          have sC : sumC cs rs (x, y) (i + 1) = sumC cs rs (x, y) i + dC cs (gR cs rs (itr cs rs i (x, y))) := rfl
          have pS : pts cs rs (x, y) (i + 1) = pts cs rs (x, y) i ++ [itr cs rs i (x, y)] ++ [gR cs rs (itr cs rs i (x, y))] := by show _ ++ [_, _] = _; rw [List.append_assoc]; rfl
          rw [iS, sR, sC, pS]
          generalize itr cs rs i (x, y) = q at hb hq hc ⊢
          obtain ⟨qx, qy⟩ := q
          obtain ⟨⟨x0, x1⟩, y0, y1⟩ := hq
          obtain ⟨⟨c0, c1⟩, d0, d1⟩ := hc
          have cR : gR cs rs (qx, qy) = ((qx + dR rs (qx, qy)) % (cs.length : Int), qy) := rfl
          dsimp only at x0 x1 y0 y1 hb
          walk_at "rdv"
          refine rd_ifI (i := 1) (j := -1) (stB rs qy qx) (fun Q' k' => ?_) (fun Q' k' => ?_) (fun Q' k' => ?_) ?_
          · walk_at "rdv"
            refine rd_methv z1 (bfl_no _ _ (by decide +kernel)) ?_
            walk_at "rdv"
            refine rd_ixT (SqT.of hb) (v := .int qy) rfl ?_
            walk_at "rdv"
            refine rd_ixT (SqT.of hb) (v := .int qx) rfl ?_
            walk_at "rdv"
            refine ⟨p, "row", _, _, cs, rs, rs, cs, rfl, hC2, .inr ⟨rfl, rfl⟩, .inr ⟨rfl, rfl⟩, y0, y1, x0, x1, ?_⟩
            walk_at "rdv"
            exact k'
          · walk_at "rdv"
            exact k'
          · walk_at "rdv"
            exact k'
          rw [dR_eq]
          rw [cR] at c0 c1 d0 d1 ⊢
          generalize dR rs (qx, qy) = sr at c0 c1 d0 d1 ⊢
          walk_at "rdv"
          refine rd_ixT (SqT.of hb) (v := .int qx) rfl ?_
          walk_at "rdv"
          refine rd_methv z1 (bfl_no _ _ (by decide +kernel)) ?_
          walk_at "rdv"
          refine ⟨p, cs, rs, rfl, hC2, ?_⟩
          walk_at "rdv"
          refine rd_I (by omega) ?_
          walk_at "rdv"
          refine rd_ixT (SqT.of hb) (v := .int qy) rfl ?_
          walk_at "rdv"
          generalize (qx + sr) % (cs.length : Int) = cx at c0 c1 ⊢
          refine ⟨by show 2 ≤ sizeLine; decide, fun c nc => ?_⟩
          have s3 := Same.new (o := HO.tup [V.int cx, V.int qy]) nc
          have ec := upd_same (H := H2) (a := c) (o := HO.tup [V.int cx, V.int qy])
          generalize upd H2 c (HO.tup [V.int cx, V.int qy]) = H3 at s3 ec ⊢
          walk_at "rdv"
          refine rd_ifI (i := 1) (j := -1) (stB cs cx qy) (fun Q' k' => ?_) (fun Q' k' => ?_) (fun Q' k' => ?_) ?_
          · walk_at "rdv"
            refine rd_methv (s3 _ _ z1) (bfl_no _ _ (by decide +kernel)) ?_
            walk_at "rdv"
            refine rd_ixT (SqT.of ec) (v := .int cx) rfl ?_
            walk_at "rdv"
            refine rd_ixT (SqT.of ec) (v := .int qy) rfl ?_
            walk_at "rdv"
            refine ⟨p, "col", _, _, cs, rs, cs, rs, rfl, hC2.mono s3, .inl ⟨rfl, rfl⟩, .inl ⟨rfl, rfl⟩, c0, c1, y0, y1, ?_⟩
            walk_at "rdv"
            exact k'
          · walk_at "rdv"
            exact k'
          · walk_at "rdv"
            exact k'
          rw [dC_eq]
          have cC : gC cs rs (cx, qy) = (cx, (qy + dC cs (cx, qy)) % (rs.length : Int)) := rfl
          rw [cC]
          generalize dC cs (cx, qy) = sc at *
          walk_at "rdv"
          have e3 := s3 _ _ e2
          refine rd_bmL e3 ?_
          walk_at "rdv"
          refine rd_append e3 (by rw [lx]; exact small1000' (by omega)) ?_
          have px4 := ((px.mono s3).upd (o := .lst (xs ++ [V.ref b])) e3 (by intro ys z; cases z)).snoc (q := (qx, qy)) ((Pt.upd (q := (qx, qy)) (o := .lst (xs ++ [V.ref b])) ⟨b, rfl, s3 _ _ hb⟩ e3 (by intro ys z; cases z)))
          have s4 := (s2.trans s3).later (o := .lst (xs ++ [V.ref b])) n1
          have e4 := upd_same (H := H3) (a := l) (o := .lst (xs ++ [V.ref b]))
          have ec4 : upd H3 l (.lst (xs ++ [V.ref b])) c = _ := (upd_ne (ne_of ec e3 (by intro z; cases z))).trans ec
          have hC4 : RingAt t.a_Ring (upd H3 l (.lst (xs ++ [V.ref b]))) p cs rs := hC.mono s4
          generalize upd H3 l (.lst (xs ++ [V.ref b])) = H4 at px4 s4 e4 ec4 hC4 ⊢
          walk_at "rdv"
          refine rd_bmL e4 ?_
          walk_at "rdv"
          refine rd_append e4 (by rw [List.length_append, lx]; exact small1000' (by show 2 * i + 1 < 2000; omega)) ?_
          have px5 := (px4.upd (o := .lst (xs ++ [V.ref b] ++ [V.ref c])) e4 (by intro ys z; cases z)).snoc (q := (cx, qy)) (Pt.upd (q := (cx, qy)) (o := .lst (xs ++ [V.ref b] ++ [V.ref c])) ⟨c, rfl, ec4⟩ e4 (by intro ys z; cases z))
          have s5 := s4.later (o := .lst (xs ++ [V.ref b] ++ [V.ref c])) n1
          have e5 := upd_same (H := H4) (a := l) (o := .lst (xs ++ [V.ref b] ++ [V.ref c]))
          have ec5 : upd H4 l (.lst (xs ++ [V.ref b] ++ [V.ref c])) c = _ := (upd_ne (ne_of ec4 e4 (by intro z; cases z))).trans ec4
          generalize upd H4 l (.lst (xs ++ [V.ref b] ++ [V.ref c])) = H5 at px5 s5 e5 ec5 ⊢
          walk_at "rdv"
          refine rd_ixT (SqT.of ec5) (v := .int cx) rfl ?_
          walk_at "rdv"
          refine rd_ixT (SqT.of ec5) (v := .int qy) rfl ?_
          walk_at "rdv"
          refine rd_methv (s5 _ _ g1) (bfl_no _ _ (by decide +kernel)) ?_
          walk_at "rdv"
          refine ⟨p, cs, rs, rfl, hC.mono s5, ?_⟩
          walk_at "rdv"
          refine rd_I (by omega) ?_
          walk_at "rdv"
          refine ⟨by show 2 ≤ sizeLine; decide, fun d nd => ?_⟩
          have s6 := Same.new (o := HO.tup [V.int cx, V.int ((qy + sc) % (rs.length : Int))]) nd
          walk_at "rdv"
          exact ⟨_, d, _, _, _, rfl, s5.trans s6, s6 _ _ e5, px5.mono s6, ⟨d, rfl, upd_same⟩⟩
      · have tf : i ≠ 0 ∧ itr cs rs i (x, y) = (x, y) := by
          rw [Bool.not_eq_true, Bool.or_eq_false_iff] at tf
          refine ⟨of_decide_eq_false tf.1, ?_⟩
          have := tf.2
          by_cases z : itr cs rs i (x, y) = (x, y)
          · exact z
          · rw [decide_eq_false z] at this; cases this
        obtain ⟨dx, a1, b1, g1, g2, g3⟩ := hC.ob
        walk_at "rdv"
        refine rd_methv (s2 _ _ g1) (bfl_no _ _ (by decide +kernel)) ?_
        walk_at "rdv"
        refine ⟨p, cs, rs, rfl, hC.mono s2, ?_⟩
        walk_at "rdv"
        refine rd_I ⟨by omega, by omega⟩ ?_
        walk_at "rdv"
        refine rd_methv (s2 _ _ g1) (bfl_no _ _ (by decide +kernel)) ?_
        walk_at "rdv"
        refine ⟨p, cs, rs, rfl, hC.mono s2, ?_⟩
        walk_at "rdv"
        refine rd_I ⟨by omega, by omega⟩ ?_
        walk_at "rdv"
        refine ⟨by show 3 ≤ sizeLine; decide, fun T nT => ?_⟩
        have s3 := Same.new (o := HO.tup [V.ref l, V.int (sumR cs rs (x, y) i / cs.length), V.int (sumC cs rs (x, y) i / rs.length)]) nT
        exact k i T l _ (s2.trans s3) ⟨by omega, tf.2, nr⟩ n1 ⟨upd_same, xs, s3 _ _ e2, px.mono s3⟩
end

local macro_rules | `(tactic| walk_at "rdv1") => `(tactic| first
  | ((with_reducible refine' rd_var (v := ?kv) ?ke ?kh); (case ke => exact rfl))
  | (with_reducible refine rd_seqA fun _ _ => ?_) | (with_reducible refine rd_asg ?_) | (with_reducible refine rd_name ?_) | (with_reducible refine rd_ret ?_) | (with_reducible refine rd_retN ?_) | (with_reducible refine rd_drop ?_)
  | (with_reducible refine rd_ifS ?_) | (with_reducible refine rd_tB ?_) | (with_reducible refine rd_tTest ?_) | (with_reducible refine rd_exbl ?_) | (with_reducible refine rd_c ?_) | (with_reducible refine rd_op ?_) | (with_reducible refine rd_un ?_)
  | (with_reducible refine rd_andV ?_) | (with_reducible refine rd_orV ?_) | (with_reducible refine rd_notV ?_) | (with_reducible refine rd_and ?_) | (with_reducible refine rd_or ?_) | (with_reducible refine rd_not ?_) | (with_reducible refine rd_true ?_)
  | (with_reducible refine rd_I0 ?_) | (with_reducible refine rd_U ?_) | (with_reducible refine rd_eqI ?_) | (with_reducible refine rd_neI ?_) | (with_reducible refine rd_eqS ?_) | (with_reducible refine rd_eqB ?_) | (with_reducible refine rd_neB ?_)
  | (with_reducible refine rd_chain ?_) | (with_reducible refine rd_call ?_) | (with_reducible refine rd_nil ?_) | (with_reducible refine rd_cons ?_) | (with_reducible refine rd_CB ?_) | (with_reducible refine rd_tup ?_) | (with_reducible refine rd_lst ?_)
  | (with_reducible refine rd_next ?_) | ((with_reducible refine' rd_aug (x := ?kv) ?ke ?kh); (case ke => exact rfl)) | (with_reducible refine rd_ipI ?_) | (with_reducible refine rd_gcons ?_) | (with_reducible refine rd_gnil ?_) | (with_reducible refine rd_gsub ?_) | (with_reducible refine rd_sfld ?_) | (with_reducible refine rd_while ?_) | (with_reducible refine rd_comp ?_) | (with_reducible refine rd_fld ?_) | (with_reducible refine rd_meth ?_) | (with_reducible refine rd_make ?_) | (with_reducible refine rd_raise ?_) | (with_reducible refine rd_try ?_) | (with_reducible refine rd_callS ?_) | (with_reducible refine rd_methS ?_) | (with_reducible refine rd_makeS ?_) | (with_reducible refine rd_bm ?_) | (with_reducible refine rd_bm0 ?_) | (with_reducible refine rd_sl ?_) | (with_reducible refine rd_nopart ?_) | (with_reducible refine rd_part ?_) | (with_reducible refine rd_exint ?_) | (with_reducible refine rd_exref ?_)
  | (with_reducible refine rd_augS ?_) | (with_reducible refine rd_dput ?_) | (with_reducible refine rd_din ?_) | (with_reducible refine rd_dnotin ?_) | (with_reducible refine rd_dnewT ?_) | (with_reducible refine rd_rng3 ?_) | (with_reducible refine rd_ienum ?_) | (with_reducible refine rd_abs ?_) | (with_reducible refine rd_min2 ?_) | (with_reducible refine rd_max2 ?_) | (with_reducible refine rd_intB ?_) | (with_reducible refine rd_for ?_) | (with_reducible refine rd_rng1 ?_) | (with_reducible refine rd_ilist ?_) | (with_reducible refine rd_itup ?_) | (with_reducible refine rd_izipS ?_) | (with_reducible refine iteT ?_) | (with_reducible refine iteF ?_) | (with_reducible refine if_true_do ?_) | (with_reducible refine iteNN ?_) | (with_reducible refine iteTA ?_) | (with_reducible refine iteFA ?_) | ((with_reducible refine' rd_cut (r := ?kr) ?ke ?kh); (case ke => assumption)) | (dsimp only))
local macro_rules | `(tactic| walk_at "rdv") => `(tactic| repeat walk_at "rdv1")

/-! ### all rounds -/
section
variable {cs rs : List Int}
def flat (cs rs : List Int) (L : List ((Int × Int) × Nat)) : List (Int × Int) := L.flatMap fun r => pts cs rs r.1 r.2
theorem flat_snoc (L : List ((Int × Int) × Nat)) (r : (Int × Int) × Nat) : flat cs rs (L ++ [r]) = flat cs rs L ++ pts cs rs r.1 r.2 := by
  unfold flat
  rw [List.flatMap_append]
  simp
theorem mem_flat {L : List ((Int × Int) × Nat)} {q : Int × Int} : q ∈ flat cs rs L ↔ ∃ r ∈ L, q ∈ pts cs rs r.1 r.2 := List.mem_flatMap
structure PartL (cs rs : List Int) (L : List ((Int × Int) × Nat)) : Prop where
  rnd : ∀ r ∈ L, InR cs rs r.1 ∧ (r.1.1 + r.1.2) % 2 = 0 ∧ Rnd cs rs r.1 r.2
  nd : (flat cs rs L).Nodup
theorem PartL.nil : PartL cs rs [] := ⟨fun r h => (by cases h), List.nodup_nil⟩
theorem PartL.in_ (e : EvS cs rs) {L : List ((Int × Int) × Nat)} (h : PartL cs rs L) : ∀ q ∈ flat cs rs L, InR cs rs q := fun q hq => by
  obtain ⟨r, hr, hq⟩ := mem_flat.mp hq
  exact pts_in e (h.rnd r hr).1 q hq
theorem PartL.add (e : EvS cs rs) {L : List ((Int × Int) × Nat)} (h : PartL cs rs L) {p : Int × Int} {n : Nat} (hp : InR cs rs p) (ev : (p.1 + p.2) % 2 = 0) (r : Rnd cs rs p n) (hn : p ∉ flat cs rs L) : PartL cs rs (L ++ [(p, n)]) := by
  refine ⟨fun r' hr' => ?_, ?_⟩
  · rcases List.mem_append.mp hr' with z | z
    · exact h.rnd r' z
    · rw [List.mem_singleton.mp z]; exact ⟨hp, ev, r⟩
  · rw [flat_snoc, List.nodup_append]
    refine ⟨h.nd, pts_nodup e hp r.nr, fun a ha b hb z => ?_⟩
    subst z
    obtain ⟨r', hr', ha⟩ := mem_flat.mp ha
    obtain ⟨h1, h2, h3⟩ := h.rnd r' hr'
    exact h3.apart e h1 hp h2 ev (fun z => hn (mem_flat.mpr ⟨r', hr', z⟩)) a hb ha
/-- where all points of even sum lie on rounds, all do -/
theorem odd_cov (e : EvS cs rs) {L : List ((Int × Int) × Nat)} (h : PartL cs rs L) (hc : ∀ q, InR cs rs q → (q.1 + q.2) % 2 = 0 → q ∈ flat cs rs L) (q : Int × Int) (hq : InR cs rs q) : q ∈ flat cs rs L := by
  by_cases ev : (q.1 + q.2) % 2 = 0
  · exact hc q hq ev
  · have h1 := gR_par e hq
    obtain ⟨r, hr, hm⟩ := mem_flat.mp (hc _ (gR_in e hq) (by omega))
    obtain ⟨k1, k2, k3⟩ := h.rnd r hr
    obtain ⟨i, hi, hz | hz⟩ := mem_pts.mp hm
    · exact mem_flat.mpr ⟨r, hr, mem_pts.mpr ⟨i, hi, .inr (by rw [← hz, gR_inv e hq])⟩⟩
    · have := gR_inj e hq (itr_in e k1 i) hz
      have := itr_par e k1 i
      subst q
      omega
theorem mem_start {p : Int × Int} {n : Nat} (r : Rnd cs rs p n) : p ∈ pts cs rs p n := mem_pts.mpr ⟨0, r.pos, .inl rfl⟩
end
/-! the keys of a dict by points -/
def ky (q : Int × Int) : List Key := [Sum.inl q.1, Sum.inl q.2]
theorem ky_inj {p q : Int × Int} (h : ky p = ky q) : p = q := by
  unfold ky at h
  simp only [List.cons.injEq, Sum.inl.injEq, and_true] at h
  exact Prod.ext h.1 h.2
def KeysAre (kvs : List (List Key × V)) (ps : List (Int × Int)) : Prop := kvs.map (·.1) = ps.map ky
theorem KeysAre.len {kvs : List (List Key × V)} {ps : List (Int × Int)} (h : KeysAre kvs ps) : kvs.length = ps.length := by
  have := congrArg List.length h
  rwa [List.length_map, List.length_map] at this
theorem KeysAre.val {kvs : List (List Key × V)} {ps : List (Int × Int)} (h : KeysAre kvs ps) (q : Int × Int) : (valV kvs (ky q)).isSome = decide (q ∈ ps) := by
  rw [← valV_any]
  have e : (kvs.any fun kv => decide (kv.1 = ky q)) = (kvs.map (·.1)).any fun k => decide (k = ky q) := by rw [List.any_map]; rfl
  rw [e, show kvs.map (·.1) = ps.map ky from h, Bool.eq_iff_iff, List.any_eq_true, decide_eq_true_eq]
  constructor
  · rintro ⟨k, hk, z⟩
    obtain ⟨p, hp, rfl⟩ := List.mem_map.mp hk
    exact ky_inj (of_decide_eq_true z) ▸ hp
  · intro hq
    exact ⟨ky q, List.mem_map.mpr ⟨q, hq, rfl⟩, decide_eq_true rfl⟩
theorem KeysAre.put {kvs : List (List Key × V)} {ps : List (Int × Int)} {q : Int × Int} {v : V} (h : KeysAre kvs ps) (hq : q ∉ ps) : KeysAre (putK kvs (ky q) v) (ps ++ [q]) := by
  have hn : valV kvs (ky q) = none := by
    have := h.val q
    rw [decide_eq_false hq] at this
    cases e : valV kvs (ky q) with
    | none => rfl
    | some z => rw [e] at this; cases this
  rw [putK_new v hn]
  unfold KeysAre
  rw [List.map_append, List.map_append, show kvs.map (·.1) = ps.map ky from h]
  rfl
section
variable {P : Program} {w : World} {K : PySem.W.Frag} {mg : Str → Option Value} {base : Heap} {t : Ad}
def RndV (H : Hp) (lf : Addr) (cs rs : List Int) (v : V) (r : (Int × Int) × Nat) : Prop := ∃ T l, v = .ref T ∧ l ≠ lf ∧ RndAt H T l cs rs r.1 r.2
def PwR (H : Hp) (lf : Addr) (cs rs : List Int) (xs : List V) (L : List ((Int × Int) × Nat)) : Prop := xs.length = L.length ∧ ∀ (i : Nat) v r, xs[i]? = some v → L[i]? = some r → RndV H lf cs rs v r
theorem RndV.mono {H H' : Hp} {lf : Addr} {cs rs : List Int} {v : V} {r : (Int × Int) × Nat} (s : Same H H') (h : RndV H lf cs rs v r) : RndV H' lf cs rs v r := by
  obtain ⟨T, l, h1, h2, h3⟩ := h
  exact ⟨T, l, h1, h2, h3.mono s⟩
theorem RndV.lst {H : Hp} {lf : Addr} {cs rs : List Int} {v : V} {r : (Int × Int) × Nat} {ys : List V} {o : HO} (h : RndV H lf cs rs v r) (e : H lf = some (.lst ys)) : RndV (upd H lf o) lf cs rs v r := by
  obtain ⟨T, l, h1, h2, ⟨h3, xs, h4, h5⟩⟩ := h
  exact ⟨T, l, h1, h2, ⟨by rw [upd_ne (ne_of h3 e (by intro z; cases z))]; exact h3, xs, by rw [upd_ne h2]; exact h4, h5.upd e (by intro ys z; cases z)⟩⟩
theorem RndV.dct {H : Hp} {lf d : Addr} {cs rs : List Int} {v : V} {r : (Int × Int) × Nat} {ys : List (List Key × V)} {o : HO} (h : RndV H lf cs rs v r) (e : H d = some (.dT ys)) : RndV (upd H d o) lf cs rs v r := by
  obtain ⟨T, l, h1, h2, ⟨h3, xs, h4, h5⟩⟩ := h
  exact ⟨T, l, h1, h2, ⟨by rw [upd_ne (ne_of h3 e (by intro z; cases z))]; exact h3, xs, by rw [upd_ne (ne_of h4 e (by intro z; cases z))]; exact h4, h5.upd e (by intro ys z; cases z)⟩⟩
theorem PwR.mono {H H' : Hp} {lf : Addr} {cs rs : List Int} {xs : List V} {L : List ((Int × Int) × Nat)} (s : Same H H') (h : PwR H lf cs rs xs L) : PwR H' lf cs rs xs L := ⟨h.1, fun i v q h1 h2 => (h.2 i v q h1 h2).mono s⟩
theorem PwR.lst {H : Hp} {lf : Addr} {cs rs : List Int} {xs : List V} {L : List ((Int × Int) × Nat)} {ys : List V} {o : HO} (h : PwR H lf cs rs xs L) (e : H lf = some (.lst ys)) : PwR (upd H lf o) lf cs rs xs L := ⟨h.1, fun i v q h1 h2 => (h.2 i v q h1 h2).lst e⟩
theorem PwR.dct {H : Hp} {lf d : Addr} {cs rs : List Int} {xs : List V} {L : List ((Int × Int) × Nat)} {ys : List (List Key × V)} {o : HO} (h : PwR H lf cs rs xs L) (e : H d = some (.dT ys)) : PwR (upd H d o) lf cs rs xs L := ⟨h.1, fun i v q h1 h2 => (h.2 i v q h1 h2).dct e⟩
theorem PwR.snoc {H : Hp} {lf : Addr} {cs rs : List Int} {xs : List V} {L : List ((Int × Int) × Nat)} {v : V} {r : (Int × Int) × Nat} (h : PwR H lf cs rs xs L) (hv : RndV H lf cs rs v r) : PwR H lf cs rs (xs ++ [v]) (L ++ [r]) := by
  refine ⟨by rw [List.length_append, List.length_append, h.1]; rfl, fun i v' q' h1 h2 => ?_⟩
  by_cases hi : i < xs.length
  · rw [List.getElem?_append_left hi] at h1
    rw [List.getElem?_append_left (by rw [← h.1]; exact hi)] at h2
    exact h.2 i v' q' h1 h2
  · rw [List.getElem?_append_right (by omega)] at h1
    rw [List.getElem?_append_right (by rw [← h.1]; omega), ← h.1] at h2
    cases hk : i - xs.length with
    | zero =>
      rw [hk] at h1 h2
      simp only [List.getElem?_cons_zero, Option.some.injEq] at h1 h2
      rw [← h1, ← h2]; exact hv
    | succ k => rw [hk] at h1; simp at h1
/-- what stands while the rounds are gathered -/
structure GaAt (H : Hp) (lf ds : Addr) (cs rs : List Int) (L : List ((Int × Int) × Nat)) (ps : List (Int × Int)) : Prop where
  lst : ∃ xs, H lf = some (.lst xs) ∧ PwR H lf cs rs xs L
  dct : ∃ kvs, H ds = some (.dT kvs) ∧ KeysAre kvs ps
theorem GaAt.mono {H H' : Hp} {lf ds : Addr} {cs rs : List Int} {L : List ((Int × Int) × Nat)} {ps : List (Int × Int)} (s : Same H H') (h : GaAt H lf ds cs rs L ps) : GaAt H' lf ds cs rs L ps :=
  ⟨let ⟨xs, h1, h2⟩ := h.lst; ⟨xs, s _ _ h1, h2.mono s⟩, let ⟨kvs, h1, h2⟩ := h.dct; ⟨kvs, s _ _ h1, h2⟩⟩
def sp_ringrounds (C : Addr) : Sp := fun vs H Q _ => ∃ (p : Addr) (cs rs : List Int), vs = [.ref p] ∧ RingAt C H p cs rs ∧ RBits cs ∧ RBits rs ∧
  ∀ lf L xs H', Same H H' → H lf = none → PartL cs rs L → (∀ q, InR cs rs q → q ∈ flat cs rs L) → H' lf = some (.lst xs) → PwR H' lf cs rs xs L → Q (.ref lf) H'
theorem ok_ringrounds (T : Txt K mg t) : FnOk P w K mg base CX0 6 t.f_ringrounds t.d_ringrounds ["ring"] (sp_ringrounds t.a_Ring) := by
  have G_Ringwide := ok_Ringwide (P := P) (w := w) (base := base) T
  have G_Ringtall := ok_Ringtall (P := P) (w := w) (base := base) T
  have G_walk := ok_walk (P := P) (w := w) (base := base) T
  refine T.F_ringrounds.ok sc_ringrounds (fun vs H Q E h => ?_) (fun cdv A outer s H vs Q E hr h => ?_)
  · obtain ⟨p, cs, rs, rfl, _⟩ := h; rfl
  · obtain ⟨p, cs, rs, rfl, hC, bc, br, k⟩ := h
    have ev := RBits.evs bc br
    have lc := bc.1
    have lr := br.1
    unfold rOk at lc lr
    have big : cs.length * rs.length ≤ 1600 := Nat.mul_le_mul lc.2.1 lr.2.1
    obtain ⟨dx, a1, b1, g1, g2, g3⟩ := hC.ob
    refine cutC (ps_set (i := 1) sc_ringrounds.nd rfl (Or.inl rfl) (pe_lst pa_nil)) fun _ _ => cutC (ps_set (i := 2) sc_ringrounds.nd rfl (Or.inl rfl) pe_dnewT) fun _ _ => cutC (ps_for PassesOwn.never rfl (pi_range1 rfl T.no_range (pa_cons (pe_meth0 (pv 0) T.cl_Ring T.m_Ringwide G_Ringwide (hr.mono (by first | decide | omega)) T.b_Ringwide .nil pass0) pa_nil)) (pg_name (i := 3) sc_ringrounds.nd rfl (Or.inl rfl)) (pss_one (ps_for PassesOwn.never rfl (pi_range3 rfl T.no_range (pa_cons (pe_op op_mod (pv 3) pe_int) (pa_cons (pe_meth0 (pv 0) T.cl_Ring T.m_Ringtall G_Ringtall (hr.mono (by first | decide | omega)) T.b_Ringtall .nil pass0) (pa_cons pe_int pa_nil)))) (pg_name (i := 4) sc_ringrounds.nd rfl (Or.inl rfl)) (pss_one (ps_join (ps_if (pt_cmp (pc_dnotin (hu_of hr) (pe_tup (pa_cons (pv 3) (pa_cons (pv 4) pa_nil))) (pv 2))) (pss_cons (ps_set (i := 5) sc_ringrounds.nd rfl (Or.inl rfl) (pe_call G_walk (hr.mono (by first | decide | omega)) rfl T.mg_walk T.F_walk.kp T.b_walk .nil pass0 (pa_cons (pv 0) (pa_cons (pe_tup (pa_cons (pv 3) (pa_cons (pv 4) pa_nil))) pa_nil)))) (pss_cons (ps_expr (pe_bm PySem.F.plainAttrs_list PySem.F.slot_list_append PySem.F.type_list_append mt_append (pv 1) (pa_cons (pv 5) pa_nil))) (pss_one (ps_for PassesOwn.never rfl (pi_list (pe_ix (ix_tupK K rfl) (pv 5) pe_int (fun _ _ => rfl))) (pg_name (i := 6) sc_ringrounds.nd rfl (Or.inl rfl)) (pss_one (ps_dput (hu_of hr) (pv 2) (pv 6) pe_bl rfl)))))) pss_nil)))))) fun _ _ => cutE (ps_ret (pv 1)) fun _ _ => ?_
    walk_at "rdv"
    refine ⟨Nat.zero_le _, fun lf nf => ?_⟩
    have s1 := Same.new (o := HO.lst []) nf
    have e1 := upd_same (H := H) (a := lf) (o := HO.lst [])
    generalize upd H lf (HO.lst []) = H1 at s1 e1 ⊢
    walk_at "rdv"
    intro ds nds
    have s2 := Same.new (o := HO.dT []) nds
    have e2 := upd_same (H := H1) (a := ds) (o := HO.dT [])
    have e1 := s2 _ _ e1
    have nds : H ds = none := s1.free nds
    have s2 := s1.trans s2
    generalize upd H1 ds (HO.dT []) = H2 at s2 e1 e2 ⊢
    have ga : GaAt H2 lf ds cs rs [] (flat cs rs []) := ⟨⟨[], e1, rfl, fun i v r h1 => by simp at h1⟩, ⟨[], e2, rfl⟩⟩
    clear e1 e2 s1
    walk_at "rdv"
    refine rd_methv (s2 _ _ g1) (bfl_no _ _ (by decide +kernel)) ?_
    walk_at "rdv"
    refine ⟨p, cs, rs, rfl, hC.mono s2, ?_⟩
    walk_at "rdv"
    refine ⟨_, rfl, by omega, by omega, ?_⟩
    rw [Int.toNat_natCast]
    refine forW_range (fun x σ' H' => ∃ (L : List ((Int × Int) × Nat)) (o3 o4 o5 o6 : Option V), σ' = [some (.ref p), some (.ref lf), some (.ref ds), o3, o4, o5, o6] ∧ Same H H' ∧ GaAt H' lf ds cs rs L (flat cs rs L) ∧ PartL cs rs L ∧ ∀ q, InR cs rs q → (q.1 + q.2) % 2 = 0 → q.1 < (x : Nat) → q ∈ flat cs rs L)
      ⟨[], none, none, none, none, rfl, s2, ga, .nil, fun q hq _ hx => by have := hq.1.1; omega⟩ ?_ ?_
    · rintro x σ' H3 hx ⟨L, o3, o4, o5, o6, rfl, s3, ga3, pa3, cov3⟩
      rw [Int.zero_add]
      walk_at "rdv"
      refine rd_I (by decide) ?_
      walk_at "rdv"
      refine rd_methv (s3 _ _ g1) (bfl_no _ _ (by decide +kernel)) ?_
      walk_at "rdv"
      refine ⟨p, cs, rs, rfl, hC.mono s3, ?_⟩
      walk_at "rdv"
      refine ⟨_, _, rfl, by omega, by omega, by omega, ?_⟩
      refine forW_range2 (fun j σ' H' => ∃ (L : List ((Int × Int) × Nat)) (o4 o5 o6 : Option V), σ' = [some (.ref p), some (.ref lf), some (.ref ds), some (.int (x : Nat)), o4, o5, o6] ∧ Same H H' ∧ GaAt H' lf ds cs rs L (flat cs rs L) ∧ PartL cs rs L ∧
          ∀ q, InR cs rs q → (q.1 + q.2) % 2 = 0 → (q.1 < (x : Nat) ∨ (q.1 = (x : Nat) ∧ q.2 < (x : Int) % 2 + (j : Nat) * 2)) → q ∈ flat cs rs L)
        ⟨L, o4, o5, o6, rfl, s3, ga3, pa3, fun q hq he h => cov3 q hq he (by have := hq.2.1; omega)⟩ ?_ ?_
      · rintro j σ' H4 hj ⟨L, o4, o5, o6, rfl, s4, ga4, pa4, cov4⟩
        unfold cnt2 at hj
        have hy0 : 0 ≤ (x : Int) % 2 + (j : Nat) * 2 := by omega
        have hy1 : (x : Int) % 2 + (j : Nat) * 2 < rs.length := by omega
        have hev : ((x : Int) + ((x : Int) % 2 + (j : Nat) * 2)) % 2 = 0 := by omega
        have nxt : ∀ L', (∀ q ∈ flat cs rs L, q ∈ flat cs rs L') → (((x : Nat) : Int), (x : Int) % 2 + (j : Nat) * 2) ∈ flat cs rs L' →
            ∀ q, InR cs rs q → (q.1 + q.2) % 2 = 0 → (q.1 < (x : Nat) ∨ (q.1 = (x : Nat) ∧ q.2 < (x : Int) % 2 + ((j + 1 : Nat) : Int) * 2)) → q ∈ flat cs rs L' := fun L' sub hp q hq he h => by
          by_cases hh : q.1 < (x : Nat) ∨ (q.1 = (x : Nat) ∧ q.2 < (x : Int) % 2 + (j : Nat) * 2)
          · exact sub q (cov4 q hq he hh)
          · have : q = (((x : Nat) : Int), (x : Int) % 2 + (j : Nat) * 2) := Prod.ext (by show q.1 = _; omega) (by show q.2 = _; omega)
            rw [this]; exact hp
        have hin : InR cs rs (((x : Nat) : Int), (x : Int) % 2 + (j : Nat) * 2) := ⟨⟨by omega, by show ((x : Nat) : Int) < _; omega⟩, hy0, hy1⟩
        generalize (x : Int) % 2 + (j : Nat) * 2 = yy at hy0 hy1 hev hin nxt ⊢
        clear cov4
        walk_at "rdv"
        refine rd_join (fun σ' H' => ∃ (L' : List ((Int × Int) × Nat)) (o5 o6 : Option V), σ' = [some (.ref p), some (.ref lf), some (.ref ds), some (.int (x : Nat)), some (.int yy), o5, o6] ∧ Same H H' ∧ GaAt H' lf ds cs rs L' (flat cs rs L') ∧ PartL cs rs L' ∧
          (∀ q ∈ flat cs rs L, q ∈ flat cs rs L') ∧ (((x : Nat) : Int), yy) ∈ flat cs rs L') ?_ ?_
        · walk_at "rdv"
          refine ⟨by show 2 ≤ sizeLine; decide, fun a na => ?_⟩
          have s5 := Same.new (o := HO.tup [V.int (x : Nat), V.int yy]) na
          have ea := upd_same (H := H4) (a := a) (o := HO.tup [V.int (x : Nat), V.int yy])
          generalize upd H4 a (HO.tup [V.int (x : Nat), V.int yy]) = H5 at s5 ea ⊢
          have ga5 := ga4.mono s5
          have s5 := s4.trans s5
          obtain ⟨kvs, ed, ke⟩ := ga5.dct
          walk_at "rdv"
          refine ⟨ds, _, rfl, DGet.t (k := ky (((x : Nat) : Int), yy)) ed ea, ?_⟩
          rw [ke.val]
          by_cases hm : (((x : Nat) : Int), yy) ∈ flat cs rs L
          · rw [decide_eq_true hm]
            walk_at "rdv"
            exact ⟨L, _, _, rfl, s5, ga5, pa4, fun q hq => hq, hm⟩
          · rw [decide_eq_false hm]
            walk_at "rdv"
            refine ⟨by show 2 ≤ sizeLine; decide, fun b nb => ?_⟩
            have s6 := Same.new (o := HO.tup [V.int (x : Nat), V.int yy]) nb
            have eb := upd_same (H := H5) (a := b) (o := HO.tup [V.int (x : Nat), V.int yy])
            generalize upd H5 b (HO.tup [V.int (x : Nat), V.int yy]) = H6 at s6 eb ⊢
            have ga6 := ga5.mono s6
            have s6 := s5.trans s6
            clear ed ke kvs ga5 ga4
            walk_at "rdv"
            refine ⟨p, b, cs, rs, _, _, rfl, hC.mono s6, bc, br, eb, hin, fun n T l H7 s7 rn nl ra => ?_⟩
            obtain ⟨xs, el, px⟩ := ra.li
            have ga7 := ga6.mono s7
            obtain ⟨ys, ef, pr⟩ := ga7.lst
            have nlf : l ≠ lf := by
              intro z
              obtain ⟨ys', ef', _⟩ := ga6.lst
              rw [z, ef'] at nl; cases nl
            have s7 := s6.trans s7
            have pa7 := pa4.add ev hin hev rn hm
            have hsub : ∀ q ∈ flat cs rs L, q ∈ flat cs rs (L ++ [((((x : Nat) : Int), yy), n)]) := fun q hq => by rw [flat_snoc]; exact List.mem_append_left _ hq
            have hme : (((x : Nat) : Int), yy) ∈ flat cs rs (L ++ [((((x : Nat) : Int), yy), n)]) := by rw [flat_snoc]; exact List.mem_append_right _ (mem_start rn)
            walk_at "rdv"
            refine rd_bmL ef ?_
            walk_at "rdv"
            have ly : ys.length ≤ 1600 := by
              have h1 := few pa4.nd (pa4.in_ ev)
              have h2 : ∀ (M : List ((Int × Int) × Nat)), (∀ r ∈ M, 1 ≤ r.2) → M.length ≤ (flat cs rs M).length := by
                intro M
                induction M with
                | nil => intro _; exact Nat.zero_le _
                | cons r M ih =>
                  intro hM
                  have := ih fun r' hr' => hM r' (List.mem_cons_of_mem _ hr')
                  have hr := hM r List.mem_cons_self
                  unfold flat at this ⊢
                  rw [List.flatMap_cons, List.length_append, pts_len, List.length_cons]
                  omega
              have h3 := h2 L fun r hr => (pa4.rnd r hr).2.2.pos
              rw [pr.1]
              omega
            refine rd_append ef (small1000' (by omega)) ?_
            have pr8 := (pr.lst (o := .lst (ys ++ [V.ref T])) ef).snoc (r := ((((x : Nat) : Int), yy), n)) (RndV.lst (o := .lst (ys ++ [V.ref T])) ⟨T, l, rfl, nlf, ra⟩ ef)
            have ef8 := upd_same (H := H7) (a := lf) (o := .lst (ys ++ [V.ref T]))
            obtain ⟨kvs, ed, ke⟩ := ga7.dct
            have ed8 : upd H7 lf (.lst (ys ++ [V.ref T])) ds = some (.dT kvs) := (upd_ne (ne_of ed ef (by intro z; cases z))).trans ed
            have s8 := s7.later (o := .lst (ys ++ [V.ref T])) nf
            have el8 : upd H7 lf (.lst (ys ++ [V.ref T])) l = some (.lst xs) := (upd_ne nlf).trans el
            have px8 := px.upd (o := .lst (ys ++ [V.ref T])) ef (by intro ys z; cases z)
            have eT8 : upd H7 lf (.lst (ys ++ [V.ref T])) T = _ := (upd_ne (ne_of ra.ob ef (by intro z; cases z))).trans ra.ob
            generalize upd H7 lf (.lst (ys ++ [V.ref T])) = H8 at pr8 ef8 ed8 s8 el8 px8 eT8 ⊢
            clear ga7 ga6 ef ed el pr s7 s6 ra ea eb
            walk_at "rdv"
            refine rd_ixT (SqT.of eT8) (v := .ref l) rfl ?_
            walk_at "rdv"
            refine ⟨⟨_, SqL.of el8⟩, ?_⟩
            have nd8 : (flat cs rs L ++ pts cs rs (((x : Nat) : Int), yy) n).Nodup := by have := pa7.nd; rwa [flat_snoc] at this
            have fw := few pa7.nd (pa7.in_ ev)
            rw [flat_snoc, List.length_append] at fw
            dsimp only at fw
            refine forW_list (K := K) (a := l) (xs := xs) (fun i σ' H' => ∃ (o6 : Option V) (kvs : List (List Key × V)), σ' = [some (.ref p), some (.ref lf), some (.ref ds), some (.int (x : Nat)), some (.int yy), some (.ref T), o6] ∧ Same H H' ∧ H' lf = some (.lst (ys ++ [V.ref T])) ∧ PwR H' lf cs rs (ys ++ [V.ref T]) (L ++ [((((x : Nat) : Int), yy), n)]) ∧
                H' l = some (.lst xs) ∧ PwPt H' xs (pts cs rs (((x : Nat) : Int), yy) n) ∧ H' ds = some (.dT kvs) ∧ KeysAre kvs (flat cs rs L ++ (pts cs rs (((x : Nat) : Int), yy) n).take i))
              ⟨_, kvs, rfl, s8, ef8, pr8, el8, px8, ed8, by rw [List.take_zero, List.append_nil]; exact ke⟩ (fun i σ' H' _ ⟨_, _, _, _, _, _, z, _⟩ => SqL.of z) ?_ ?_
            · rintro i v σ' H9 hv ⟨o6, kvs, rfl, s9, ef9, pr9, el9, px9, ed9, ke9⟩
              have hi : i < xs.length := (List.getElem?_eq_some_iff.mp hv).1
              have hi' : i < (pts cs rs (((x : Nat) : Int), yy) n).length := by rw [← px9.1]; exact hi
              obtain ⟨q, hq⟩ : ∃ q, (pts cs rs (((x : Nat) : Int), yy) n)[i]? = some q := ⟨_, List.getElem?_eq_getElem hi'⟩
              obtain ⟨c, rfl, hc⟩ := px9.2 i v q hv hq
              have ht : (pts cs rs (((x : Nat) : Int), yy) n).take (i + 1) = (pts cs rs (((x : Nat) : Int), yy) n).take i ++ [q] := by rw [List.take_add_one, hq]; rfl
              have nq : q ∉ flat cs rs L ++ (pts cs rs (((x : Nat) : Int), yy) n).take i := by
                have h1 : (flat cs rs L ++ (pts cs rs (((x : Nat) : Int), yy) n).take (i + 1)).Nodup := by
                  rw [List.nodup_append] at nd8 ⊢
                  refine ⟨nd8.1, nd8.2.1.sublist (List.take_sublist _ _), fun a ha b hb => nd8.2.2 a ha b (List.mem_of_mem_take hb)⟩
                rw [ht, ← List.append_assoc, List.nodup_append] at h1
                exact fun z => h1.2.2 q z q (by simp) rfl
              walk_at "rdv"
              refine ⟨ds, _, rfl, DPut.t (k := ky q) ed9 hc ?_, ?_⟩
              · have := ke9.len
                rw [List.length_append, List.length_take] at this
                exact small1000' (by omega)
              have ke10 := ke9.put (v := .bl true) nq
              rw [List.append_assoc, ← ht] at ke10
              exact ⟨_, _, rfl, s9.later (o := .dT _) nds, (upd_ne (ne_of ef9 ed9 (by intro z; cases z))).trans ef9, pr9.dct ed9, (upd_ne (ne_of el9 ed9 (by intro z; cases z))).trans el9, px9.upd ed9 (by intro ys z; cases z), upd_same, ke10⟩
            · rintro σ' H9 ⟨o6, kvs, rfl, s9, ef9, pr9, el9, px9, ed9, ke9⟩
              rw [List.take_of_length_le (by rw [px9.1]; exact Nat.le_refl _)] at ke9
              exact ⟨L ++ [((((x : Nat) : Int), yy), n)], _, _, rfl, s9, ⟨⟨_, ef9, pr9⟩, ⟨kvs, ed9, by rw [flat_snoc]; exact ke9⟩⟩, pa7, hsub, hme⟩
        · rintro σ2 H5 ⟨L', o5, o6, rfl, s5, ga5, pa5, sub5, me5⟩
          exact ⟨L', _, _, _, rfl, s5, ga5, pa5, nxt L' sub5 me5⟩
      · rintro σ' H4 ⟨L, o4, o5, o6, rfl, s4, ga4, pa4, cov4⟩
        refine ⟨L, _, _, _, _, rfl, s4, ga4, pa4, fun q hq he h => cov4 q hq he ?_⟩
        have h2 := hq.2.2
        have e : ((x + 1 : Nat) : Int) = (x : Int) + 1 := by omega
        by_cases hh : q.1 < (x : Nat)
        · exact .inl hh
        · refine .inr ⟨by omega, ?_⟩
          unfold cnt2
          omega
    · rintro σ' H3 ⟨L, o3, o4, o5, o6, rfl, s3, ga3, pa3, cov3⟩
      obtain ⟨xs, ef, pr⟩ := ga3.lst
      walk_at "rdv"
      exact k lf L xs H3 s3 nf pa3 (odd_cov ev pa3 fun q hq he => cov3 q hq he hq.1.2) ef pr
end

/-! ### the rounds that close in -/
section
variable {cs rs : List Int}
/-- which way a row and a column are gone -/
def wR (rs : List Int) (y : Int) : Int := if (y + rs.getD (y % rs.length).toNat 0) % 2 = 1 then 1 else -1
def wC (cs : List Int) (x : Int) : Int := if (x + 1 + cs.getD (x % cs.length).toNat 0) % 2 = 1 then 1 else -1
theorem mod_par {a N : Int} (h : N % 2 = 0) : (a % N - a) % 2 = 0 := by
  have := Int.mul_ediv_add_emod a N
  obtain ⟨k, rfl⟩ : ∃ k, N = 2 * k := ⟨N / 2, by omega⟩
  rw [Int.mul_assoc] at this
  generalize k * (a / (2 * k)) = m at this
  omega
theorem dR_w (e : EvS cs rs) {p : Int × Int} (h : InR cs rs p) (hp : (p.1 + p.2) % 2 = 0) (n : Nat) : dR rs (itr cs rs n p) = wR rs (p.2 + sumC cs rs p n) := by
  have h1 := itr_par e h n
  have h2 := far_C h n
  have m := mod_par (a := p.2 + sumC cs rs p n) (N := (rs.length : Int)) (by have := e.2.2; omega)
  unfold dR wR
  rw [← h2] at m ⊢
  generalize rs.getD (itr cs rs n p).2.toNat 0 = b
  by_cases c : ((itr cs rs n p).1 + b) % 2 = 1
  · rw [if_pos c, if_pos (by omega)]
  · rw [if_neg c, if_neg (by omega)]
theorem dC_w (e : EvS cs rs) {p : Int × Int} (h : InR cs rs p) (hp : (p.1 + p.2) % 2 = 0) (n : Nat) : dC cs (gR cs rs (itr cs rs n p)) = wC cs (p.1 + sumR cs rs p (n + 1)) := by
  have h1 := itr_par e h (n + 1)
  have h2 := far_R h (n + 1)
  have h3 := gC_par e (gR_in e (itr_in e h n))
  have m := mod_par (a := p.1 + sumR cs rs p (n + 1)) (N := (cs.length : Int)) (by have := e.1.2; omega)
  have e1 : (itr cs rs (n + 1) p).1 = (gR cs rs (itr cs rs n p)).1 := rfl
  have e2 : gC cs rs (gR cs rs (itr cs rs n p)) = itr cs rs (n + 1) p := rfl
  rw [e2] at h3
  unfold dC wC
  rw [← h2, e1] at m ⊢
  rw [e1] at h1 h3
  generalize cs.getD (gR cs rs (itr cs rs n p)).1.toNat 0 = b
  by_cases c : ((gR cs rs (itr cs rs n p)).2 + b) % 2 = 1
  · rw [if_pos c, if_pos (by omega)]
  · rw [if_neg c, if_neg (by omega)]
end

section
variable {cs rs : List Int}
theorem emod_of {y z T : Int} (h : (y - z) % T = 0) : y % T = z % T := Int.emod_eq_emod_iff_emod_sub_eq_zero.mpr h
theorem wR_mod (ev : (rs.length : Int) % 2 = 0) {y z : Int} (h : (y - z) % (rs.length : Int) = 0) : wR rs y = wR rs z := by
  have p := NR.ev_of ev h
  unfold wR
  rw [emod_of h]
  generalize rs.getD (z % (rs.length : Int)).toNat 0 = b
  by_cases c : (y + b) % 2 = 1
  · rw [if_pos c, if_pos (by omega)]
  · rw [if_neg c, if_neg (by omega)]
theorem wC_mod (ev : (cs.length : Int) % 2 = 0) {y z : Int} (h : (y - z) % (cs.length : Int) = 0) : wC cs y = wC cs z := by
  have p := NR.ev_of ev h
  unfold wC
  rw [emod_of h]
  generalize cs.getD (z % (cs.length : Int)).toNat 0 = b
  by_cases c : (y + 1 + b) % 2 = 1
  · rw [if_pos c, if_pos (by omega)]
  · rw [if_neg c, if_neg (by omega)]
/-- how often a round goes to the right and up -/
def cls (cs rs : List Int) (r : (Int × Int) × Nat) : Int × Int := (sumR cs rs r.1 r.2 / cs.length, sumC cs rs r.1 r.2 / rs.length)
theorem itr_of {p q : Int × Int} (h : InR cs rs p) (h' : InR cs rs q) {i k : Nat} (hx : (p.1 + sumR cs rs p i - (q.1 + sumR cs rs q k)) % (cs.length : Int) = 0) (hy : (p.2 + sumC cs rs p i - (q.2 + sumC cs rs q k)) % (rs.length : Int) = 0) : itr cs rs i p = itr cs rs k q :=
  Prod.ext (by rw [far_R h i, far_R h' k]; exact emod_of hx) (by rw [far_C h i, far_C h' k]; exact emod_of hy)
theorem Rnd.torb (e : EvS cs rs) {p : Int × Int} (h : InR cs rs p) (hp : (p.1 + p.2) % 2 = 0) {n : Nat} (r : Rnd cs rs p n) :
    NR.TOrb n cs.length rs.length (cls cs rs (p, n)).1 (cls cs rs (p, n)).2 (wR rs) (wC cs) (fun i => p.1 + sumR cs rs p i) (fun i => p.2 + sumC cs rs p i) := by
  have e1 := e.1.1
  have e2 := e.1.2
  have e3 := e.2.1
  have e4 := e.2.2
  refine ⟨r.pos, by omega, by omega, by omega, by omega, fun y => ?_, fun x => ?_, fun y z => wR_mod (by omega), fun y z => wC_mod (by omega), fun i => ?_, fun i => ?_, ?_, ?_, fun i k hi hk hx hy => ?_⟩
  · unfold wR; split <;> simp
  · unfold wC; split <;> simp
  · show p.1 + (sumR cs rs p i + dR rs (itr cs rs i p)) = p.1 + sumR cs rs p i + _
    rw [dR_w e h hp, Int.add_assoc]
  · show p.2 + (sumC cs rs p i + dC cs (gR cs rs (itr cs rs i p))) = p.2 + sumC cs rs p i + _
    rw [dC_w e h hp, Int.add_assoc]
  · show p.1 + sumR cs rs p n = p.1 + 0 + sumR cs rs p n / cs.length * cs.length
    rw [r.right h, Int.add_zero]
  · show p.2 + sumC cs rs p n = p.2 + 0 + sumC cs rs p n / rs.length * rs.length
    rw [r.up h, Int.add_zero]
  · have same : itr cs rs i p = itr cs rs k p := itr_of h h hx hy
    rcases Nat.lt_trichotomy i k with z | z | z
    · exact absurd same (itr_ne e h r.nr z hk)
    · exact z
    · exact absurd same.symm (itr_ne e h r.nr z hi)
theorem flat_apart : ∀ {L : List ((Int × Int) × Nat)}, (flat cs rs L).Nodup → ∀ {i j : Nat} {r r' : (Int × Int) × Nat}, i < j → L[i]? = some r → L[j]? = some r' → ∀ q, q ∈ pts cs rs r.1 r.2 → q ∈ pts cs rs r'.1 r'.2 → False
  | [], _, i, j, r, r', _, hi, _, _, _, _ => by simp at hi
  | x :: L, hn, i, j, r, r', hij, hi, hj, q, q1, q2 => by
    have hn' : (pts cs rs x.1 x.2 ++ flat cs rs L).Nodup := hn
    rw [List.nodup_append] at hn'
    obtain ⟨j', rfl⟩ : ∃ j', j = j' + 1 := ⟨j - 1, by omega⟩
    have hj' : L[j']? = some r' := hj
    cases i with
    | zero =>
      cases hi
      exact hn'.2.2 q q1 q (mem_flat.mpr ⟨r', List.mem_of_getElem? hj', q2⟩) rfl
    | succ i => exact flat_apart hn'.2.1 (show i < j' by omega) (show L[i]? = some r from hi) hj' q q1 q2
/-- rounds that do not close in go alike -/
theorem alike_rounds (e : EvS cs rs) {L : List ((Int × Int) × Nat)} (pa : PartL cs rs L) {r r' : (Int × Int) × Nat} (hr : r ∈ L) (hr' : r' ∈ L) (h0 : cls cs rs r ≠ (0, 0)) (h0' : cls cs rs r' ≠ (0, 0)) :
    Int.gcd (cls cs rs r).1 (cls cs rs r).2 = 1 ∧ (cls cs rs r' = cls cs rs r ∨ cls cs rs r' = (-(cls cs rs r).1, -(cls cs rs r).2)) := by
  obtain ⟨i1, p1, n1⟩ := pa.rnd r hr
  obtain ⟨i2, p2, n2⟩ := pa.rnd r' hr'
  have t1 := n1.torb e i1 p1
  have t2 := n2.torb e i2 p2
  have g1 := t1.one_factor fun z => h0 (Prod.ext z.1 z.2)
  have g2 := t2.one_factor fun z => h0' (Prod.ext z.1 z.2)
  refine ⟨g1, ?_⟩
  by_cases same : r = r'
  · rw [same]; exact .inl rfl
  obtain ⟨i, hi, ei⟩ := List.mem_iff_getElem.mp hr
  obtain ⟨j, hj, ej⟩ := List.mem_iff_getElem.mp hr'
  have ei' : L[i]? = some r := by rw [List.getElem?_eq_getElem hi, ei]
  have ej' : L[j]? = some r' := by rw [List.getElem?_eq_getElem hj, ej]
  have dis : ∀ q, q ∈ pts cs rs r.1 r.2 → q ∈ pts cs rs r'.1 r'.2 → False := fun q q1 q2 => by
    rcases Nat.lt_trichotomy i j with z | z | z
    · exact flat_apart pa.nd z ei' ej' q q1 q2
    · subst z; rw [ei'] at ej'; cases ej'; exact same rfl
    · exact flat_apart pa.nd z ej' ei' q q2 q1
  have two : NR.Two r.2 r'.2 cs.length rs.length (cls cs rs r).1 (cls cs rs r).2 (cls cs rs r').1 (cls cs rs r').2 (wR rs) (wC cs) (fun i => r.1.1 + sumR cs rs r.1 i) (fun i => r.1.2 + sumC cs rs r.1 i) (fun i => r'.1.1 + sumR cs rs r'.1 i) (fun i => r'.1.2 + sumC cs rs r'.1 i) := by
    refine ⟨t1, t2, ?_, fun i k hx hy => ?_⟩
    · show (r.1.1 + 0 + (r.1.2 + 0) - (r'.1.1 + 0 + (r'.1.2 + 0))) % 2 = 0
      omega
    · have z := itr_of i1 i2 hx hy
      obtain ⟨i', hi', zi⟩ := n1.mod i
      obtain ⟨k', hk', zk⟩ := n2.mod k
      exact dis (itr cs rs i r.1) (mem_pts.mpr ⟨i', hi', .inl zi⟩) (mem_pts.mpr ⟨k', hk', .inl (z.trans zk)⟩)
  rcases NR.same_class two.class g1 g2 with ⟨z1, z2⟩ | ⟨z1, z2⟩
  · exact .inl (Prod.ext z1 z2)
  · exact .inr (Prod.ext z1 z2)
end

local macro_rules | `(tactic| walk_at "rdv1") => `(tactic| first
  | ((with_reducible refine' rd_var (v := ?kv) ?ke ?kh); (case ke => exact rfl))
  | (with_reducible refine rd_seqA fun _ _ => ?_) | (with_reducible refine rd_asg ?_) | (with_reducible refine rd_name ?_) | (with_reducible refine rd_ret ?_) | (with_reducible refine rd_retN ?_) | (with_reducible refine rd_drop ?_)
  | (with_reducible refine rd_ifS ?_) | (with_reducible refine rd_tB ?_) | (with_reducible refine rd_tTest ?_) | (with_reducible refine rd_exbl ?_) | (with_reducible refine rd_c ?_) | (with_reducible refine rd_op ?_) | (with_reducible refine rd_un ?_)
  | (with_reducible refine rd_andV ?_) | (with_reducible refine rd_orV ?_) | (with_reducible refine rd_notV ?_) | (with_reducible refine rd_and ?_) | (with_reducible refine rd_or ?_) | (with_reducible refine rd_not ?_) | (with_reducible refine rd_true ?_)
  | (with_reducible refine rd_I0 ?_) | (with_reducible refine rd_U ?_) | (with_reducible refine rd_eqI ?_) | (with_reducible refine rd_neI ?_) | (with_reducible refine rd_eqS ?_) | (with_reducible refine rd_eqB ?_) | (with_reducible refine rd_neB ?_)
  | (with_reducible refine rd_chain ?_) | (with_reducible refine rd_call ?_) | (with_reducible refine rd_nil ?_) | (with_reducible refine rd_cons ?_) | (with_reducible refine rd_CB ?_) | (with_reducible refine rd_tup ?_) | (with_reducible refine rd_lst ?_)
  | (with_reducible refine rd_next ?_) | ((with_reducible refine' rd_aug (x := ?kv) ?ke ?kh); (case ke => exact rfl)) | (with_reducible refine rd_ipI ?_) | (with_reducible refine rd_gcons ?_) | (with_reducible refine rd_gnil ?_) | (with_reducible refine rd_gsub ?_) | (with_reducible refine rd_sfld ?_) | (with_reducible refine rd_while ?_) | (with_reducible refine rd_comp ?_) | (with_reducible refine rd_fld ?_) | (with_reducible refine rd_meth ?_) | (with_reducible refine rd_make ?_) | (with_reducible refine rd_raise ?_) | (with_reducible refine rd_try ?_) | (with_reducible refine rd_callS ?_) | (with_reducible refine rd_methS ?_) | (with_reducible refine rd_makeS ?_) | (with_reducible refine rd_bm ?_) | (with_reducible refine rd_bm0 ?_) | (with_reducible refine rd_sl ?_) | (with_reducible refine rd_nopart ?_) | (with_reducible refine rd_part ?_) | (with_reducible refine rd_exint ?_) | (with_reducible refine rd_exref ?_)
  | (with_reducible refine rd_augS ?_) | (with_reducible refine rd_dput ?_) | (with_reducible refine rd_din ?_) | (with_reducible refine rd_dnotin ?_) | (with_reducible refine rd_dnewT ?_) | (with_reducible refine rd_rng3 ?_) | (with_reducible refine rd_ienum ?_) | (with_reducible refine rd_abs ?_) | (with_reducible refine rd_min2 ?_) | (with_reducible refine rd_max2 ?_) | (with_reducible refine rd_intB ?_) | (with_reducible refine rd_for ?_) | (with_reducible refine rd_rng1 ?_) | (with_reducible refine rd_ilist ?_) | (with_reducible refine rd_itup ?_) | (with_reducible refine rd_izipS ?_) | (with_reducible refine iteT ?_) | (with_reducible refine iteF ?_) | (with_reducible refine if_true_do ?_) | (with_reducible refine iteNN ?_) | (with_reducible refine iteTA ?_) | (with_reducible refine iteFA ?_) | ((with_reducible refine' rd_cut (r := ?kr) ?ke ?kh); (case ke => assumption)) | (dsimp only))
local macro_rules | `(tactic| walk_at "rdv") => `(tactic| repeat walk_at "rdv1")

section
variable {P : Program} {w : World} {K : PySem.W.Frag} {mg : Str → Option Value} {base : Heap} {t : Ad}
def sp_Lcommon : Sp := fun vs H Q _ => ∃ (a b : Int), vs = [.int a, .int b] ∧ ∀ H', Same H H' → Q (.int (Int.gcd a b : Nat)) H'
theorem rd_par {i j : Nat} {ta : TA} {D : Ends} {σ : L2.St} {H : Hp} (h : ta σ H fun vs H1 => ∃ v w, vs = [v, w] ∧ D.nx ((σ.set i (some v)).set j (some w)) H1) : tPar i j ta D σ H := h
theorem abs_nat (a : Int) : (if a < 0 then -a else a) = (a.natAbs : Int) := by
  by_cases c : a < 0
  · rw [if_pos c]; omega
  · rw [if_neg c]; omega
theorem ok_Lcommon (T : Txt K mg t) : FnOk P w K mg base CX0 1 t.f_Lcommon t.d_Lcommon ["_law_one", "_law_other"] sp_Lcommon := by
  refine T.F_Lcommon.ok sc_Lcommon (fun vs H Q E h => ?_) (fun cdv A outer s H vs Q E hr h => ?_)
  · obtain ⟨a, b, rfl, _⟩ := h; rfl
  · obtain ⟨a, b, rfl, z⟩ := h
    refine cutC (ps_set (i := 0) sc_Lcommon.nd rfl (Or.inl rfl) (pe_callB cI_abs rfl T.no_abs (by rfl) (pa_cons (pv 0) pa_nil))) fun _ _ => cutC (ps_set (i := 1) sc_Lcommon.nd rfl (Or.inl rfl) (pe_callB cI_abs rfl T.no_abs (by rfl) (pa_cons (pv 1) pa_nil))) fun _ _ => cutC (ps_while PassesOwn.never (pt_cmpR op_gt (pv 1) pe_int (nomark _)) (pss_one (ps_par (i := 0) (j := 1) rfl sc_Lcommon.nd rfl rfl (by decide) rfl rfl (pa_cons (pv 1) (pa_cons (pe_op op_mod (pv 0) (pv 1)) pa_nil)) (by rfl)))) fun _ _ => cutE (ps_ret (pv 0)) fun _ _ => ?_
    walk_at "rdv"
    rw [abs_nat, abs_nat]
    refine ⟨fun m σ' H' => ∃ x y : Nat, y = m ∧ σ' = [some (.int x), some (.int y)] ∧ Same H H' ∧ Nat.gcd x y = Int.gcd a b, ⟨_, _, _, rfl, rfl, Same.refl _, rfl⟩, ?_⟩
    rintro m σ' H2 ⟨x, y, rfl, rfl, s2, hg⟩
    walk_at "rdv"
    refine ite2 (fun c => ?_) (fun c => ?_)
    · have c := of_decide_eq_true c
      refine ⟨fun σ' H' => σ' = [some (.int y), some (.int ((x % y : Nat) : Int))] ∧ Same H H', ?_, ?_⟩
      · rintro σ' H' ⟨rfl, s3⟩
        refine ⟨_, Nat.mod_lt x (by omega), y, x % y, rfl, rfl, s3, ?_⟩
        rw [← hg, Nat.gcd_comm x y, Nat.gcd_rec y x, Nat.gcd_comm]
      · walk_at "rdv"
        refine rd_par ?_
        walk_at "rdv"
        refine rd_I (by omega) ?_
        walk_at "rdv"
        exact ⟨_, _, rfl, by rw [Int.natCast_emod]; rfl, s2⟩
    · have c : ¬ (0 : Int) < (y : Int) := fun z => c (decide_eq_true z)
      have y0 : y = 0 := by omega
      subst y0
      walk_at "rdv"
      rw [Nat.gcd_zero_right] at hg
      rw [hg]
      exact z _ s2
def sp_law (K : PySem.W.Frag) : Sp := fun vs H Q _ => ∃ (a : Addr) (ns : List Int), vs = [.ref a] ∧ SqL K H a (ns.map V.int) ∧ ns.length ≤ 63 ∧ ∀ H', Q (.bl true) H'
theorem ok_law (T : Txt K mg t) : FnOk P w K mg base CX0 11 t.f_law t.d_law ["_law_script"] (sp_law K) := by
  have G_Ldraws := ok_Ldraws (P := P) (w := w) (base := base) T
  have G_Lloop := ok_Lloop (P := P) (w := w) (base := base) T
  have G_Lring := ok_Lring (P := P) (w := w) (base := base) T
  have G_ringrounds := ok_ringrounds (P := P) (w := w) (base := base) T
  have G_Lcommon := ok_Lcommon (P := P) (w := w) (base := base) T
  refine T.F_law.ok sc_law (fun vs H Q E h => ?_) (fun cdv A outer s H vs Q E hr h => ?_)
  · obtain ⟨a, ns, rfl, _⟩ := h; rfl
  · obtain ⟨a, ns, rfl, hS, hl, z⟩ := h
    refine cutC (ps_set (i := 1) sc_law.nd rfl (Or.inl rfl) (pe_call G_Lring (hr.mono (by first | decide | omega)) rfl T.mg_Lring T.F_Lring.kp T.b_Lring .nil pass0 (pa_cons (pe_call G_Lloop (hr.mono (by first | decide | omega)) rfl T.mg_Lloop T.F_Lloop.kp T.b_Lloop .nil pass0 (pa_cons (pe_call G_Ldraws (hr.mono (by first | decide | omega)) rfl T.mg_Ldraws T.F_Ldraws.kp T.b_Ldraws .nil pass0 (pa_cons (pv 0) (pa_cons pe_int pa_nil))) pa_nil)) pa_nil))) fun _ _ => cutC (ps_setC (i := 2) sc_law.nd rfl (Or.inl rfl) (N := ["_law_line", "_law_right", "_law_up"]) (cap := [none, none, none]) rfl ⟨rfl, rfl, rfl, rfl, rfl, rfl⟩ (pi_list (pe_call G_ringrounds (hr.mono (by first | decide | omega)) rfl T.mg_ringrounds T.F_ringrounds.kp T.b_ringrounds .nil pass0 (pa_cons (pv 1) pa_nil))) (fun _ _ _ => (pg_tupK (n := 3) K rfl rfl (pgs_cons (pg_name (i := 0) (show (["_law_line", "_law_right", "_law_up"] : List Str).Nodup by decide +kernel) rfl (Or.inl rfl)) (pgs_cons (pg_name (i := 1) (show (["_law_line", "_law_right", "_law_up"] : List Str).Nodup by decide +kernel) rfl (Or.inl rfl)) (pgs_cons (pg_name (i := 2) (show (["_law_line", "_law_right", "_law_up"] : List Str).Nodup by decide +kernel) rfl (Or.inl rfl)) pgs_nil))))) (fun _ _ _ => (pts_one (pt_cmpR (op_neD hr.units) (pe_tup (pa_cons (pv 1) (pa_cons (pv 2) pa_nil))) (pe_tup (pa_cons pe_int (pa_cons pe_int pa_nil))) (nomark _)))) (fun _ _ _ => (pe_tup (pa_cons (pv 1) (pa_cons (pv 2) pa_nil)))) (by rfl)) fun _ _ => cutC (ps_for PassesOwn.never rfl (pi_list (pv 2)) (pg_tupK (n := 2) K rfl rfl (pgs_cons (pg_name (i := 3) sc_law.nd rfl (Or.inl rfl)) (pgs_cons (pg_name (i := 4) sc_law.nd rfl (Or.inl rfl)) pgs_nil))) (pss_cons (ps_if (PW.pt (pw_and (pt_cmpR (op_neD hr.units) (pe_tup (pa_cons (pv 3) (pa_cons (pv 4) pa_nil))) (pe_ix (ix_listK K rfl) (pv 2) pe_int (fun _ _ => rfl)) (nomark _)) (pw_and1 (pt_cmpR (op_neD hr.units) (pe_tup (pa_cons (pe_un un_neg (pv 3)) (pa_cons (pe_un un_neg (pv 4)) pa_nil))) (pe_ix (ix_listK K rfl) (pv 2) pe_int (fun _ _ => rfl)) (nomark _))))) (pss_one (ps_ret pe_bl)) pss_nil) (pss_one (ps_if (pt_cmpR op_ne (pe_call G_Lcommon (hr.mono (by first | decide | omega)) rfl T.mg_Lcommon T.F_Lcommon.kp T.b_Lcommon .nil pass0 (pa_cons (pv 3) (pa_cons (pv 4) pa_nil))) pe_int (nomark _)) (pss_one (ps_ret pe_bl)) pss_nil)))) fun _ _ => cutE (ps_ret pe_bl) fun _ _ => ?_
    walk_at "rdv"
    refine ⟨a, 11, ns, rfl, hS, hl, by decide, fun ls zs H1 s1 es lz _ sm => ?_⟩
    walk_at "rdv"
    refine ⟨ls, zs, rfl, es, lz, fun pp cs rs H2 s2 pl => ?_⟩
    walk_at "rdv"
    have bc := pl.bc
    have br := pl.br
    have ev := RBits.evs bc br
    have lc := bc.1
    have lr := br.1
    unfold rOk at lc lr
    have big : cs.length * rs.length ≤ 1600 := Nat.mul_le_mul lc.2.1 lr.2.1
    refine ⟨pp, cs, rs, rfl, pl, fun p H3 s3 hC => ?_⟩
    walk_at "rdv"
    refine ⟨p, cs, rs, rfl, hC, bc, br, fun lf L xs H5 s5 _ pa cov ef pr => ?_⟩
    clear s1 s2 s3 s5 es
    have lL : L.length ≤ 1600 := by
      have h1 := few pa.nd (pa.in_ ev)
      have h2 : ∀ (M : List ((Int × Int) × Nat)), (∀ r ∈ M, 1 ≤ r.2) → M.length ≤ (flat cs rs M).length := by
        intro M
        induction M with
        | nil => intro _; exact Nat.zero_le _
        | cons r M ih =>
          intro hM
          have := ih fun r' hr' => hM r' (List.mem_cons_of_mem _ hr')
          have hr := hM r List.mem_cons_self
          unfold flat at this ⊢
          rw [List.flatMap_cons, List.length_append, pts_len, List.length_cons]
          omega
      have h3 := h2 L fun r hr => (pa.rnd r hr).2.2.pos
      omega
    walk_at "rdv"
    refine ⟨⟨_, SqL.of ef⟩, fun l1 n1 => ?_⟩
    refine ⟨xs.length, fun i ys σ' H' => (∃ o0 o1 o2 : Option V, σ' = [o0, o1, o2]) ∧ Same H5 H' ∧ H' l1 = some (.lst ys) ∧ PwPt H' ys (((L.take i).map (cls cs rs)).filter fun q => !decide (q = (0, 0))),
      ⟨⟨none, none, none, rfl⟩, Same.new n1, upd_same, rfl, fun i v q h1 => by simp at h1⟩, ?_, ?_⟩
    · rintro i ys σ' H6 hi ⟨⟨o0, o1, o2, rfl⟩, s6, e6, px⟩
      refine ⟨⟨xs, xs[i], SqL.of (s6 _ _ ef), by simp [hi]⟩, fun x H7 y => ?_⟩
      obtain ⟨e2, y⟩ := y
      subst e2
      have hx := y xs (SqL.of (s6 _ _ ef))
      have hi' : i < L.length := by rw [← pr.1]; exact hi
      obtain ⟨r, hr⟩ : ∃ r, L[i]? = some r := ⟨_, List.getElem?_eq_getElem hi'⟩
      obtain ⟨T0, l, rfl, _, ra⟩ := pr.2 i x r hx hr
      have eT := s6 _ _ ra.ob
      have tk : ((L.take (i + 1)).map (cls cs rs)).filter (fun q => !decide (q = (0, 0))) = ((L.take i).map (cls cs rs)).filter (fun q => !decide (q = (0, 0))) ++ (if cls cs rs r = (0, 0) then [] else [cls cs rs r]) := by
        rw [List.take_add_one, hr, List.map_append, List.filter_append]
        congr 1
        by_cases c : cls cs rs r = (0, 0)
        · rw [if_pos c]; simp [c]
        · rw [if_neg c]; simp [c]
      have ly : ys.length ≤ L.length := by
        rw [px.1]
        refine Nat.le_trans (List.length_filter_le _ _) ?_
        rw [List.length_map, List.length_take]
        omega
      have eT' : H7 T0 = some (.tup [.ref l, .int (cls cs rs r).1, .int (cls cs rs r).2]) := eT
      dsimp only
      rw [tk]
      generalize cls cs rs r = q at eT' ⊢
      obtain ⟨R, U⟩ := q
      dsimp only at eT'
      refine rd_gtup eT' rfl ?_
      walk_at "rdv"
      refine ⟨by show 2 ≤ sizeLine; decide, fun b nb => ?_⟩
      have s8 := Same.new (o := HO.tup [V.int R, V.int U]) nb
      have eb := upd_same (H := H7) (a := b) (o := HO.tup [V.int R, V.int U])
      generalize upd H7 b (HO.tup [V.int R, V.int U]) = H8 at s8 eb ⊢
      walk_at "rdv"
      refine ⟨by show 2 ≤ sizeLine; decide, fun b2 nb2 => ?_⟩
      have s9 := Same.new (o := HO.tup [V.int 0, V.int 0]) nb2
      have eb2 := upd_same (H := H8) (a := b2) (o := HO.tup [V.int 0, V.int 0])
      generalize upd H8 b2 (HO.tup [V.int 0, V.int 0]) = H9 at s9 eb2 ⊢
      have s79 := s8.trans s9
      walk_at "rdv"
      refine rd_neP (s9 _ _ eb) eb2 ?_
      by_cases hz : (R, U) = (0, 0)
      · rw [decide_eq_true hz, if_pos hz, List.append_nil]
        walk_at "rdv"
        exact ⟨⟨_, _, _, rfl⟩, s6.trans s79, s79 _ _ e6, px.mono s79⟩
      · rw [decide_eq_false hz, if_neg hz]
        walk_at "rdv"
        refine ⟨by show 2 ≤ sizeLine; decide, fun b3 nb3 => ?_⟩
        have s10 := Same.new (o := HO.tup [V.int R, V.int U]) nb3
        have s710 := s79.trans s10
        have e10 := s710 _ _ e6
        refine ⟨e10, small1000' (by omega), ⟨_, _, _, rfl⟩, (s6.trans s710).later n1, upd_same, ?_⟩
        exact ((px.mono s710).upd (o := .lst (ys ++ [V.ref b3])) e10 (by intro ys z; cases z)).snoc (q := (R, U)) (Pt.upd (q := (R, U)) (o := .lst (ys ++ [V.ref b3])) ⟨b3, rfl, upd_same⟩ e10 (by intro ys z; cases z))
    · rintro ys σ' H6 ⟨_, s6, e6, px⟩
      rw [List.take_of_length_le (by rw [pr.1]; exact Nat.le_refl _)] at px
      refine ⟨⟨xs, SqL.of (s6 _ _ ef), Nat.le_of_eq rfl⟩, ?_⟩
      generalize hws : ((L.map (cls cs rs)).filter fun q => !decide (q = (0, 0))) = ws at px
      have hw : ∀ q ∈ ws, ∃ r ∈ L, cls cs rs r = q ∧ q ≠ (0, 0) := fun q hq => by
        rw [← hws, List.mem_filter] at hq
        obtain ⟨r, hr, e⟩ := List.mem_map.mp hq.1
        exact ⟨r, hr, e, by simpa using hq.2⟩
      walk_at "rdv"
      refine ⟨⟨_, SqL.of e6⟩, ?_⟩
      refine forW_list (K := K) (a := l1) (xs := ys) (fun i σ' H' => ∃ (o3 o4 : Option V), σ' = [some (.ref a), some (.ref p), some (.ref l1), o3, o4] ∧ Same H6 H')
        ⟨none, none, rfl, Same.refl _⟩ (fun i σ' H' _ ⟨_, _, _, s⟩ => SqL.of (s _ _ e6)) ?_ ?_
      · rintro i v σ' H7 hv ⟨o3, o4, rfl, s7⟩
        have hi : i < ys.length := (List.getElem?_eq_some_iff.mp hv).1
        have hi' : i < ws.length := by rw [← px.1]; exact hi
        obtain ⟨q, hq⟩ : ∃ q, ws[i]? = some q := ⟨_, List.getElem?_eq_getElem hi'⟩
        obtain ⟨q0, hq0⟩ : ∃ q0, ws[0]? = some q0 := ⟨_, List.getElem?_eq_getElem (by omega)⟩
        obtain ⟨v0, hv0⟩ : ∃ v0, ys[0]? = some v0 := ⟨_, List.getElem?_eq_getElem (by omega)⟩
        obtain ⟨b, rfl, hb⟩ := px.2 i v q hv hq
        obtain ⟨b0, rfl, hb0⟩ := px.2 0 v0 q0 hv0 hq0
        obtain ⟨r, hr, er, nr⟩ := hw q (List.mem_of_getElem? hq)
        obtain ⟨r0, hr0, er0, nr0⟩ := hw q0 (List.mem_of_getElem? hq0)
        have al := alike_rounds ev pa hr hr0 (by rw [er]; exact nr) (by rw [er0]; exact nr0)
        rw [er, er0] at al
        obtain ⟨R, U⟩ := q
        obtain ⟨R0, U0⟩ := q0
        dsimp only at hb hb0 al
        refine rd_gtup (s7 _ _ hb) rfl ?_
        walk_at "rdv"
        refine ⟨by show 2 ≤ sizeLine; decide, fun c nc => ?_⟩
        have s8 := Same.new (o := HO.tup [V.int R, V.int U]) nc
        have ec := upd_same (H := H7) (a := c) (o := HO.tup [V.int R, V.int U])
        generalize upd H7 c (HO.tup [V.int R, V.int U]) = H8 at s8 ec ⊢
        have s78 := s7.trans s8
        walk_at "rdv"
        refine rd_ixL (SqL.of (s78 _ _ e6)) (atI_nat (j := 0) hv0) ?_
        walk_at "rdv"
        refine rd_neP ec (s78 _ _ hb0) ?_
        by_cases hz : (R, U) = (R0, U0)
        · rw [decide_eq_true hz]
          walk_at "rdv"
          refine ⟨R, U, rfl, fun H9 s9 => ?_⟩
          walk_at "rdv"
          rw [al.1]
          walk_at "rdv"
          exact ⟨_, _, rfl, s78.trans s9⟩
        · rw [decide_eq_false hz]
          have neg : (-R, -U) = (R0, U0) := by
            rcases al.2 with w | w
            · exact absurd w.symm hz
            · exact w.symm
          walk_at "rdv"
          refine ⟨by show 2 ≤ sizeLine; decide, fun c2 nc2 => ?_⟩
          have s9 := Same.new (o := HO.tup [V.int (-R), V.int (-U)]) nc2
          have ec2 := upd_same (H := H8) (a := c2) (o := HO.tup [V.int (-R), V.int (-U)])
          generalize upd H8 c2 (HO.tup [V.int (-R), V.int (-U)]) = H9 at s9 ec2 ⊢
          have s79 := s78.trans s9
          walk_at "rdv"
          refine rd_ixL (SqL.of (s79 _ _ e6)) (atI_nat (j := 0) hv0) ?_
          walk_at "rdv"
          refine rd_neP ec2 (s79 _ _ hb0) ?_
          rw [decide_eq_true neg]
          walk_at "rdv"
          refine ⟨R, U, rfl, fun H10 s10 => ?_⟩
          walk_at "rdv"
          rw [al.1]
          walk_at "rdv"
          exact ⟨_, _, rfl, s79.trans s10⟩
      · rintro σ' H7 ⟨o3, o4, rfl, s7⟩
        walk_at "rdv"
        exact z _
end

end My

set_option Elab.async false
set_option linter.all false
set_option maxRecDepth 100000
/-- the equation of a record that no proof below uses: with this name taken it is not laid -/
theorem PySem.W.Fast.te4149966116585289630 : True := True.intro
open PySem PySem.W PyProof.Rows
set_option maxRecDepth 100000 in
set_option maxHeartbeats 0 in
theorem PySem.Challenge.cw_sashiko_k36_whole_rounds_go_alike_holds : PySem.Challenge.rw_sashiko_k36_whole_rounds_go_alike.Holds := by
  w_on; o_law; k_head; (case hw => w_witness2)
  k_fill
  refine L2.walk_ofK (l := PySem.Challenge.rw_sashiko_k36_whole_rounds_go_alike) (n := 63) (k := 11) (x := "_law_script") (CX := L2.CX0) (sp := My.sp_law) rfl (by decide) rfl ⟨rfl, by decide, by decide⟩ (fun w h Y => PySem.W.kIn_of Y) ?F ?S ?C
  case F =>
    intro w mg fa h KX G hmg
    have T : ∃ t : My.Ad, My.Txt (L2.KOf KX) mg t ∧ (∀ (s : Shared) (v : Value), BindsTo s t.d_law ⟨[v], []⟩ [("_law_script", v)]) := by
      dsimp only [L2.KOf]
      refine' My.txt_mk KX G ?aC_Board ?ga_Board ?rd_Board ?aC_Ring ?pg_Ring ?hd_Ring ?po_Ring ?sa_Ring ?mk_Ring ?kc_Ring ?naR_columns_count ?naR_rows_count ?naR_col_bits ?naR_row_bits ?a_isnumber ?l_isnumber ?c_isnumber ?k_isnumber ?a_isbelow ?l_isbelow ?c_isbelow ?k_isbelow ?a_isbit ?l_isbit ?c_isbit ?k_isbit ?a_allbits ?l_allbits ?c_allbits ?k_allbits ?a_isside ?l_isside ?c_isside ?k_isside ?a_isringside ?l_isringside ?c_isringside ?k_isringside ?fc_BoardInit ?l_BoardInit ?c_BoardInit ?k_BoardInit ?a_RingInit ?i_RingInit ?l_RingInit ?c_RingInit ?k_RingInit ?a_Ringwide ?i_Ringwide ?l_Ringwide ?c_Ringwide ?k_Ringwide ?a_Ringtall ?i_Ringtall ?l_Ringtall ?c_Ringtall ?k_Ringtall ?a_Ringbitsalong ?i_Ringbitsalong ?l_Ringbitsalong ?c_Ringbitsalong ?k_Ringbitsalong ?a_Ringbit ?i_Ringbit ?l_Ringbit ?c_Ringbit ?k_Ringbit ?a_Ringstitched ?i_Ringstitched ?l_Ringstitched ?c_Ringstitched ?k_Ringstitched ?a_walk ?l_walk ?c_walk ?k_walk ?a_ringrounds ?l_ringrounds ?c_ringrounds ?k_ringrounds ?a_Lring ?l_Lring ?c_Lring ?k_Lring ?a_Lbits ?l_Lbits ?c_Lbits ?k_Lbits ?a_Lrow ?l_Lrow ?c_Lrow ?k_Lrow ?a_Lloop ?l_Lloop ?c_Lloop ?k_Lloop ?a_Ldraws ?l_Ldraws ?c_Ldraws ?k_Ldraws ?a_Lcommon ?l_Lcommon ?c_Lcommon ?k_Lcommon ?a_law ?l_law ?c_law ?k_law ?aX_BadSize ?aX_BadBit ?aX_NoLine ?aX_NoStep ?x_BadSize ?x_BadBit ?x_NoLine ?x_NoStep ?v_LONGEST_SIDE ?z_isinstance ?z_int ?z_bool ?z_all ?z_len ?z_tuple ?z_list ?z_range ?z_abs ?z_ValueError
      (case aC_Board => k_is)
      (case ga_Board => k_is)
      (case rd_Board => k_is)
      (case aC_Ring => k_is)
      (case pg_Ring => k_is)
      (case hd_Ring => k_is)
      (case po_Ring => k_is)
      (case sa_Ring => k_is)
      (case mk_Ring => k_is)
      (case kc_Ring => k_is)
      (case naR_columns_count => k_is)
      (case naR_rows_count => k_is)
      (case naR_col_bits => k_is)
      (case naR_row_bits => k_is)
      (case a_isnumber => k_is)
      (case l_isnumber => k_is)
      (case c_isnumber => k_is)
      (case k_isnumber => k_is)
      (case a_isbelow => k_is)
      (case l_isbelow => k_is)
      (case c_isbelow => k_is)
      (case k_isbelow => k_is)
      (case a_isbit => k_is)
      (case l_isbit => k_is)
      (case c_isbit => k_is)
      (case k_isbit => k_is)
      (case a_allbits => k_is)
      (case l_allbits => k_is)
      (case c_allbits => k_is)
      (case k_allbits => k_is)
      (case a_isside => k_is)
      (case l_isside => k_is)
      (case c_isside => k_is)
      (case k_isside => k_is)
      (case a_isringside => k_is)
      (case l_isringside => k_is)
      (case c_isringside => k_is)
      (case k_isringside => k_is)
      (case fc_BoardInit => k_is)
      (case l_BoardInit => k_is)
      (case c_BoardInit => k_is)
      (case k_BoardInit => k_is)
      (case a_RingInit => k_is)
      (case i_RingInit => k_is)
      (case l_RingInit => k_is)
      (case c_RingInit => k_is)
      (case k_RingInit => k_is)
      (case a_Ringwide => k_is)
      (case i_Ringwide => k_is)
      (case l_Ringwide => k_is)
      (case c_Ringwide => k_is)
      (case k_Ringwide => k_is)
      (case a_Ringtall => k_is)
      (case i_Ringtall => k_is)
      (case l_Ringtall => k_is)
      (case c_Ringtall => k_is)
      (case k_Ringtall => k_is)
      (case a_Ringbitsalong => k_is)
      (case i_Ringbitsalong => k_is)
      (case l_Ringbitsalong => k_is)
      (case c_Ringbitsalong => k_is)
      (case k_Ringbitsalong => k_is)
      (case a_Ringbit => k_is)
      (case i_Ringbit => k_is)
      (case l_Ringbit => k_is)
      (case c_Ringbit => k_is)
      (case k_Ringbit => k_is)
      (case a_Ringstitched => k_is)
      (case i_Ringstitched => k_is)
      (case l_Ringstitched => k_is)
      (case c_Ringstitched => k_is)
      (case k_Ringstitched => k_is)
      (case a_walk => k_is)
      (case l_walk => k_is)
      (case c_walk => k_is)
      (case k_walk => k_is)
      (case a_ringrounds => k_is)
      (case l_ringrounds => k_is)
      (case c_ringrounds => k_is)
      (case k_ringrounds => k_is)
      (case a_Lring => k_is)
      (case l_Lring => k_is)
      (case c_Lring => k_is)
      (case k_Lring => k_is)
      (case a_Lbits => k_is)
      (case l_Lbits => k_is)
      (case c_Lbits => k_is)
      (case k_Lbits => k_is)
      (case a_Lrow => k_is)
      (case l_Lrow => k_is)
      (case c_Lrow => k_is)
      (case k_Lrow => k_is)
      (case a_Lloop => k_is)
      (case l_Lloop => k_is)
      (case c_Lloop => k_is)
      (case k_Lloop => k_is)
      (case a_Ldraws => k_is)
      (case l_Ldraws => k_is)
      (case c_Ldraws => k_is)
      (case k_Ldraws => k_is)
      (case a_Lcommon => k_is)
      (case l_Lcommon => k_is)
      (case c_Lcommon => k_is)
      (case k_Lcommon => k_is)
      (case a_law => k_is)
      (case l_law => k_is)
      (case c_law => k_is)
      (case k_law => k_is)
      (case aX_BadSize => k_is)
      (case aX_BadBit => k_is)
      (case aX_NoLine => k_is)
      (case aX_NoStep => k_is)
      (case x_BadSize => k_exc)
      (case x_BadBit => k_exc)
      (case x_NoLine => k_exc)
      (case x_NoStep => k_exc)
      (case v_LONGEST_SIDE => k_is)
      (case z_isinstance => k_is)
      (case z_int => k_is)
      (case z_bool => k_is)
      (case z_all => k_is)
      (case z_len => k_is)
      (case z_tuple => k_is)
      (case z_list => k_is)
      (case z_range => k_is)
      (case z_abs => k_is)
      (case z_ValueError => k_is)
    obtain ⟨t, T, hb⟩ := T
    have e0 := hmg.symm.trans T.mg_law
    cases e0
    exact ⟨t.d_law, hb, fun base _ _ => My.ok_law T⟩
  case S => exact fun K H a ns hl _ hS => ⟨a, ns, rfl, hS, hl, fun _ => rfl⟩
  case C => exact fun _ _ _ _ z => z

