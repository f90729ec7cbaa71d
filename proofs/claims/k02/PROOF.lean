import PyProof.Rows.All
import Wide.All
import OpenK.AllK
import Wide.FinOn
import Lean
import PyProof.EqAt
import PyProof.EqKinds
import PyProof.TupleCall
import PySem.Challenge.RW_lentwork_k02_places_of_works
set_option Elab.async false
set_option linter.all false
set_option maxRecDepth 100000
/-! THE HAND LAYER, for ints, bools, texts, own classes, LISTS and tuples (index, slices, in, append, pop ..), calls, loops. Paste it whole ahead of your own text; what your proof does not reach may be deleted. -/
namespace L2
open PySem PySem.Spec PyProof.Rows

/-- a key: an int or a str -/
abbrev Key := Sum Int Str
def keyIs : Key → Value → Bool
  | .inl k, v => Value.isInt k v
  | .inr x, v => Value.isStrOf x v
def keyH (w : World) : Key → Int
  | .inl k => hashInt k
  | .inr x => hashStr w x
theorem keyIs_shape : ∀ {k : Key} {v : Value}, keyIs k v = true → (∃ i t, k = Sum.inl i ∧ v = Value.int i t) ∨ (∃ x t, k = Sum.inr x ∧ v = Value.str x t)
  | .inl i, v, h => by
    obtain ⟨t, e⟩ := Value.isInt_shape (k := i) (v := v) h
    exact .inl ⟨i, t, rfl, e⟩
  | .inr x, v, h => by
    obtain ⟨t, e⟩ := Value.isStrOf_shape (x := x) (v := v) h
    exact .inr ⟨x, t, rfl, e⟩
theorem key_ll (a b : Int) : decide ((Sum.inl a : Key) = Sum.inl b) = (a == b) := by
  by_cases e : a = b
  · subst e; simp
  · have h : ¬ (Sum.inl a : Key) = Sum.inl b := fun q => e (Sum.inl.inj q)
    rw [decide_eq_false h]
    exact (beq_eq_false_iff_ne.mpr e).symm
theorem key_rr (a b : Str) : decide ((Sum.inr a : Key) = Sum.inr b) = decide (a = b) := by
  by_cases e : a = b
  · subst e; simp
  · have h : ¬ (Sum.inr a : Key) = Sum.inr b := fun q => e (Sum.inr.inj q)
    rw [decide_eq_false h, decide_eq_false e]
theorem key_lr (a : Int) (b : Str) : decide ((Sum.inl a : Key) = Sum.inr b) = false := decide_eq_false (fun q => nomatch q)
theorem key_rl (a : Str) (b : Int) : decide ((Sum.inr a : Key) = Sum.inl b) = false := decide_eq_false (fun q => nomatch q)

def mixKind (prog : Program) (w : World) : PySem.KeyKind prog w Key where
  is := keyIs
  hash := keyH w
  inj := fun v a b ha hb => by
    rcases keyIs_shape ha with ⟨i, t, rfl, rfl⟩ | ⟨x, t, rfl, rfl⟩
    · rcases keyIs_shape hb with ⟨j, u, rfl, e⟩ | ⟨y, u, rfl, e⟩
      · injection e with e1 _; rw [e1]
      · exact nomatch e
    · rcases keyIs_shape hb with ⟨j, u, rfl, e⟩ | ⟨y, u, rfl, e⟩
      · exact nomatch e
      · injection e with e1 _; rw [e1]
  byValue := fun k v h => by
    rcases keyIs_shape h with ⟨i, t, rfl, rfl⟩ | ⟨x, t, rfl, rfl⟩ <;> rfl
  pyHash := fun hv h => by
    rcases keyIs_shape hv with ⟨i, t, rfl, rfl⟩ | ⟨x, t, rfl, rfl⟩
    · exact wpAny_pyHash_int h
    · exact wpAny_pyHash_str h
  eqBool := fun hu hv h => by
    rcases keyIs_shape hu with ⟨i, t, rfl, rfl⟩ | ⟨x, t, rfl, rfl⟩
    · rcases keyIs_shape hv with ⟨j, u, rfl, rfl⟩ | ⟨y, u, rfl, rfl⟩
      · rw [key_ll] at h; exact wpAny_eqBool_int h
      · rw [key_lr] at h; exact SeqAt.EqAt.int_str i t y u _ _ _ _ h
    · rcases keyIs_shape hv with ⟨j, u, rfl, rfl⟩ | ⟨y, u, rfl, rfl⟩
      · rw [key_rl] at h; exact SeqAt.EqAt.str_int x t j u _ _ _ _ h
      · rw [key_rr] at h; exact wpAny_eqBool_str h
  «strs» := fun k x t v h => by
    rcases keyIs_shape h with ⟨i, u, rfl, e⟩ | ⟨y, u, rfl, e⟩
    · exact nomatch e
    · injection e with e1 _
      subst e1
      cases v <;> rfl

end L2

namespace L2
open PySem PySem.Spec PyProof.Rows

/-- a value, without the heap -/
inductive V where
  | non | bl (b : Bool) | int (i : Int) | str (x : Str) | byt (b : Array UInt8) | flt (b : UInt64) | ref (a : Addr) | ty (n : String)
  deriving DecidableEq

def RelV : V → Value → Prop
  | .non, u => u = Value.none
  | .bl b, u => u = Value.bool b
  | .int i, u => ∃ t, u = Value.int i t
  | .str x, u => ∃ t, u = Value.str x t
  | .byt b, u => ∃ t, u = Value.bytes b t
  | .flt b, u => ∃ t, u = Value.float b t
  | .ref a, u => u = Value.ref a
  | .ty n, u => u = Value.type n

abbrev Vals : List V → List Value → Prop := Paired RelV
theorem Vals.length {xs : List V} {us : List Value} (r : Vals xs us) : xs.length = us.length := Paired.length r
theorem Vals.get : ∀ {xs : List V} {us : List Value} {i : Nat} {x : V}, Vals xs us → xs[i]? = some x → ∃ u, us[i]? = some u ∧ RelV x u
  | _, _, _, _, .nil, e => by simp at e
  | _, _, 0, _, .cons r _, e => by simp at e; subst e; exact ⟨_, rfl, r⟩
  | _, _, i + 1, x, .cons _ t, e => by
    obtain ⟨u, h1, h2⟩ := Vals.get (i := i) (x := x) t (by simpa using e)
    exact ⟨u, by simpa using h1, h2⟩
theorem Vals.set {x : V} {u : Value} (r : RelV x u) : ∀ {xs : List V} {us : List Value} (i : Nat), Vals xs us → Vals (xs.set i x) (us.set i u)
  | _, _, _, .nil => .nil
  | _, _, 0, .cons _ t => .cons r t
  | _, _, i + 1, .cons q t => .cons q (Vals.set r i t)
theorem Vals.append : ∀ {xs ys : List V} {us ws : List Value}, Vals xs us → Vals ys ws → Vals (xs ++ ys) (us ++ ws)
  | _, _, _, _, .nil, s => s
  | _, _, _, _, .cons r t, s => .cons r (Vals.append t s)
theorem Vals.take : ∀ {xs : List V} {us : List Value} (n : Nat), Vals xs us → Vals (xs.take n) (us.take n)
  | _, _, 0, _ => .nil
  | _, _, _ + 1, .nil => .nil
  | _, _, n + 1, .cons r t => .cons r (Vals.take n t)
theorem Vals.drop : ∀ {xs : List V} {us : List Value} (n : Nat), Vals xs us → Vals (xs.drop n) (us.drop n)
  | _, _, 0, r => r
  | _, _, _ + 1, .nil => .nil
  | _, _, n + 1, .cons _ t => Vals.drop n t

def RelO : Option V → Option Value → Prop
  | some v, some u => RelV v u
  | none, none => True
  | _, _ => False
def KV {κ : Type} : List (κ × V) → List (κ × Value) → Prop := Paired fun (p : κ × V) (q : κ × Value) => p.1 = q.1 ∧ RelV p.2 q.2

/-- a key of a dict (00_mix): an int or a text -/
def kV : Key → V
  | .inl i => .int i
  | .inr x => .str x

/-- what stands at a tracked address -/
inductive HO where
  /-- a list -/
  | lst (xs : List V)
  /-- a tuple (never changes) -/
  | tup (xs : List V)
  /-- a dict whose keys are ints and texts; one whose keys are tuples of ints and texts (the empty one is both) -/
  | dK (kvs : List (Key × V)) | dT (kvs : List (List Key × V))
  /-- a set of ints: its members, its size -/
  | set (S : Int → Bool) (n : Nat)
  /-- an instance of the class at C, its dict at dx, its attributes -/
  | ins (C dx : Addr) (fs : List (Str × V))
  /-- the dict of the instance at x -/
  | own (x : Addr)
  /-- the dict of an exception -/
  | xd (fs : List (Str × V))
  /-- a bound method, f of x -/
  | met (f x : Addr)
  /-- a range object lo, lo + 1, .. below hi -/
  | rng (lo hi : Int)
  /-- a thing that is known to the object (the script; a dict while a loop walks it): read, never written while it is so -/
  | frz (o : Obj) (u : HO)
  /-- a code object's table -/
  | tbl (ps : Array Value)
  /-- any other thing, by what is true of its one object (a def of one's own: SetO a S n := HO.ext fun h => ..) -/
  | ext (φ : Heap → Prop)

abbrev Hp := Addr → Option HO
def upd (H : Hp) (a : Addr) (o : HO) : Hp := fun b => if b = a then some o else H b
theorem upd_same {H : Hp} {a : Addr} {o : HO} : upd H a o a = some o := by unfold upd; rw [if_pos rfl]
theorem upd_ne {H : Hp} {a b : Addr} {o : HO} (h : b ≠ a) : upd H a o b = H b := by unfold upd; rw [if_neg h]
/-- two objects of different content stand apart -/
theorem ne_of {H : Hp} {a b : Addr} {o u : HO} (h : H a = some o) (h' : H b = some u) (d : o ≠ u) : a ≠ b := by
  intro e; subst e; rw [h] at h'; exact d (Option.some.inj h')
theorem ne_of_none {H : Hp} {a b : Addr} {o : HO} (h : H a = some o) (h' : H b = none) : a ≠ b := by
  intro e; subst e; rw [h] at h'; cases h'

section
variable (P : Program) (w : World)
def ObjOk (H : Hp) (h : Heap) (a : Addr) : HO → Prop
  | .lst xs => xs.length ≤ sizeLine ∧ ∃ (its : List Value) (n : Nat), Vals xs its ∧ h.get? a = some { cls := .type "list", data := .seq its.toArray n }
  | .tup xs => xs.length ≤ sizeLine ∧ ∃ its : List Value, Vals xs its ∧ IsTup h a its.toArray
  | .dK kvs => kvs.length ≤ sizeLine ∧ (a == sysModules) = false ∧ ∃ vs, KV kvs vs ∧ h.DictOf (mixKind P w) a vs
  | .dT kvs => kvs.length ≤ sizeLine ∧ (a == sysModules) = false ∧ ∃ xs : List (List Key × Addr × Value),
      Paired (fun (p : List Key × V) (q : List Key × Addr × Value) => p.1 = q.1 ∧ H q.2.1 = some (.tup (p.1.map kV)) ∧ RelV p.2 q.2.2) kvs xs ∧
      ∃ o es ep, h.get? a = some o ∧ o.ExactDict ∧ o.data = .dict es ep ∧ es.toList = xs.map (entryOfKey (tupleKind (mixKind P w))) ∧ (xs.map (·.1)).Nodup
  | .set S n => h.SetOf (intKind P w) a S n
  | .ins C dx fs => H dx = some (.own a) ∧ fs.length ≤ 1000 ∧ dx ≠ a ∧ h.get? a = some (PySem.W.instObj C dx) ∧
      ∃ mA, h.Ns1 dx mA ∧ (∀ f, RelO (fs.lookup f) (mA f)) ∧ PySem.Within mA (fs.map (·.1))
  | .own _ => ∃ o, h.get? a = some o
  | .xd fs => ∃ mA, h.Ns1 a mA ∧ ∀ f, RelO (fs.lookup f) (mA f)
  | .rng lo hi => ∃ t u v, h.get? a = some { cls := .type "range", data := .fields #[.int lo t, .int hi u, .int 1 v] }
  | .frz o u => h.get? a = some o ∧ ObjOk H h a u
  | .tbl ps => h.get? a = some { cls := .none, data := .fields ps }
  | .met f x => h.get? a = some (PySem.W.methodObj (.ref f) (.ref x))
  | .ext φ => φ h ∧ (∃ o, h.get? a = some o) ∧ ∀ h1 h2 : Heap, φ h1 → (∀ o, h1.get? a = some o → h2.get? a = some o) → φ h2
/-- the abstract heap is held -/
def HOk (H : Hp) (h : Heap) : Prop := ∀ a o, H a = some o → ObjOk P w H h a o
end

section
variable {P : Program} {w : World} {H H' : Hp} {h h' : Heap} {a : Addr} {o : HO}
theorem ObjOk.lt (x : ObjOk P w H h a o) : a < h.objs.size := by
  cases o with
  | lst xs => obtain ⟨_, _, _, _, e⟩ := x; exact Heap.lt_size e
  | tup xs => obtain ⟨_, _, _, p⟩ := x; exact p.lt
  | dK kvs => obtain ⟨_, _, _, _, o, _, _, e, _⟩ := x; exact Heap.lt_size e
  | dT kvs => obtain ⟨_, _, _, _, o, _, _, e, _⟩ := x; exact Heap.lt_size e
  | set S n => obtain ⟨o, _, _, _, e, _⟩ := x; exact Heap.lt_size e
  | ins C dx fs => obtain ⟨_, _, _, e, _⟩ := x; exact Heap.lt_size e
  | own y => obtain ⟨_, e⟩ := x; exact Heap.lt_size e
  | xd fs => obtain ⟨_, ⟨_, _, _, e, _⟩, _⟩ := x; exact Heap.lt_size e
  | rng lo hi => obtain ⟨_, _, _, e⟩ := x; exact Heap.lt_size e
  | frz ob u => obtain ⟨e, _⟩ := x; exact Heap.lt_size e
  | tbl ps => exact Heap.lt_size (show h.get? a = some _ from x)
  | met f y => exact Heap.lt_size (show h.get? a = some _ from x)
  | ext φ => obtain ⟨_, ⟨_, e⟩, _⟩ := x; exact Heap.lt_size e
theorem Paired.mapP {α β : Type} {F G : α → β → Prop} : ∀ {l₁ : List α} {l₂ : List β}, Paired F l₁ l₂ → (∀ a b, F a b → G a b) → Paired G l₁ l₂
  | _, _, .nil, _ => .nil
  | _, _, .cons r t, f => .cons (f _ _ r) (Paired.mapP t f)
/-- what an object's description leans on: its own object, its own dict, the tuples -/
theorem ObjOk.stay (x : ObjOk P w H h a o) (k : ∀ b u, (b = a ∨ H b = some (.own a)) → h.get? b = some u → h'.get? b = some u)
    (ho : ∀ b, H b = some (.own a) → H' b = some (.own a)) (ht : ∀ b xs, H b = some (.tup xs) → H' b = some (.tup xs)) : ObjOk P w H' h' a o := by
  induction o with
  | lst xs => obtain ⟨z, its, n, r, e⟩ := x; exact ⟨z, its, n, r, k _ _ (.inl rfl) e⟩
  | tup xs => obtain ⟨z, its, r, ob, e, c⟩ := x; exact ⟨z, its, r, ob, k _ _ (.inl rfl) e, c⟩
  | dK kvs => obtain ⟨z, y, vs, r, ob, es, ep, e, c⟩ := x; exact ⟨z, y, vs, r, ob, es, ep, k _ _ (.inl rfl) e, c⟩
  | dT kvs =>
    obtain ⟨z, y, xs, r, ob, es, ep, e, c⟩ := x
    exact ⟨z, y, xs, Paired.mapP r fun p q z => ⟨z.1, ht _ _ z.2.1, z.2.2⟩, ob, es, ep, k _ _ (.inl rfl) e, c⟩
  | set S n => obtain ⟨ob, es, ep, t, e, c⟩ := x; exact ⟨ob, es, ep, t, k _ _ (.inl rfl) e, c⟩
  | ins C dx fs =>
    obtain ⟨d, z, ne, e, mA, ⟨od, es, ep, e2, c⟩, r⟩ := x
    exact ⟨ho _ d, z, ne, k _ _ (.inl rfl) e, mA, ⟨od, es, ep, k _ _ (.inr d) e2, c⟩, r⟩
  | own y => obtain ⟨ob, e⟩ := x; exact ⟨ob, k _ _ (.inl rfl) e⟩
  | xd fs => obtain ⟨mA, ⟨od, es, ep, e, c⟩, r⟩ := x; exact ⟨mA, ⟨od, es, ep, k _ _ (.inl rfl) e, c⟩, r⟩
  | rng lo hi => obtain ⟨t, u, v, e⟩ := x; exact ⟨t, u, v, k _ _ (.inl rfl) e⟩
  | frz ob u ih => obtain ⟨e, q⟩ := x; exact ⟨k _ _ (.inl rfl) e, ih q⟩
  | tbl ps =>
    have e : h.get? a = some { cls := .none, data := .fields ps } := x
    show h'.get? a = some { cls := .none, data := .fields ps }
    exact k a _ (.inl rfl) e
  | met f y =>
    have e : h.get? a = some (PySem.W.methodObj (.ref f) (.ref y)) := x
    show h'.get? a = some (PySem.W.methodObj (.ref f) (.ref y))
    exact k a _ (.inl rfl) e
  | ext φ => obtain ⟨p, ⟨o, e⟩, st⟩ := x; exact ⟨st _ _ p fun o q => k _ _ (.inl rfl) q, ⟨o, k _ _ (.inl rfl) e⟩, st⟩
theorem HOk.lt (x : HOk P w H h) (e : H a = some o) : a < h.objs.size := (x a o e).lt
theorem HOk.fresh (x : HOk P w H h) (e : h.objs.size ≤ a) : H a = none := by
  cases q : H a with
  | none => rfl
  | some u => exact absurd (Nat.lt_of_lt_of_le (x.lt q) e) (Nat.lt_irrefl _)
/-- every object of the heap is kept -/
theorem HOk.kept (x : HOk P w H h) (k : ∀ b u, h.get? b = some u → h'.get? b = some u) : HOk P w H h' := fun a o e =>
  (x a o e).stay (fun b u _ q => k b u q) (fun _ q => q) fun _ _ q => q
/-- a new object is laid and tracked -/
theorem HOk.laid (x : HOk P w H h) (k : ∀ b u, h.get? b = some u → h'.get? b = some u) (hp : h.objs.size ≤ a) (new : ObjOk P w (upd H a o) h' a o) : HOk P w (upd H a o) h' := fun b u e => by
  have hn := x.fresh hp
  by_cases hb : b = a
  · subst hb; rw [upd_same] at e; cases e; exact new
  · rw [upd_ne hb] at e
    exact (x b u e).stay (fun c v _ q => k c v q) (fun c q => by rw [upd_ne (ne_of_none q hn)]; exact q) fun c xs q => by rw [upd_ne (ne_of_none q hn)]; exact q
end

/-- what may be read as u: it is u, or a known u -/
def Rd (H : Hp) (a : Addr) (u : HO) : Prop := H a = some u ∨ ∃ o, H a = some (.frz o u)
theorem Rd.ok {P : Program} {w : World} {H : Hp} {h : Heap} {a : Addr} {u : HO} (r : Rd H a u) (x : HOk P w H h) : ObjOk P w H h a u := by
  rcases r with r | ⟨o, r⟩
  · exact x a u r
  · obtain ⟨_, q⟩ := x a _ r
    exact q
/-- what may be written -/
def Mut : Option HO → Prop
  | some (.lst _) => True
  | some (.dK _) => True
  | some (.dT _) => True
  | some (.set _ _) => True
  | some (.ins _ _ _) => True
  | some (.ext _) => True
  | _ => False
section
variable {P : Program} {w : World} {H : Hp} {h h' : Heap} {x e : Addr} {o' : HO}
/-- the object at e is changed: x itself, or the dict of the instance x -/
theorem HOk.write (ok : HOk P w H h) (mu : Mut (H x)) (he : e = x ∨ H e = some (.own x)) (k : ∀ b u, b ≠ e → h.get? b = some u → h'.get? b = some u) (heo : ∃ u, h'.get? e = some u)
    (new : ObjOk P w (upd H x o') h' x o') : HOk P w (upd H x o') h' := fun b u q => by
  have nown : ∀ c y, H c = some (.own y) → c ≠ x := fun c y r z => by subst z; rw [r] at mu; exact mu
  have ntup : ∀ c xs, H c = some (.tup xs) → c ≠ x := fun c xs r z => by subst z; rw [r] at mu; exact mu
  by_cases hb : b = x
  · subst hb; rw [upd_same] at q; cases q; exact new
  · rw [upd_ne hb] at q
    by_cases hbe : b = e
    · have q' : H b = some (.own x) := by
        rcases he with z | z
        · exact absurd (hbe.trans z) hb
        · rw [hbe]; exact z
      rw [q] at q'; cases q'
      obtain ⟨v, hv⟩ := heo
      exact ⟨v, by rw [hbe]; exact hv⟩
    · refine (ok b u q).stay (fun c v hc r => k c v ?_ r) (fun c r => by rw [upd_ne (nown c b r)]; exact r) fun c xs r => by rw [upd_ne (ntup c xs r)]; exact r
      rcases hc with rfl | hc
      · exact hbe
      · rintro rfl
        rcases he with z | z
        · exact nown c b hc z
        · rw [hc] at z; cases z; exact hb rfl
end

/-! ### kept unless tracked; of the frames at fs (the callers') the slots may change (an exception that passes writes there); of the records at ex (iterators) nothing is said -/
structure Un (fs ex : List Addr) (H H' : Hp) (h h' : Heap) : Prop where
  keep : ∀ b o, h.get? b = some o → H b = none → b ∉ fs → b ∉ ex → h'.get? b = some o
  slot : ∀ b o, h.get? b = some o → H b = none → b ∈ fs → b ∉ ex → ∃ sl, h'.get? b = some { o with slots := sl }
  free : ∀ b o, h.get? b = some o → H b = none → b ∉ ex → H' b = none
  there : ∀ b o, h.get? b = some o → b ∉ ex → ∃ o', h'.get? b = some o'
  tups : ∀ b xs, H b = some (.tup xs) → H' b = some (.tup xs)
  frzs : ∀ b o u, H b = some (.frz o u) → H' b = some (.frz o u)
  tbls : ∀ b ps, H b = some (.tbl ps) → ∃ more, H' b = some (.tbl (ps ++ more))
section
variable {fs fs' ex ex' : List Addr} {H H1 H2 : Hp} {h h1 h2 h' : Heap} {a x e : Addr} {o : HO}
theorem Un.any (u : Un fs ex H H1 h h1) {b : Addr} {ob : Obj} (q : h.get? b = some ob) (n : H b = none) (hx : b ∉ ex) : ∃ sl, h1.get? b = some { ob with slots := sl } := by
  by_cases hb : b ∈ fs
  · exact u.slot b ob q n hb hx
  · exact ⟨ob.slots, u.keep b ob q n hb hx⟩
theorem Un.kept (k : ∀ b u, h.get? b = some u → h'.get? b = some u) : Un fs ex H H h h' :=
  ⟨fun b ob q _ _ _ => k b ob q, fun b ob q _ _ _ => ⟨ob.slots, k b ob q⟩, fun _ _ _ n _ => n, fun b ob q _ => ⟨ob, k b ob q⟩, fun _ _ q => q, fun _ _ _ q => q, fun _ ps q => ⟨#[], by rw [q]; simp⟩⟩
theorem Un.refl : Un fs ex H H h h := Un.kept fun _ _ q => q
theorem Un.laid (k : ∀ b u, h.get? b = some u → h'.get? b = some u) (hp : h.objs.size ≤ a) (hn : H a = none) : Un fs ex H (upd H a o) h h' where
  keep := fun b u q _ _ _ => k b u q
  slot := fun b u q _ _ _ => ⟨u.slots, k b u q⟩
  free := fun b u q n _ => by rw [upd_ne (Nat.ne_of_lt (Nat.lt_of_lt_of_le (Heap.lt_size q) hp))]; exact n
  there := fun b u q _ => ⟨u, k b u q⟩
  tups := fun b xs q => by rw [upd_ne (ne_of_none q hn)]; exact q
  frzs := fun b u xs q => by rw [upd_ne (ne_of_none q hn)]; exact q
  tbls := fun b ps q => ⟨#[], by rw [upd_ne (ne_of_none q hn), q]; simp⟩
theorem Un.write (mu : Mut (H x)) (he : e = x ∨ H e = some (.own x)) (k : ∀ b u, b ≠ e → h.get? b = some u → h'.get? b = some u) (heo : ∃ u, h'.get? e = some u) : Un fs ex H (upd H x o) h h' := by
  have hx : ∀ b, H b = none → b ≠ x := fun b n z => by subst z; rw [n] at mu; exact mu
  have hb : ∀ b, H b = none → b ≠ e := fun b n z => by
    subst z
    rcases he with r | r
    · exact hx b n r
    · rw [n] at r; cases r
  have hm : ∀ b u, H b = some u → ¬ Mut (some u) → b ≠ x := fun b u q nm z => by subst z; rw [q] at mu; exact nm mu
  refine ⟨fun b u q n _ _ => k b u (hb b n) q, fun b u q n _ _ => ⟨u.slots, k b u (hb b n) q⟩, fun b u q n _ => by rw [upd_ne (hx b n)]; exact n, fun b u q _ => ?_,
    fun b xs q => by rw [upd_ne (hm b _ q fun z => z)]; exact q, fun b u xs q => by rw [upd_ne (hm b _ q fun z => z)]; exact q, fun b ps q => ⟨#[], by rw [upd_ne (hm b _ q fun z => z), q]; simp⟩⟩
  by_cases hbe : b = e
  · subst hbe; exact heo
  · exact ⟨u, k b u hbe q⟩
end

/-! ### the heap without what is tracked -/
def trk (h : Heap) (H : Hp) : List Addr := (List.range h.objs.size).filter fun a => (H a).isSome
def hidT (h : Heap) (H : Hp) : Heap := PySem.W.hideAll h (trk h H)
theorem hidT_size (h : Heap) (H : Hp) : (hidT h H).objs.size = h.objs.size := PySem.W.hideAll_size _ _
theorem hidT_get {h : Heap} {H : Hp} {b : Addr} {o : Obj} (e : h.get? b = some o) (n : H b = none) : (hidT h H).get? b = some o :=
  PySem.W.hideAll_get _ e fun hm => by
    have q : (H b).isSome = true := (List.mem_filter.mp hm).2
    rw [n] at q; simp at q
theorem of_hidT {h : Heap} {H : Hp} {b : Addr} {o : Obj} (e : (hidT h H).get? b = some o) : h.get? b = some o ∧ H b = none := by
  have e' : h.get? b = some o := PySem.W.of_hideAll (trk h H) e
  refine ⟨e', ?_⟩
  cases q : H b with
  | none => rfl
  | some x =>
    have hm : b ∈ trk h H := List.mem_filter.mpr ⟨List.mem_range.mpr (Heap.lt_size e'), by simp [q]⟩
    have z : (hidT h H).get? b = none := PySem.W.hideAll_none (trk h H) hm
    rw [z] at e; cases e

/-! ### OpenK's ledger, filled with every new object but one -/
def allNews (g h : Heap) (L : Addr) : List (Addr × Obj) := (List.range h.objs.size).filterMap fun a => if a = L ∨ (g.get? a).isSome = true then none else (h.get? a).map fun o => (a, o)
theorem mem_allNews {g h : Heap} {L a : Addr} {o : Obj} (h1 : a ≠ L) (h2 : g.get? a = none) (h3 : h.get? a = some o) : (a, o) ∈ allNews g h L :=
  List.mem_filterMap.mpr ⟨a, List.mem_range.mpr (Heap.lt_size h3), by simp [h1, h2, h3]⟩
theorem of_mem_allNews {g h : Heap} {L : Addr} {p : Addr × Obj} (hp : p ∈ allNews g h L) : p.1 ≠ L ∧ g.get? p.1 = none ∧ h.get? p.1 = some p.2 := by
  obtain ⟨b, _, e⟩ := List.mem_filterMap.mp hp
  split at e
  · cases e
  · rename_i hn
    cases q : h.get? b with
    | none => rw [q] at e; simp at e
    | some u =>
      rw [q] at e
      simp only [Option.map_some, Option.some.injEq] at e
      subst e
      refine ⟨fun z => hn (.inl z), ?_, q⟩
      show g.get? b = none
      cases r : g.get? b with
      | none => rfl
      | some v => exact (hn (.inr (by simp [r]))).elim
theorem news_all {g h : Heap} {L : Addr} : News g L h (allNews g h L) := fun p hp => let ⟨a, b, c⟩ := of_mem_allNews hp; ⟨c, a, b⟩
end L2

namespace L2
open PySem PySem.Spec PyProof.Rows

/-- the module's facts, over the base: the heap at the law's entry without what is tracked there -/
structure Mod (K : PySem.W.Frag) (mg : Str → Option Value) (base : Heap) : Prop where
  kin : K.In base
  glob : base.Ns mainGlobals mg
  blt : ∃ mb, base.Ns builtinsNs mb ∧ ∀ x : Str, x ≠ "__name__" → mb x = bootBuiltins x
  nolimit : base.NoLimit

/-- the context: a def's body (or a comprehension's block) running. base: fixed through the whole law; s₀, H₀: the entry; outer: the frames whose slots others may change (a def's callers); stack: all frames that run;
   ex: iterators that were made ahead of the entry and are walked here (a comprehension's); fn: the names whose cells were made at the entry (a def: all; a comprehension's block: its own); calm: not within an except suite; pn: pins that every state bears; xe: what is wanted of an exception that leaves the code -/
structure Cx where
  prog : Program
  w : World
  K : PySem.W.Frag
  mg : Str → Option Value
  base : Heap
  A : Around
  N : List Str
  s₀ : Shared
  H₀ : Hp
  env : Env
  outer : List Env
  stack : List Env
  ex : List Addr
  fn : Str → Bool
  calm : Bool
  pn : List (Addr × Obj)
  xe : Value → Shared → Prop
/-- the callers' frames -/
def frs (l : List Env) : List Addr := l.filterMap (·.frame)
abbrev Cx.fs (X : Cx) : List Addr := frs X.outer

def Vis (sc : Scope) (x : Str) : Prop := sc.names.lookup x = some .local ∨ sc.names.lookup x = some .cell ∨ sc.names.lookup x = some .free
def Loc (sc : Scope) (x : Str) : Prop := sc.names.lookup x = some .local ∨ sc.names.lookup x = some .cell
def Look (env : Env) (h : Heap) (m : Str → Option Value) (x : Str) (u : Value) : Prop :=
  (env.kindOf x = some .local ∧ m x = some u) ∨ ((env.kindOf x = some .cell ∨ env.kindOf x = some .free) ∧ ∃ c, env.cells.lookup x = some c ∧ h.IsCell c (some u))

structure Cx.Ok (X : Cx) : Prop where
  mod : Mod X.K X.mg X.base
  kind : X.env.scope.kind = .function
  glob : X.env.globals = mainGlobals
  blt : X.env.builtins = builtinsNs
  above : X.s₀.heap.objs.size ≤ X.env.locals
  inj : ∀ x y c, X.env.cells.lookup x = some c → X.env.cells.lookup y = some c → x = y
  has : ∀ x, (X.env.kindOf x = some .cell ∨ X.env.kindOf x = some .free) → ∃ c, X.env.cells.lookup x = some c
  cab : ∀ x c, X.fn x = true → X.env.cells.lookup x = some c → X.s₀.heap.objs.size ≤ c
  hd : X.calm = true → X.A.handled = none
  frames : X.A.frames = some X.stack
  stk : X.stack = X.outer ∨ (X.stack = X.env :: X.outer ∧ X.env.frame = some X.env.locals)
  exf : ∀ b ∈ X.ex, b ≠ X.env.locals ∧ ∀ x c, X.env.cells.lookup x = some c → c ≠ b
  bs : ∀ b o, X.base.get? b = some o → X.s₀.heap.get? b = some o ∧ X.H₀ b = none
  bsz : X.base.objs.size ≤ X.s₀.heap.objs.size
  noex : ∀ b o, X.base.get? b = some o → b ∉ X.ex
  exfs : ∀ b ∈ X.ex, b ∉ X.fs
  funs : X.s₀.heap.FunFrames X.base X.outer
  frf : ∀ b ∈ X.fs, X.H₀ b = none

structure Inv (X : Cx) (pins : List (Addr × Obj)) (σ : List (Option V)) (H : Hp) (s : Shared) : Prop where
  ok : X.Ok
  os : s.os = X.s₀.os
  bare : AllBare s.gens
  base : Un X.fs X.ex X.H₀ H X.s₀.heap s.heap
  loc : ∃ m, s.heap.Ns X.env.locals m ∧ ∀ (i : Nat) (x : Str) (v : V), X.N[i]? = some x → σ[i]? = some (some v) → Vis X.env.scope x → ∃ u, RelV v u ∧ Look X.env s.heap m x u
  cell : ∀ x c, X.env.cells.lookup x = some c → ∃ v, s.heap.IsCell c v
  free : H X.env.locals = none
  freeC : ∀ x c, X.env.cells.lookup x = some c → H c = none
  pin : ∀ p ∈ X.pn ++ pins, s.heap.get? p.1 = some p.2 ∧ H p.1 = none ∧ p.1 ≠ X.env.locals ∧ p.1 ∉ X.fs ∧ ∀ v, p.2.data ≠ .cell v
  hok : HOk X.prog X.w H s.heap
  len : σ.length = X.N.length

section
variable {X : Cx} {pins : List (Addr × Obj)} {σ : List (Option V)} {H H' : Hp} {s : Shared} {h' : Heap}

theorem Cx.Ok.nofr (ok : X.Ok) {b : Addr} {o : Obj} (e : X.base.get? b = some o) : b ∉ X.fs := fun hb => by
  have := (ok.funs.mem hb).1
  rw [e] at this; cases this
theorem Inv.bs (I : Inv X pins σ H s) : ∀ b o, X.base.get? b = some o → s.heap.get? b = some o ∧ H b = none := fun b o e =>
  ⟨I.base.keep b o (I.ok.bs b o e).1 (I.ok.bs b o e).2 (I.ok.nofr e) (I.ok.noex b o e), I.base.free b o (I.ok.bs b o e).1 (I.ok.bs b o e).2 (I.ok.noex b o e)⟩
theorem Inv.bk (I : Inv X pins σ H s) : ∀ b o, X.base.get? b = some o → s.heap.get? b = some o := fun b o e => (I.bs b o e).1
theorem Inv.mod (I : Inv X pins σ H s) : Mod X.K X.mg X.base := I.ok.mod
theorem Inv.kIn (I : Inv X pins σ H s) : X.K.In s.heap := I.ok.mod.kin.keeps I.bk
/-- the frame over the base: for OpenK's rules (K.In X.base is I.mod.kin) -/
theorem Inv.fr (I : Inv X pins σ H s) : ∃ m, Fr X.base X.env.locals s.heap m :=
  let ⟨m, hn, _⟩ := I.loc
  ⟨m, hn, I.bk, Nat.le_trans I.ok.bsz I.ok.above⟩
theorem Inv.lt (I : Inv X pins σ H s) : X.env.locals < s.heap.objs.size := let ⟨_, hn, _⟩ := I.loc; hn.lt
theorem Inv.sz (I : Inv X pins σ H s) : X.s₀.heap.objs.size ≤ s.heap.objs.size := Nat.le_trans I.ok.above (Nat.le_of_lt I.lt)
theorem Inv.nofs (I : Inv X pins σ H s) {a : Addr} (h : s.heap.objs.size ≤ a) : a ∉ X.fs := fun hb => by
  obtain ⟨_, o, ho, _⟩ := I.ok.funs.mem hb
  exact absurd (Nat.lt_of_lt_of_le (Heap.lt_size ho) (Nat.le_trans I.sz h)) (Nat.lt_irrefl _)
theorem Inv.cne (I : Inv X pins σ H s) : ∀ x c, X.env.cells.lookup x = some c → c ≠ X.env.locals := fun x c e z => by
  obtain ⟨v, o, ho, hd⟩ := I.cell x c e
  obtain ⟨m, ⟨o', es, ep, ho', hd', _⟩, _⟩ := I.loc
  rw [z, ho'] at ho; cases ho; rw [hd'] at hd; cases hd
theorem Inv.funs (I : Inv X pins σ H s) : s.heap.FunFrames X.base X.outer := by
  have all : ∀ (l : List Env), (∀ b ∈ frs l, b ∈ X.fs) → X.s₀.heap.FunFrames X.base l → s.heap.FunFrames X.base l := by
    intro l
    induction l with
    | nil => intro _ _; trivial
    | cons env r ih =>
      intro hs hl
      obtain ⟨hk, ⟨L, o, hf, hn, ho, hd⟩, hr⟩ := hl
      have hL : L ∈ X.fs := hs L (by unfold frs; rw [List.filterMap_cons, hf]; exact List.mem_cons_self)
      obtain ⟨sl, e⟩ := I.base.slot L o ho (I.ok.frf L hL) hL fun z => I.ok.exfs L z hL
      exact ⟨hk, ⟨L, _, hf, hn, e, hd⟩, ih (fun b hb => hs b (by unfold frs; rw [List.filterMap_cons, hf]; exact List.mem_cons_of_mem _ hb)) hr⟩
  exact all X.outer (fun _ hb => hb) I.ok.funs

/-- the frames that run, for a call -/
theorem Inv.stack (I : Inv X pins σ H s) : s.heap.FunFrames X.base X.stack := by
  rcases I.ok.stk with e | ⟨e, hf⟩
  · rw [e]; exact I.funs
  · rw [e]
    obtain ⟨m, hn, _⟩ := I.loc
    refine .cons (by rw [I.ok.kind]; decide) hf hn ?_ I.funs
    exact Heap.get?_none_of_le (Nat.le_trans I.ok.bsz I.ok.above)
theorem Inv.stkSub (I : Inv X pins σ H s) : ∀ b ∈ frs X.stack, b ∈ X.env.locals :: X.fs := fun b hb => by
  rcases I.ok.stk with e | ⟨e, hf⟩
  · rw [e] at hb; exact List.mem_cons_of_mem _ hb
  · rw [e] at hb
    unfold frs at hb
    rw [List.filterMap_cons, hf] at hb
    exact hb
theorem Inv.stkFree (I : Inv X pins σ H s) : ∀ b ∈ frs X.stack, H b = none := fun b hb => by
  rcases List.mem_cons.mp (I.stkSub b hb) with e | hb
  · rw [e]; exact I.free
  · obtain ⟨_, o, ho, _⟩ := I.ok.funs.mem hb
    exact I.base.free b o ho (I.ok.frf b hb) fun z => I.ok.exfs b z hb

/-- THE STEP: the untracked objects but the frame and the records at ch are kept (the callers' frames up to slots), the frame's map is kept, the new abstract heap is held -/
theorem Inv.step {g' : Array GenState} {t' : Nat} {d' : Drawn} {ch : List Addr} (I : Inv X pins σ H s)
    (hch : ∀ b ∈ ch, (b ∈ X.ex ∨ X.s₀.heap.objs.size ≤ b) ∧ b ≠ X.env.locals ∧ (∀ x c, X.env.cells.lookup x = some c → c ≠ b) ∧ ∀ p ∈ X.pn ++ pins, p.1 ≠ b)
    (keep : ∀ b o, b ≠ X.env.locals → b ∉ X.fs → b ∉ ch → s.heap.get? b = some o → H b = none → h'.get? b = some o)
    (slot : ∀ b o, b ≠ X.env.locals → b ∈ X.fs → b ∉ ch → s.heap.get? b = some o → H b = none → ∃ sl, h'.get? b = some { o with slots := sl }) (free : ∀ b o, b ∉ ch → s.heap.get? b = some o → H b = none → H' b = none)
    (there : ∀ b o, b ∉ ch → s.heap.get? b = some o → ∃ o', h'.get? b = some o')
    (tups : ∀ b xs, H b = some (.tup xs) → H' b = some (.tup xs)) (frzs : ∀ b o u, H b = some (.frz o u) → H' b = some (.frz o u)) (tbls : ∀ b ps, H b = some (.tbl ps) → ∃ more, H' b = some (.tbl (ps ++ more)))
    (ns : ∀ m, s.heap.Ns X.env.locals m → h'.Ns X.env.locals m) (hok : HOk X.prog X.w H' h') (hg : AllBare g') :
    Inv X pins σ H' { s with heap := h', gens := g', drawn := d', toks := t' } := by
  have neL : ∀ b o, X.s₀.heap.get? b = some o → b ≠ X.env.locals := fun b o e => Nat.ne_of_lt (Nat.lt_of_lt_of_le (Heap.lt_size e) I.ok.above)
  have neC : ∀ b o, X.s₀.heap.get? b = some o → b ∉ X.ex → b ∉ ch := fun b o e hx hb => by
    rcases (hch b hb).1 with z | z
    · exact hx z
    · exact absurd (Nat.lt_of_lt_of_le (Heap.lt_size e) z) (Nat.lt_irrefl _)
  have cellK : ∀ x c, X.env.cells.lookup x = some c → ∀ v, s.heap.IsCell c v → h'.IsCell c v := fun x c e v ⟨o, ho, hd⟩ => by
    have nch : c ∉ ch := fun z => (hch c z).2.2.1 x c e rfl
    by_cases hc : c ∈ X.fs
    · obtain ⟨sl, q⟩ := slot c o (I.cne x c e) hc nch ho (I.freeC x c e)
      exact ⟨_, q, hd⟩
    · exact ⟨o, keep c o (I.cne x c e) hc nch ho (I.freeC x c e), hd⟩
  refine ⟨I.ok, I.os, hg, ⟨fun b o e n hb hx => ?_, fun b o e n hb hx => ?_, fun b o e n hx => ?_, fun b o e hx => ?_, fun b xs e => tups b xs (I.base.tups b xs e), fun b o xs e => frzs b o xs (I.base.frzs b o xs e), fun b ps e => ?_⟩, ?_, fun x c e => ?_, ?_, fun x c e => ?_, fun p hp => ?_, hok, I.len⟩
  · exact keep b o (neL b o e) hb (neC b o e hx) (I.base.keep b o e n hb hx) (I.base.free b o e n hx)
  · obtain ⟨sl, e1⟩ := I.base.slot b o e n hb hx
    obtain ⟨sl', e2⟩ := slot b _ (neL b o e) hb (neC b o e hx) e1 (I.base.free b o e n hx)
    exact ⟨sl', e2⟩
  · obtain ⟨o', e1⟩ := I.base.there b o e hx
    exact free b o' (neC b o e hx) e1 (I.base.free b o e n hx)
  · obtain ⟨o', e1⟩ := I.base.there b o e hx
    exact there b o' (neC b o e hx) e1
  · obtain ⟨m1, e1⟩ := I.base.tbls b ps e
    obtain ⟨m2, e2⟩ := tbls b _ e1
    exact ⟨m1 ++ m2, by rw [e2, Array.append_assoc]⟩
  · obtain ⟨m, hn, hl⟩ := I.loc
    refine ⟨m, ns m hn, fun i x v e1 e2 e3 => ?_⟩
    obtain ⟨u, r, l⟩ := hl i x v e1 e2 e3
    refine ⟨u, r, ?_⟩
    rcases l with l | ⟨k, c, e, z⟩
    · exact .inl l
    · exact .inr ⟨k, c, e, cellK x c e _ z⟩
  · obtain ⟨v, z⟩ := I.cell x c e
    exact ⟨v, cellK x c e v z⟩
  · obtain ⟨m, ⟨o, _, _, ho, _⟩, _⟩ := I.loc
    exact free _ o (fun z => (hch _ z).2.1 rfl) ho I.free
  · obtain ⟨v, o, ho, hd⟩ := I.cell x c e
    exact free c o (fun z => (hch c z).2.2.1 x c e rfl) ho (I.freeC x c e)
  · obtain ⟨e, n, ne, nf, d⟩ := I.pin p hp
    have nch : p.1 ∉ ch := fun z => (hch p.1 z).2.2.2 p hp rfl
    exact ⟨keep p.1 p.2 ne nf nch e n, free p.1 p.2 nch e n, ne, nf, d⟩
/-- .. where the frame's own object is kept too -/
theorem Inv.un {t' : Nat} (I : Inv X pins σ H s) (u : Un X.fs [] H H' s.heap h') (hok : HOk X.prog X.w H' h') : Inv X pins σ H' { s with heap := h', toks := t' } := by
  obtain ⟨m, ⟨o, es, ep, ho, r⟩, _⟩ := id I.loc
  obtain ⟨sl, hL⟩ := u.any ho I.free (by simp)
  exact I.step (g' := s.gens) (d' := s.drawn) (ch := []) (fun _ z => nomatch z) (fun b o _ hb _ e n => u.keep b o e n hb (by simp)) (fun b o _ hb _ e n => u.slot b o e n hb (by simp)) (fun b o _ e n => u.free b o e n (by simp)) (fun b o _ e => u.there b o e (by simp)) u.tups u.frzs u.tbls (fun m' hm => by
    obtain ⟨o', es', ep', ho', r'⟩ := hm
    rw [ho] at ho'; cases ho'
    exact ⟨_, es', ep', hL, r'⟩) hok I.bare
/-- behind a call (or a comprehension's block): the slots of this frame may have changed too, the records at ch may have turned -/
theorem Inv.call {g' : Array GenState} {t' : Nat} {d' : Drawn} {ch : List Addr} (I : Inv X pins σ H s) (u : Un (frs X.stack) ch H H' s.heap h') (hok : HOk X.prog X.w H' h') (hg : AllBare g')
    (hch : ∀ b ∈ ch, (b ∈ X.ex ∨ X.s₀.heap.objs.size ≤ b) ∧ b ≠ X.env.locals ∧ (∀ x c, X.env.cells.lookup x = some c → c ≠ b) ∧ ∀ p ∈ X.pn ++ pins, p.1 ≠ b) :
    Inv X pins σ H' { s with heap := h', gens := g', drawn := d', toks := t' } := by
  obtain ⟨m, ⟨o, es, ep, ho, r⟩, _⟩ := id I.loc
  obtain ⟨sl, hL⟩ := u.any ho I.free fun z => (hch _ z).2.1 rfl
  exact I.step (ch := ch) hch (fun b o hL hb hc e n => u.keep b o e n (fun z => (List.mem_cons.mp (I.stkSub b z)).elim hL hb) hc) (fun b o _ _ hc e n => u.any e n hc) (fun b o hc e n => u.free b o e n hc) (fun b o hc e => u.there b o e hc) u.tups u.frzs u.tbls (fun m' hm => by
    obtain ⟨o', es', ep', ho', r'⟩ := hm
    rw [ho] at ho'; cases ho'
    exact ⟨_, es', ep', hL, r'⟩) hok hg
/-- an untracked record of ours (an iterator) has turned -/
theorem Inv.turned {t' : Nat} {it : Addr} (I : Inv X pins σ H s) (k : ∀ b o, b ≠ it → s.heap.get? b = some o → h'.get? b = some o) (hn : H it = none) (hL : it ≠ X.env.locals)
    (h1 : it ∈ X.ex ∨ X.s₀.heap.objs.size ≤ it) (h2 : ∀ x c, X.env.cells.lookup x = some c → c ≠ it) (h3 : ∀ p ∈ X.pn ++ pins, p.1 ≠ it) : Inv X pins σ H { s with heap := h', toks := t' } := by
  have nit : ∀ b u, H b = some u → b ≠ it := fun b u e z => by rw [z, hn] at e; cases e
  refine I.step (g' := s.gens) (d' := s.drawn) (ch := [it]) (fun b hb => ?_) (fun b o _ _ hc e _ => k b o (fun z => hc (by simp [z])) e) (fun b o _ _ hc e _ => ⟨o.slots, k b o (fun z => hc (by simp [z])) e⟩) (fun _ _ _ _ n => n)
    (fun b o hc e => ⟨o, k b o (fun z => hc (by simp [z])) e⟩) (fun _ _ e => e) (fun _ _ _ e => e) (fun b ps e => ⟨#[], by rw [e]; simp⟩) (fun m hm => ?_) (fun b u e => ?_) I.bare
  · have e : b = it := by simpa using hb
    subst e
    exact ⟨h1, hL, h2, h3⟩
  · obtain ⟨o, es, ep, ho, r⟩ := hm
    exact ⟨o, es, ep, k _ o (Ne.symm hL) ho, r⟩
  · refine (I.hok b u e).stay (fun c v hc q => k c v ?_ q) (fun _ q => q) fun _ _ q => q
    rcases hc with z | z
    · rw [z]; exact nit b u e
    · exact nit c _ z
theorem Inv.tok (I : Inv X pins σ H s) (t : Nat) : Inv X pins σ H { s with toks := t } := I.un (h' := s.heap) (t' := t) Un.refl I.hok
/-- all objects kept -/
theorem Inv.kept {t' : Nat} (I : Inv X pins σ H s) (k : ∀ b u, s.heap.get? b = some u → h'.get? b = some u) : Inv X pins σ H { s with heap := h', toks := t' } := I.un (Un.kept k) (I.hok.kept k)
/-- a new object laid and tracked -/
theorem Inv.laid {a : Addr} {o : HO} {t' : Nat} (I : Inv X pins σ H s) (k : ∀ b u, s.heap.get? b = some u → h'.get? b = some u) (hp : s.heap.objs.size ≤ a) (new : ObjOk X.prog X.w (upd H a o) h' a o) :
    Inv X pins σ (upd H a o) { s with heap := h', toks := t' } := I.un (Un.laid k hp (I.hok.fresh hp)) (I.hok.laid k hp new)
/-- an object written -/
theorem Inv.write {x e : Addr} {o : HO} {t' : Nat} (I : Inv X pins σ H s) (mu : Mut (H x)) (he : e = x ∨ H e = some (.own x)) (k : ∀ b u, b ≠ e → s.heap.get? b = some u → h'.get? b = some u) (heo : ∃ u, h'.get? e = some u)
    (new : ObjOk X.prog X.w (upd H x o) h' x o) : Inv X pins σ (upd H x o) { s with heap := h', toks := t' } := I.un (Un.write mu he k heo) (I.hok.write mu he k heo new)
/-- forgetting slots, pins -/
theorem Inv.weak {σ' : List (Option V)} (I : Inv X pins σ H s) (hl : σ'.length = σ.length) (w : ∀ (i : Nat) v, σ'[i]? = some (some v) → σ[i]? = some (some v)) : Inv X pins σ' H s :=
  ⟨I.ok, I.os, I.bare, I.base, let ⟨m, hn, hl'⟩ := I.loc; ⟨m, hn, fun i x v e1 e2 e3 => hl' i x v e1 (w i v e2) e3⟩, I.cell, I.free, I.freeC, I.pin, I.hok, hl.trans I.len⟩
theorem Inv.pins_of {pins' : List (Addr × Obj)} (I : Inv X pins σ H s) (h : ∀ p ∈ pins', s.heap.get? p.1 = some p.2 ∧ H p.1 = none ∧ p.1 ≠ X.env.locals ∧ p.1 ∉ X.fs ∧ ∀ v, p.2.data ≠ .cell v) : Inv X pins' σ H s :=
  ⟨I.ok, I.os, I.bare, I.base, I.loc, I.cell, I.free, I.freeC, fun p hp => (List.mem_append.mp hp).elim (fun z => I.pin p (List.mem_append_left _ z)) (h p), I.hok, I.len⟩

theorem nodup_ix {N : List Str} (hN : N.Nodup) {i j : Nat} {x : Str} (a : N[i]? = some x) (b : N[j]? = some x) : i = j := by
  obtain ⟨h1, e1⟩ := List.getElem?_eq_some_iff.mp a
  obtain ⟨h2, e2⟩ := List.getElem?_eq_some_iff.mp b
  exact (List.getElem_inj hN).mp (e1.trans e2.symm)

/-- a name is stored; what changed -/
theorem store_ok2 {M : Model} {A : Around} {E : Value → Shared → Prop} {i : Nat} {x : Str} {v : V} {u : Value} {Q : Unit → Shared → Prop} (I : Inv X pins σ H s) (hN : X.N.Nodup) (hi : X.N[i]? = some x) (hx : Loc X.env.scope x) (r : RelV v u)
    (h : ∀ s', Inv X pins (σ.set i (some v)) H s' → (∃ a, Heap.SameBut a s.heap s'.heap ∧ (a = X.env.locals ∨ X.env.cells.lookup x = some a)) → Q () s') (hf : X.fn x = true ∨ X.env.scope.names.lookup x = some .local := by first | exact .inl rfl | exact .inr rfl | assumption) : wpAny M A (storeName X.env x u) Q E s := by
  obtain ⟨m, hn, hl⟩ := id I.loc
  have hcls : (X.env.scope.kind == .class || (X.env.scope.kind == .module && X.env.locals != X.env.globals)) = false := by rw [I.ok.kind]; rfl
  have hiσ : i < σ.length := by rw [I.len]; exact (List.getElem?_eq_some_iff.mp hi).1
  have cne := I.cne
  have tracked : ∀ {a : Addr} {h' : Heap}, (∃ o, s.heap.get? a = some o ∧ H a = none) → Heap.SameBut a s.heap h' → HOk X.prog X.w H h' := fun {a h'} ha hs b ob e => by
    obtain ⟨_, _, hfree⟩ := ha
    refine (I.hok b ob e).stay (fun c w' hc q => (hs.2 c ?_).trans q) (fun _ q => q) fun _ _ q => q
    rintro rfl
    rcases hc with rfl | hc
    · rw [hfree] at e; cases e
    · rw [hfree] at hc; cases hc
  rcases hx with hk | hk
  · refine wpAny_storeName_local hk hn (fun h' hn' hs => ?_) hcls
    obtain ⟨oL, _, _, hoL, _⟩ := id hn
    refine h _ ⟨I.ok, I.os, I.bare, ⟨fun b o e n hb hx => ?_, fun b o e n hb hx => ?_, I.base.free, fun b o e hx => ?_, I.base.tups, I.base.frzs, I.base.tbls⟩, ⟨_, hn', fun j y v' e1 e2 e3 => ?_⟩, fun y c e => ?_, I.free, I.freeC, fun p hp => ?_, tracked ⟨oL, hoL, I.free⟩ hs, by simpa using I.len⟩ ⟨_, hs, .inl rfl⟩
    · exact (hs.2 b (Nat.ne_of_lt (Nat.lt_of_lt_of_le (Heap.lt_size e) I.ok.above))).trans (I.base.keep b o e n hb hx)
    · obtain ⟨sl, e1⟩ := I.base.slot b o e n hb hx
      exact ⟨sl, (hs.2 b (Nat.ne_of_lt (Nat.lt_of_lt_of_le (Heap.lt_size e) I.ok.above))).trans e1⟩
    · obtain ⟨o', e1⟩ := I.base.there b o e hx
      exact ⟨o', (hs.2 b (Nat.ne_of_lt (Nat.lt_of_lt_of_le (Heap.lt_size e) I.ok.above))).trans e1⟩
    · by_cases hj : j = i
      · subst hj
        rw [hi] at e1; cases e1
        rw [List.getElem?_set_self hiσ] at e2
        cases e2
        exact ⟨u, r, .inl ⟨hk, by simp⟩⟩
      · rw [List.getElem?_set_ne (Ne.symm hj)] at e2
        obtain ⟨u', r', q⟩ := hl j y v' e1 e2 e3
        refine ⟨u', r', ?_⟩
        rcases q with ⟨k, e⟩ | ⟨k, c, e, z⟩
        · refine .inl ⟨k, ?_⟩
          have : y ≠ x := fun e => hj (nodup_ix hN e1 (e ▸ hi))
          simp [this, e]
        · exact .inr ⟨k, c, e, z.sameBut hs (cne y c e)⟩
    · obtain ⟨w', z⟩ := I.cell y c e
      exact ⟨w', z.sameBut hs (cne y c e)⟩
    · obtain ⟨e, n, ne, nf, d⟩ := I.pin p hp
      exact ⟨(hs.2 p.1 ne).trans e, n, ne, nf, d⟩
  · have hfn : X.fn x = true := by
      rcases hf with z | z
      · exact z
      · rw [z] at hk; cases hk
    obtain ⟨c, hc⟩ := I.ok.has x (.inl hk)
    obtain ⟨w', z⟩ := I.cell x c hc
    refine wpAny_storeName_cell I.ok.kind hk hc z (fun h' hc' hs => ?_)
    obtain ⟨oc, hoc, hocd⟩ := id z
    refine h { s with heap := h' } ⟨I.ok, I.os, I.bare, ⟨fun b o e n hb hx => ?_, fun b o e n hb hx => ?_, I.base.free, fun b o e hx => ?_, I.base.tups, I.base.frzs, I.base.tbls⟩, ⟨m, hn.sameBut hs (Ne.symm (cne x c hc)), fun j y v' e1 e2 e3 => ?_⟩, fun y c' e => ?_, I.free, I.freeC, fun p hp => ?_, tracked ⟨oc, hoc, I.freeC x c hc⟩ hs, by simpa using I.len⟩ ⟨c, hs, .inr hc⟩
    · exact (hs.2 b (Nat.ne_of_lt (Nat.lt_of_lt_of_le (Heap.lt_size e) (I.ok.cab x c hfn hc)))).trans (I.base.keep b o e n hb hx)
    · obtain ⟨sl, e1⟩ := I.base.slot b o e n hb hx
      exact ⟨sl, (hs.2 b (Nat.ne_of_lt (Nat.lt_of_lt_of_le (Heap.lt_size e) (I.ok.cab x c hfn hc)))).trans e1⟩
    · obtain ⟨o', e1⟩ := I.base.there b o e hx
      exact ⟨o', (hs.2 b (Nat.ne_of_lt (Nat.lt_of_lt_of_le (Heap.lt_size e) (I.ok.cab x c hfn hc)))).trans e1⟩
    · by_cases hj : j = i
      · subst hj
        rw [hi] at e1; cases e1
        rw [List.getElem?_set_self hiσ] at e2
        cases e2
        exact ⟨u, r, .inr ⟨.inl hk, c, hc, hc'⟩⟩
      · rw [List.getElem?_set_ne (Ne.symm hj)] at e2
        obtain ⟨u', r', q⟩ := hl j y v' e1 e2 e3
        refine ⟨u', r', ?_⟩
        rcases q with q | ⟨k, c', e, z'⟩
        · exact .inl q
        · refine .inr ⟨k, c', e, z'.sameBut hs ?_⟩
          rintro rfl
          exact hj (nodup_ix hN e1 (I.ok.inj _ _ _ e hc ▸ hi))
    · by_cases hcc : c' = c
      · subst hcc; exact ⟨_, hc'⟩
      · obtain ⟨w2, z2⟩ := I.cell y c' e
        exact ⟨w2, z2.sameBut hs hcc⟩
    · obtain ⟨e, n, ne, nf, d⟩ := I.pin p hp
      refine ⟨(hs.2 p.1 ?_).trans e, n, ne, nf, d⟩
      intro q
      rw [q, hoc] at e
      have q' : oc = p.2 := Option.some.inj e
      exact d w' (by rw [← q']; exact hocd)
theorem store_ok {M : Model} {A : Around} {E : Value → Shared → Prop} {i : Nat} {x : Str} {v : V} {u : Value} {Q : Unit → Shared → Prop} (I : Inv X pins σ H s) (hN : X.N.Nodup) (hi : X.N[i]? = some x) (hx : Loc X.env.scope x) (r : RelV v u)
    (h : ∀ s', Inv X pins (σ.set i (some v)) H s' → Q () s') (hf : X.fn x = true ∨ X.env.scope.names.lookup x = some .local := by first | exact .inl rfl | exact .inr rfl | assumption) : wpAny M A (storeName X.env x u) Q E s :=
  store_ok2 I hN hi hx r (fun s' I' _ => h s' I') hf
/-- behind a call or a block, the state as it is -/
theorem Inv.call' {s' : Shared} {ch : List Addr} (I : Inv X pins σ H s) (ho : s'.os = s.os) (u : Un (frs X.stack) ch H H' s.heap s'.heap) (hok : HOk X.prog X.w H' s'.heap) (hg : AllBare s'.gens)
    (hch : ∀ b ∈ ch, (b ∈ X.ex ∨ X.s₀.heap.objs.size ≤ b) ∧ b ≠ X.env.locals ∧ (∀ x c, X.env.cells.lookup x = some c → c ≠ b) ∧ ∀ p ∈ X.pn ++ pins, p.1 ≠ b) : Inv X pins σ H' s' := by
  obtain ⟨h', g', d', t', o'⟩ := s'
  have e : o' = s.os := ho
  subst e
  exact I.call (g' := g') (t' := t') (d' := d') u hok hg hch
end

/-! ### the judgements -/
/-- an exception: its class, its own dict's address (where it has one), the abstract heap behind it -/
abbrev XK := Value → Option Addr → Hp → Prop
abbrev St := List (Option V)
abbrev VK := V → Hp → Prop
/-- an expression's reading; a test's; an argument list's -/
abbrev TE := St → Hp → VK → Prop
abbrev TT := St → Hp → (Bool → Hp → Prop) → Prop
abbrev TA := St → Hp → (List V → Hp → Prop) → Prop
/-- what is wanted behind a statement -/
structure Ends where
  nx : St → Hp → Prop
  rt : VK
  bk : St → Hp → Prop := fun _ _ => False
  ct : St → Hp → Prop := fun _ _ => False
abbrev TS := Ends → St → Hp → Prop

def EP (X : Cx) (pins : List (Addr × Obj)) (σ : St) (Q : VK) (u : Value) (s' : Shared) : Prop := ∃ v H', Inv X pins σ H' s' ∧ RelV v u ∧ Q v H'
def TP (X : Cx) (pins : List (Addr × Obj)) (σ : St) (Q : Bool → Hp → Prop) (b : Bool) (s' : Shared) : Prop := ∃ H', Inv X pins σ H' s' ∧ Q b H'
def AP (X : Cx) (pins : List (Addr × Obj)) (σ : St) (Q : List V → Hp → Prop) (us : List Value) (s' : Shared) : Prop := ∃ vs H', Inv X pins σ H' s' ∧ Vals vs us ∧ Q vs H'
def SP (X : Cx) (pins : List (Addr × Obj)) (D : Ends) (f : Flow) (s' : Shared) : Prop :=
  match f with
  | .next => ∃ σ' H', Inv X pins σ' H' s' ∧ D.nx σ' H'
  | .brk => ∃ σ' H', Inv X pins σ' H' s' ∧ D.bk σ' H'
  | .cont => ∃ σ' H', Inv X pins σ' H' s' ∧ D.ct σ' H'
  | .ret u => ∃ v σ' H', Inv X pins σ' H' s' ∧ RelV v u ∧ D.rt v H'

def PE (X : Cx) (e : Expr) (t : TE) : Prop :=
  ∀ (pins : List (Addr × Obj)) (s : Shared) (σ : St) (H : Hp) (Q : VK), Inv X pins σ H s → t σ H Q → wpAny (model X.prog X.w) X.A (eval e X.env) (EP X pins σ Q) X.xe s
def PT (X : Cx) (e : Expr) (t : TT) : Prop :=
  ∀ (pins : List (Addr × Obj)) (s : Shared) (σ : St) (H : Hp) (Q : Bool → Hp → Prop), Inv X pins σ H s → t σ H Q → wpAny (model X.prog X.w) X.A (isTrue e X.env (eval e X.env)) (TP X pins σ Q) X.xe s
/-- a test whatever its 'whole' is (and, or) -/
def PW (X : Cx) (e : Expr) (t : TT) : Prop :=
  ∀ (whole : Sem Value) (pins : List (Addr × Obj)) (s : Shared) (σ : St) (H : Hp) (Q : Bool → Hp → Prop), Inv X pins σ H s → t σ H Q → wpAny (model X.prog X.w) X.A (isTrue e X.env whole) (TP X pins σ Q) X.xe s
theorem PW.pt {X : Cx} {e : Expr} {t : TT} (h : PW X e t) : PT X e t := h _
/-- an argument list (no star), from the left -/
def PA (X : Cx) (es : List Expr) (t : TA) : Prop :=
  ∀ (pos : Pos) (pins : List (Addr × Obj)) (s : Shared) (σ : St) (H : Hp) (Q : List V → Hp → Prop), Inv X pins σ H s → t σ H Q → wpAny (model X.prog X.w) X.A (spliced (backTo pos (starEach es X.env))) (AP X pins σ Q) X.xe s
def PS (X : Cx) (st : Stmt) (t : TS) : Prop :=
  ∀ (pins : List (Addr × Obj)) (s : Shared) (σ : St) (H : Hp) (D : Ends), Inv X pins σ H s → t D σ H → wpAny (model X.prog X.w) X.A (exec st X.env) (SP X pins D) X.xe s
def PSs (X : Cx) (st : List Stmt) (t : TS) : Prop :=
  ∀ (pins : List (Addr × Obj)) (s : Shared) (σ : St) (H : Hp) (D : Ends), Inv X pins σ H s → t D σ H → wpAny (model X.prog X.w) X.A (execs st X.env) (SP X pins D) X.xe s
/-- weaken the end -/
theorem thn {α : Type} {t : Sem α} {Q Q' : α → Shared → Prop} {M : Model} {A : Around} {E : Value → Shared → Prop} {s : Shared} (h : wpAny M A t Q E s) (hQ : ∀ a s, Q a s → Q' a s) : wpAny M A t Q' E s := wpAny_mono h hQ fun _ _ x => x
end L2

namespace L2
open PySem PySem.Spec PyProof.Rows
section
variable {X : Cx}


/-! ### names and constants -/
def tVar (i : Nat) : TE := fun σ H Q => ∃ v, σ[i]? = some (some v) ∧ Q v H
def tC (v : V) : TE := fun _ H Q => Q v H
theorem pe_var {i : Nat} {x : Str} {pos : Pos} (hN : X.N[i]? = some x) (hv : Vis X.env.scope x) (hd : (x == ("__debug__" : Str)) = false := by decide) (hcd : (x == ("__classdict__" : Str)) = false := by decide) : PE X (.Name x pos) (tVar i) := by
  intro pins s σ H Q I h
  obtain ⟨v, e, h⟩ := h
  obtain ⟨m, hn, hl⟩ := I.loc
  obtain ⟨u, r, l⟩ := hl i x v hN e hv
  have fin : EP X pins σ Q u s := ⟨v, H, I, r, h⟩
  rcases l with ⟨hk, hm⟩ | ⟨hk, c, hc, hcell⟩
  · exact wpAny_Name (wpAny_loadName_local I.ok.kind hk hn hm fin) hd
  · rcases hk with hk | hk
    · exact wpAny_Name (wpAny_loadName_cell I.ok.kind hk hc hcell fin) hd
    · exact wpAny_Name (wpAny_loadName_free I.ok.kind hk hc hcell fin hcd) hd
theorem pe_int {i j pos} : PE X (.Constant (.int i) j pos) (tC (.int i)) := fun _ _ _ H _ I h => wpAny_Constant_int ⟨.int i, H, I.tok _, ⟨_, rfl⟩, h⟩
theorem pe_bl {b j pos} : PE X (.Constant (.bool b) j pos) (tC (.bl b)) := fun _ _ _ H _ I h => Constant_bool ⟨.bl b, H, I, rfl, h⟩
theorem pe_non {j pos} : PE X (.Constant .none j pos) (tC .non) := fun _ _ _ H _ I h => Constant_none ⟨.non, H, I, rfl, h⟩
theorem pe_str {x j pos} : PE X (.Constant (.str x) j pos) (tC (.str x)) := fun _ _ _ H _ I h => Calls.Constant_str ⟨.str x, H, I.tok _, ⟨_, rfl⟩, h⟩

/-- a global name of the def -/
def Gl (X : Cx) (x : Str) : Prop := X.env.kindOf x = some .globalImplicit
theorem ld_glob {E : Value → Shared → Prop} {pins : List (Addr × Obj)} {s : Shared} {σ : St} {H : Hp} {x : Str} {u : Value} {pos : Pos} {Q : Value → Shared → Prop} (I : Inv X pins σ H s) (hg : Gl X x) (hm : X.mg x = some u) (h : Q u s)
    (hd : (x == ("__debug__" : Str)) = false := by decide) : wpAny (model X.prog X.w) X.A (eval (.Name x pos) X.env) Q E s :=
  Calls.Name_function_global I.ok.kind hg (Calls.loadGlobal_global (by rw [I.ok.glob]; exact I.mod.glob.keeps I.bk) hm h) hd
theorem ld_blt {E : Value → Shared → Prop} {pins : List (Addr × Obj)} {s : Shared} {σ : St} {H : Hp} {x : Str} {u : Value} {pos : Pos} {Q : Value → Shared → Prop} (I : Inv X pins σ H s) (hg : Gl X x) (hm : X.mg x = none) (hv : bootBuiltins x = some u) (h : Q u s)
    (hn : x ≠ "__name__" := by decide) (hd : (x == ("__debug__" : Str)) = false := by decide) : wpAny (model X.prog X.w) X.A (eval (.Name x pos) X.env) Q E s := by
  obtain ⟨mb, h1, h2⟩ := I.mod.blt
  exact Calls.Name_function_global I.ok.kind hg (Calls.loadGlobal_builtin (by rw [I.ok.glob]; exact I.mod.glob.keeps I.bk) hm (by rw [I.ok.blt]; exact h1.keeps I.bk) ((h2 x hn).trans hv) h) hd
theorem pe_bltn {x : Str} {v : V} {u : Value} {pos : Pos} (hg : Gl X x) (hm : X.mg x = none) (hv : bootBuiltins x = some u) (r : RelV v u) (hn : x ≠ "__name__" := by decide) (hd : (x == ("__debug__" : Str)) = false := by decide) : PE X (.Name x pos) (tC v) :=
  fun _ _ _ H _ I h => ld_blt I hg hm hv ⟨v, H, I, r, h⟩ hn hd

/-! ### arithmetic -/
variable {a b : Expr} {ta tb : TE} {pos : Pos}

/-! ### comparisons -/
/-- a comparison as a value, as a test -/
def tB (t : TE) : TT := fun σ H Q => t σ H fun x H1 => ∃ c, x = .bl c ∧ Q c H1
/-- an expression whose value is a bool, as a test -/
theorem pt_val {e : Expr} {t : TE} (h : PE X e t) (he : ∀ whole, isTrue e X.env whole = (do let v ← whole; standAt e.pos; holding [v] (truthy v)) := by intro _; rfl) : PT X e (tB t) := by
  intro pins s σ H Q I hw
  refine isTrue_plain (thn (h pins s σ H _ I hw) fun v s1 ⟨x, H1, I1, r1, q1⟩ => ?_) (he _)
  obtain ⟨d, rfl, q⟩ := q1
  cases r1
  exact wpAny_truthy_bool ⟨H1, I1, q⟩

/-! ### and, or, not -/
variable {tA tB' : TT} {rest : List Expr}
def tAnd (t u : TT) : TT := fun σ H Q => t σ H fun c H1 => if c = true then u σ H1 Q else Q false H1
def tOr (t u : TT) : TT := fun σ H Q => t σ H fun c H1 => if c = true then Q true H1 else u σ H1 Q
def tNot (t : TT) : TT := fun σ H Q => t σ H fun c H1 => Q (!c) H1
theorem pw_and1 (ha : PT X a tA) : PW X (.BoolOp .And [a] pos) tA := by
  intro wh pins s σ H Q I h
  refine isTrue_and (thn (ha pins s σ H Q I h) fun c s1 e => ?_)
  cases c with
  | true => exact isTrue_and_nil e
  | false => exact e
theorem pw_or1 (ha : PT X a tA) : PW X (.BoolOp .Or [a] pos) tA := by
  intro wh pins s σ H Q I h
  refine isTrue_or (thn (ha pins s σ H Q I h) fun c s1 e => ?_)
  cases c with
  | false => exact isTrue_or_nil e
  | true => exact e
theorem pw_and (ha : PT X a tA) (hb : PW X (.BoolOp .And (b :: rest) pos) tB') : PW X (.BoolOp .And (a :: b :: rest) pos) (tAnd tA tB') := by
  intro wh pins s σ H Q I h
  refine isTrue_and (thn (ha pins s σ H _ I h) fun c s1 ⟨H1, I1, q1⟩ => ?_)
  cases c with
  | true => exact hb wh pins s1 σ H1 Q I1 q1
  | false => exact ⟨H1, I1, q1⟩
theorem pw_or (ha : PT X a tA) (hb : PW X (.BoolOp .Or (b :: rest) pos) tB') : PW X (.BoolOp .Or (a :: b :: rest) pos) (tOr tA tB') := by
  intro wh pins s σ H Q I h
  refine isTrue_or (thn (ha pins s σ H _ I h) fun c s1 ⟨H1, I1, q1⟩ => ?_)
  cases c with
  | true => exact ⟨H1, I1, q1⟩
  | false => exact hb wh pins s1 σ H1 Q I1 q1
theorem pt_not (ha : PT X a tA) : PT X (.UnaryOp .Not a pos) (tNot tA) := by
  intro pins s σ H Q I h
  exact isTrue_not (ha pins s σ H (fun c H1 => Q (!c) H1) I h)
/-- .. as values (bools) -/
def tAndV (ta tb : TE) : TE := fun σ H Q => ta σ H fun x H1 => ∃ c, x = .bl c ∧ if c = true then tb σ H1 Q else Q (.bl false) H1
def tNotV (ta : TE) : TE := fun σ H Q => ta σ H fun x H1 => ∃ c, x = .bl c ∧ Q (.bl (!c)) H1
theorem pe_one {op} {t : TE} (h : PE X a t) : PE X (.BoolOp op [a] pos) t := fun pins s σ H Q I hw => BoolOp_one (h pins s σ H Q I hw)
theorem pe_and (ha : PE X a ta) (hb : PE X (.BoolOp .And (b :: rest) pos) tb) : PE X (.BoolOp .And (a :: b :: rest) pos) (tAndV ta tb) := by
  intro pins s σ H Q I h
  refine BoolOp_and (thn (ha pins s σ H _ I h) fun v s1 ⟨x, H1, I1, r1, q1⟩ => ?_)
  obtain ⟨c, rfl, q1⟩ := q1
  cases r1
  refine wpAny_truthy_bool ?_
  cases c with
  | true => exact hb pins s1 σ H1 Q I1 q1
  | false => exact ⟨.bl false, H1, I1, rfl, q1⟩
theorem pe_not (ha : PE X a ta) : PE X (.UnaryOp .Not a pos) (tNotV ta) := by
  intro pins s σ H Q I h
  refine UnaryOp_ (thn (ha pins s σ H _ I h) fun v s1 ⟨x, H1, I1, r1, q1⟩ => ?_)
  obtain ⟨c, rfl, q1⟩ := q1
  cases r1
  exact not_of (wpAny_truthy_bool ⟨.bl (!c), H1, I1, rfl, q1⟩)
end
end L2

namespace L2
open PySem PySem.Spec PyProof.Rows

/-! ### a list, a tuple that is read: tracked, frozen, or an object of the module -/
def SqL (K : PySem.W.Frag) (H : Hp) (a : Addr) (xs : List V) : Prop :=
  Rd H a (.lst xs) ∨
    ∃ (o : Obj) (its : Array Value) (n : Nat), K.lookup a = some o ∧ o.cls = .type "list" ∧ o.dict = none ∧ o.data = .seq its n ∧ its.size ≤ sizeLine ∧ Vals xs its.toList
def SqT (K : PySem.W.Frag) (H : Hp) (a : Addr) (xs : List V) : Prop :=
  Rd H a (.tup xs) ∨
    ∃ (o : Obj) (its : Array Value) (n : Nat), K.lookup a = some o ∧ o.cls = .type "tuple" ∧ o.data = .seq its n ∧ its.size ≤ sizeLine ∧ Vals xs its.toList
def absV : Value → Option V
  | .none => some .non
  | .bool b => some (.bl b)
  | .int i _ => some (.int i)
  | .str x _ => some (.str x)
  | .bytes b _ => some (.byt b)
  | .float b _ => some (.flt b)
  | .ref a => some (.ref a)
  | .type n => some (.ty n)
  | _ => none
theorem RelV.abs {x : V} {u : Value} (r : RelV x u) : absV u = some x := by
  cases x with
  | non => cases r; rfl
  | bl _ => cases r; rfl
  | int _ => obtain ⟨t, rfl⟩ := r; rfl
  | str _ => obtain ⟨t, rfl⟩ := r; rfl
  | byt _ => obtain ⟨t, rfl⟩ := r; rfl
  | flt _ => obtain ⟨t, rfl⟩ := r; rfl
  | ref _ => cases r; rfl
  | ty _ => cases r; rfl
theorem RelV.inj {x y : V} {u : Value} (r : RelV x u) (q : RelV y u) : x = y := Option.some.inj (r.abs.symm.trans q.abs)
theorem Vals.inj : ∀ {xs ys : List V} {us : List Value}, Vals xs us → Vals ys us → xs = ys
  | _, _, _, .nil, .nil => rfl
  | _, _, _, .cons r t, .cons r' t' => by rw [r.inj r', Vals.inj t t']
section
variable {X : Cx} {pins : List (Addr × Obj)} {σ : St} {H : Hp} {s : Shared} {a : Addr} {xs ys : List V}
theorem SqL.of {K : PySem.W.Frag} (h : H a = some (.lst xs)) : SqL K H a xs := .inl (.inl h)
theorem SqT.of {K : PySem.W.Frag} (h : H a = some (.tup xs)) : SqT K H a xs := .inl (.inl h)
theorem Inv.list (I : Inv X pins σ H s) (h : SqL X.K H a xs) : ∃ its : List Value, Vals xs its ∧ PlainL s.heap a its.toArray ∧ xs.length ≤ sizeLine := by
  rcases h with h | ⟨o, its, n, hk, hc, hd, hs, hz, r⟩
  · obtain ⟨z, its, n, r, e⟩ := h.ok I.hok
    exact ⟨its, r, ⟨_, n, e, rfl, rfl, rfl⟩, z⟩
  · refine ⟨its.toList, r, ⟨o, n, I.kIn a o hk, hc, hd, by simpa using hs⟩, ?_⟩
    have e := r.length
    simp only [Array.length_toList] at e
    omega
theorem Inv.tuple (I : Inv X pins σ H s) (h : SqT X.K H a xs) : ∃ its : List Value, Vals xs its ∧ IsTup s.heap a its.toArray ∧ xs.length ≤ sizeLine := by
  rcases h with h | ⟨o, its, n, hk, hc, hs, hz, r⟩
  · obtain ⟨z, its, r, p⟩ := h.ok I.hok
    exact ⟨its, r, p, z⟩
  · refine ⟨its.toList, r, ⟨o, I.kIn a o hk, hc, n, by simpa using hs⟩, ?_⟩
    have e := r.length
    simp only [Array.length_toList] at e
    omega
theorem Inv.list_inj (I : Inv X pins σ H s) (h : SqL X.K H a xs) (h' : SqL X.K H a ys) : xs = ys := by
  obtain ⟨its, r, ⟨o, n, e, _, _, d⟩, _⟩ := I.list h
  obtain ⟨its', r', ⟨o', n', e', _, _, d'⟩, _⟩ := I.list h'
  rw [e] at e'; cases e'
  rw [d] at d'
  injection d' with d1 _
  have : its = its' := by simpa using congrArg Array.toList d1
  subst this
  exact r.inj r'
theorem Inv.tuple_inj (I : Inv X pins σ H s) (h : SqT X.K H a xs) (h' : SqT X.K H a ys) : xs = ys := by
  obtain ⟨its, r, ⟨o, e, _, n, d⟩, _⟩ := I.tuple h
  obtain ⟨its', r', ⟨o', e', _, n', d'⟩, _⟩ := I.tuple h'
  rw [e] at e'; cases e'
  rw [d] at d'
  injection d' with d1 _
  have : its = its' := by simpa using congrArg Array.toList d1
  subst this
  exact r.inj r'
end

/-! ### another wish about exceptions -/
abbrev Cx.wish (X : Cx) (E : Value → Shared → Prop) : Cx := { X with xe := E }
/-- no exception leaves -/
abbrev Cx.nox (X : Cx) : Cx := X.wish fun _ _ => False
theorem Cx.Ok.wish {X : Cx} (ok : X.Ok) (E : Value → Shared → Prop) : (X.wish E).Ok :=
  ⟨ok.mod, ok.kind, ok.glob, ok.blt, ok.above, ok.inj, ok.has, ok.cab, ok.hd, ok.frames, ok.stk, ok.exf, ok.bs, ok.bsz, ok.noex, ok.exfs, ok.funs, ok.frf⟩
theorem Cx.Ok.unwish {X : Cx} {E : Value → Shared → Prop} (ok : (X.wish E).Ok) : X.Ok :=
  ⟨ok.mod, ok.kind, ok.glob, ok.blt, ok.above, ok.inj, ok.has, ok.cab, ok.hd, ok.frames, ok.stk, ok.exf, ok.bs, ok.bsz, ok.noex, ok.exfs, ok.funs, ok.frf⟩
section
variable {X : Cx} {pins : List (Addr × Obj)} {σ : St} {H : Hp} {s : Shared} {E : Value → Shared → Prop}
theorem Inv.wish (I : Inv X pins σ H s) (E : Value → Shared → Prop) : Inv (X.wish E) pins σ H s := ⟨I.ok.wish E, I.os, I.bare, I.base, I.loc, I.cell, I.free, I.freeC, I.pin, I.hok, I.len⟩
theorem Inv.unwish (I : Inv (X.wish E) pins σ H s) : Inv X pins σ H s := ⟨I.ok.unwish, I.os, I.bare, I.base, I.loc, I.cell, I.free, I.freeC, I.pin, I.hok, I.len⟩
theorem SP.unwish {D : Ends} {f : Flow} {s' : Shared} (h : SP (X.wish E) pins D f s') : SP X pins D f s' := by
  cases f with
  | next => obtain ⟨σ', H', I, q⟩ := h; exact ⟨σ', H', I.unwish, q⟩
  | brk => obtain ⟨σ', H', I, q⟩ := h; exact ⟨σ', H', I.unwish, q⟩
  | cont => obtain ⟨σ', H', I, q⟩ := h; exact ⟨σ', H', I.unwish, q⟩
  | ret u => obtain ⟨v, σ', H', I, r, q⟩ := h; exact ⟨v, σ', H', I.unwish, r, q⟩
theorem PSs.nox {st : List Stmt} {t : TS} (h : PSs X.nox st t) : PSs X st t := fun pins s σ H D I hw =>
  wpAny_mono (h pins s σ H D (I.wish _) hw) (fun _ _ q => q.unwish) fun _ _ z => False.elim z
end

/-! ### blocks and small statements -/
section
variable {X : Cx} {st : Stmt} {rest : List Stmt} {t u : TS} {e : Expr} {te : TE} {pos : Pos}
def tNext : TS := fun D σ H => D.nx σ H
def tSeq (t u : TS) : TS := fun D σ H => t { D with nx := u D } σ H
theorem pss_nil : PSs X [] tNext := fun _ _ σ H _ I h => wpAny_execs_nil ⟨σ, H, I, h⟩
theorem pss_cons (h1 : PS X st t) (h2 : PSs X rest u) : PSs X (st :: rest) (tSeq t u) := by
  intro pins s σ H D I h
  refine wpAny_execs_cons (thn (h1 pins s σ H { D with nx := u D } I h) fun f s1 q => ?_)
  cases f with
  | next =>
    obtain ⟨σ', H', I', q⟩ := q
    exact h2 pins s1 σ' H' D I' q
  | ret v => exact q
  | brk => exact q
  | cont => exact q
theorem pss_one (h1 : PS X st t) : PSs X [st] t := by
  intro pins s σ H D I h
  refine wpAny_execs_cons (thn (h1 pins s σ H D I h) fun f s1 q => ?_)
  cases f with
  | next => exact wpAny_execs_nil q
  | ret v => exact q
  | brk => exact q
  | cont => exact q
/-- in a def's body nothing is shown -/
theorem Inv.quiet {pins : List (Addr × Obj)} {σ : St} {H : Hp} {s : Shared} (I : Inv X pins σ H s) : interactive X.env = false := by simp [interactive, I.ok.kind]
/-- an expression whose value is dropped -/
def tDrop (te : TE) : TS := fun D σ H => te σ H fun _ H1 => D.nx σ H1
theorem ps_expr (he : PE X e te) (hs : swapsWith e none pos.line X.env = pure false := by rfl) : PS X (.Expr e pos) (tDrop te) := by
  intro pins s σ H D I h
  exact wpAny_Expr_any (thn (he pins s σ H _ I h) fun v s1 ⟨x, H1, I1, r1, q1⟩ => ⟨σ, H1, I1, q1⟩) I.quiet hs
def tRet (te : TE) : TS := fun D σ H => te σ H D.rt
theorem ps_ret (he : PE X e te) : PS X (.Return (some e) pos) (tRet te) := by
  intro pins s σ H D I h
  exact wpAny_Return_some (thn (he pins s σ H _ I h) fun v s1 ⟨x, H1, I1, r1, q1⟩ => ⟨x, σ, H1, I1, r1, q1⟩)
def tIfS (c : TT) (t u : TS) : TS := fun D σ H => c σ H fun b H1 => if b = true then t D σ H1 else u D σ H1
theorem ps_if {c : Expr} {a b : List Stmt} {tc : TT} (hc : PT X c tc) (ha : PSs X a t) (hb : PSs X b u) : PS X (.If c a b pos) (tIfS tc t u) := by
  intro pins s σ H D I h
  refine wpAny_If (thn (hc pins s σ H _ I h) fun d s1 ⟨H1, I1, q1⟩ => ?_)
  cases d with
  | true => exact ha pins s1 σ H1 D I1 q1
  | false => exact hb pins s1 σ H1 D I1 q1
/-- code that the proof never comes to -/
def tNever : TS := fun _ _ _ => False
theorem ps_never : PS X st tNever := fun _ _ _ _ _ _ h => h.elim
end

/-! ### targets -/
abbrev TG := V → St → Hp → (St → Hp → Prop) → Prop
abbrev TGs := List V → St → Hp → (St → Hp → Prop) → Prop
def PG (X : Cx) (target : Expr) (t : TG) : Prop :=
  ∀ (pins : List (Addr × Obj)) (s : Shared) (σ : St) (H : Hp) (v : V) (u : Value) (Q : St → Hp → Prop), Inv X pins σ H s → RelV v u → t v σ H Q →
    wpAny (model X.prog X.w) X.A (assign target X.env u) (fun _ s' => ∃ σ' H', Inv X pins σ' H' s' ∧ Q σ' H') X.xe s
/-- several targets, one after another -/
def PGs (X : Cx) (ts : List Expr) (t : TGs) : Prop :=
  ∀ (pins : List (Addr × Obj)) (s : Shared) (σ : St) (H : Hp) (vs : List V) (us : List Value) (Q : St → Hp → Prop), Inv X pins σ H s → Vals vs us → t vs σ H Q →
    wpAny (model X.prog X.w) X.A (assignInOrder ((assignEach ts X.env).map (·.2)) us) (fun _ s' => ∃ σ' H', Inv X pins σ' H' s' ∧ Q σ' H') X.xe s
/-- o[i] = v, by values -/
abbrev TSet := V → V → V → Hp → (Hp → Prop) → Prop
def PSet (X : Cx) (t : TSet) : Prop :=
  ∀ (pins : List (Addr × Obj)) (s : Shared) (σ : St) (H : Hp) (o i v : V) (ov iv u : Value) (Q : Hp → Prop), Inv X pins σ H s → RelV o ov → RelV i iv → RelV v u → t o i v H Q →
    wpAny (model X.prog X.w) X.A (setItem ov iv u) (fun _ s' => ∃ H', Inv X pins σ H' s' ∧ Q H') X.xe s
/-- a op= b, by values -/
abbrev TIp := V → V → Hp → VK → Prop
def PIp (X : Cx) (op : Operator) (t : TIp) : Prop :=
  ∀ (pins : List (Addr × Obj)) (s : Shared) (σ : St) (H : Hp) (x y : V) (v u : Value) (Q : VK), Inv X pins σ H s → RelV x v → RelV y u → t x y H Q →
    wpAny (model X.prog X.w) X.A (inplaceOp op v u) (EP X pins σ Q) X.xe s
section
variable {X : Cx} {pos : Pos}
def gName (i : Nat) : TG := fun v σ H Q => Q (σ.set i (some v)) H
theorem pg_name {i : Nat} {x : Str} (hN : X.N.Nodup) (hi : X.N[i]? = some x) (hx : Loc X.env.scope x) (hf : X.fn x = true ∨ X.env.scope.names.lookup x = some .local := by first | exact .inl rfl | exact .inr rfl | assumption) : PG X (.Name x pos) (gName i) := by
  intro pins s σ H v u Q I r h
  exact wpAny_assign_Name (store_ok I hN hi hx r (fun s' I' => ⟨_, H, I', h⟩) hf)
def gNil : TGs := fun vs σ H Q => vs = [] ∧ Q σ H
def gCons (t : TG) (u : TGs) : TGs := fun vs σ H Q => ∃ v r, vs = v :: r ∧ t v σ H fun σ' H' => u r σ' H' Q
theorem pgs_nil : PGs X [] gNil := by
  intro pins s σ H vs us Q I r h
  obtain ⟨e, h⟩ := h
  subst e
  cases r
  exact assignInOrder_nil ⟨σ, H, I, h⟩
theorem pgs_cons {e : Expr} {es : List Expr} {t : TG} {u : TGs} (h1 : PG X e t) (h2 : PGs X es u)
    (hs : (assignEach (e :: es) X.env).map (·.2) = assign e X.env :: (assignEach es X.env).map (·.2) := by rfl) : PGs X (e :: es) (gCons t u) := by
  intro pins s σ H vs us Q I r h
  obtain ⟨v, vr, e1, h⟩ := h
  subst e1
  cases r with
  | cons r rr =>
    rw [hs]
    refine assignInOrder_cons (thn (h1 pins s σ H _ _ _ I r h) fun _ s1 ⟨σ1, H1, I1, q1⟩ => ?_)
    exact h2 pins s1 σ1 H1 _ _ Q I1 rr q1
/-- (a, b, ..) = a tuple of that length -/
def gTup (K : PySem.W.Frag) (n : Nat) (t : TGs) : TG := fun v σ H Q => ∃ a xs, v = .ref a ∧ SqT K H a xs ∧ xs.length = n ∧ t xs σ H Q
theorem pg_tup {es : List Expr} {k : Nat} {t : TGs} {n : Nat} (hc : X.calm = true) (h : PGs X es t)
    (hn : (assignEach es X.env).length = n := by rfl) (hst : (assignEach es X.env).findIdx? (·.1) = none := by rfl) : PG X (.Tuple es k pos) (gTup X.K n t) := by
  intro pins s σ H v u Q I r hw
  obtain ⟨a, xs, e1, hq, hl, hw⟩ := hw
  subst e1
  cases r
  obtain ⟨its, rv, ht, hz⟩ := I.tuple hq
  refine assign_Tuple_tuple (I.ok.hd hc) ht (by simp [hn, ← hl, rv.length]) hst fun h' hx => ?_
  have I1 : Inv X pins σ H { s with heap := h' } := I.kept (t' := s.toks) fun b o e => hx b o (Nat.ne_of_lt (Heap.lt_size e)) e
  exact h pins _ σ H xs _ Q I1 (by simpa using rv) hw
/-- o[i] = .. -/
def gSub (to ti : TE) (t : TSet) : TG := fun v σ H Q => to σ H fun o H1 => ti σ H1 fun i H2 => t o i v H2 fun H3 => Q σ H3
theorem pg_sub {o i : Expr} {to ti : TE} {t : TSet} (ho : PE X o to) (hi : PE X i ti) (hs : PSet X t)
    (ha : ∀ v, assign (.Subscript o i pos) X.env v = (do
      let ov ← holding [v] (eval o X.env)
      let iv ← holding [v, ov] (eval i X.env)
      standAt pos
      holding [v, ov, iv] (setItem ov iv v)
      release [v, ov, iv] []) := by intro _; rfl) : PG X (.Subscript o i pos) (gSub to ti t) := by
  intro pins s σ H v u Q I r h
  rw [ha]
  refine wpAny_bind (wpAny_holding (thn (ho pins s σ H _ I h) fun ov s1 ⟨x, H1, I1, r1, q1⟩ => ?_))
  refine wpAny_bind (wpAny_holding (thn (hi pins s1 σ H1 _ I1 q1) fun iv s2 ⟨y, H2, I2, r2, q2⟩ => ?_))
  refine wpAny_bind (wpAny_standAt (wpAny_bind (wpAny_holding (thn (hs pins s2 σ H2 x y v ov iv u _ I2 r1 r2 r q2) fun _ s3 ⟨H3, I3, q3⟩ => ?_))))
  exact wpAny_release ⟨σ, H3, I3, q3⟩
/-- target = value -/
def tAsg (te : TE) (g : TG) : TS := fun D σ H => te σ H fun x H1 => g x σ H1 D.nx
theorem ps_asg {tg e : Expr} {te : TE} {g : TG} (he : PE X e te) (hg : PG X tg g) (hs : swapsWithSole [tg] e pos.line X.env = pure false := by rfl) (hw : swappedStores [tg] e X.env = pure none := by rfl)
    (h1 : (assignEach [tg] X.env).map (·.2) = [assign tg X.env] := by rfl) : PS X (.Assign [tg] e pos) (tAsg te g) := by
  intro pins s σ H D I h
  refine wpAny_Assign_stores (thn (he pins s σ H _ I h) fun v s1 ⟨x, H1, I1, r1, q1⟩ => ?_) hs hw
  rw [h1]
  exact thn (hg pins s1 σ H1 x v _ I1 r1 q1) fun _ s2 q => q
/-- name = value -/
theorem ps_set {i : Nat} {x : Str} {e : Expr} {te : TE} {pos' : Pos} (hN : X.N.Nodup) (hi : X.N[i]? = some x) (hx : Loc X.env.scope x) (he : PE X e te) (hs : swapsWith e (some (.Name x pos')) pos.line X.env = pure false := by rfl) (hf : X.fn x = true ∨ X.env.scope.names.lookup x = some .local := by first | exact .inl rfl | exact .inr rfl | assumption) :
    PS X (.Assign [.Name x pos'] e pos) (tAsg te (gName i)) := by
  intro pins s σ H D I h
  refine wpAny_Assign_Name (thn (he pins s σ H _ I h) fun v s1 ⟨y, H1, I1, r1, q1⟩ => ?_) hs
  exact store_ok I1 hN hi hx r1 (fun s2 I2 => ⟨_, H1, I2, q1⟩) hf
/-- name op= e -/
def tAug (i : Nat) (te : TE) (ti : TIp) : TS := fun D σ H => ∃ x, σ[i]? = some (some x) ∧ te σ H fun y H1 => ti x y H1 fun z H2 => D.nx (σ.set i (some z)) H2
theorem ps_aug {i : Nat} {x : Str} {e : Expr} {te : TE} {op : Operator} {ti : TIp} {pos' : Pos} (hN : X.N.Nodup) (hi : X.N[i]? = some x) (hx : Loc X.env.scope x) (he : PE X e te) (ho : PIp X op ti) (hf : X.fn x = true ∨ X.env.scope.names.lookup x = some .local := by first | exact .inl rfl | exact .inr rfl | assumption) :
    PS X (.AugAssign (.Name x pos') op e pos) (tAug i te ti) := by
  intro pins s σ H D I h
  obtain ⟨v, e1, h⟩ := h
  obtain ⟨m, hn, hl⟩ := I.loc
  have vis : Vis X.env.scope x := by rcases hx with k | k; exact .inl k; exact .inr (.inl k)
  obtain ⟨u, r, l⟩ := hl i x v hi e1 vis
  refine wpAny_AugAssign_Name ?_
  have go : wpAny (model X.prog X.w) X.A (eval e X.env) (fun w s₂ => wpAny (model X.prog X.w) X.A (inplaceOp op u w) (fun r s₃ => wpAny (model X.prog X.w) X.A (storeName X.env x r) (fun _ => SP X pins D .next) X.xe s₃) X.xe s₂) X.xe s := by
    refine thn (he pins s σ H _ I h) fun w s1 ⟨y, H1, I1, r1, q1⟩ => ?_
    refine thn (ho pins s1 σ H1 v y u w _ I1 r r1 q1) fun z s2 ⟨zv, H2, I2, r2, q2⟩ => ?_
    exact store_ok I2 hN hi hx r2 (fun s3 I3 => ⟨_, H2, I3, q2⟩) hf
  rcases l with ⟨hk, hm⟩ | ⟨hk, c, hc, hcell⟩
  · exact wpAny_loadName_local I.ok.kind hk hn hm go
  · rcases hk with hk | hk
    · exact wpAny_loadName_cell I.ok.kind hk hc hcell go
    · rcases hx with k | k
      · have : X.env.scope.names.lookup x = some .free := hk
        rw [k] at this; cases this
      · have : X.env.scope.names.lookup x = some .free := hk
        rw [k] at this; cases this
/-- ints -/
def ipI (f : Int → Int → Int) : TIp := fun x y H Q => ∃ i j, x = .int i ∧ y = .int j ∧ Q (.int (f i j)) H
theorem ip_add : PIp X .Add (ipI fun i j => i + j) := by
  intro pins s σ H x y v u Q I r1 r2 h
  obtain ⟨i, j, e1, e2, q⟩ := h
  subst e1; subst e2
  obtain ⟨t, rfl⟩ := r1
  obtain ⟨t', rfl⟩ := r2
  exact iadd_int ⟨.int _, H, I.tok _, ⟨_, rfl⟩, q⟩
end

/-! ### while -/
section
variable {X : Cx} {pos : Pos}
/-- the invariant W with its measure -/
def tWhile (c : TT) (tb : TS) : TS := fun D σ H => ∃ W : Nat → St → Hp → Prop, (∃ m, W m σ H) ∧ ∀ m σ H, W m σ H →
  c σ H fun b H1 => if b = true then ∃ N : St → Hp → Prop, (∀ σ' H', N σ' H' → ∃ m', m' < m ∧ W m' σ' H') ∧ tb { D with nx := N, ct := N, bk := D.nx } σ H1 else D.nx σ H1
theorem ps_while {c : Expr} {body : List Stmt} {tc : TT} {tb : TS} (hp : PassesOwn (model X.prog X.w) X.A X.env X.xe) (hc : PT X c tc) (hb : PSs X body tb) : PS X (.While c body [] pos) (tWhile tc tb) := by
  intro pins s σ H D I h
  obtain ⟨W, ⟨m0, w0⟩, turn⟩ := h
  refine wpAny_While (codeAny_whileLoop (fun n s' => ∃ σ' H', Inv X pins σ' H' s' ∧ W n σ' H') ?_ m0 ⟨σ, H, I, w0⟩)
  rintro n s1 ⟨σ1, H1, I1, w1⟩
  refine wpAny_passesOwn hp (thn (hc pins s1 σ1 H1 _ I1 (turn n σ1 H1 w1)) fun b s2 ⟨H2, I2, q2⟩ => ?_)
  cases b with
  | true =>
    obtain ⟨N, hN, q2⟩ := q2
    rw [if_pos rfl]
    refine wpAny_passesOwn hp (thn (hb pins s2 σ1 H2 _ I2 q2) fun f s3 q3 => ?_)
    cases f with
    | next =>
      obtain ⟨σ3, H3, I3, n3⟩ := q3
      obtain ⟨m', hm, w3⟩ := hN σ3 H3 n3
      exact ⟨m', hm, σ3, H3, I3, w3⟩
    | cont =>
      obtain ⟨σ3, H3, I3, n3⟩ := q3
      obtain ⟨m', hm, w3⟩ := hN σ3 H3 n3
      exact ⟨m', hm, σ3, H3, I3, w3⟩
    | brk => exact q3
    | ret v => exact q3
  | false =>
    rw [if_neg Bool.false_ne_true]
    exact wpAny_execs_nil ⟨σ1, H2, I2, q2⟩
end

/-! ### what a loop or a comprehension walks -/
/-- at turn i: it yields x (the heap may grow), or it stops -/
structure It where
  go : Nat → Hp → Prop
  yld : Nat → Hp → V → Hp → Prop
  stop : Nat → Hp → Prop
/-- the iterator's own objects may turn: they are not the frame's, not pinned, younger than the entry (or a comprehension's own) -/
def FpOk (X : Cx) (pins : List (Addr × Obj)) (H : Hp) (b : Addr) : Prop :=
  H b = none ∧ b ≠ X.env.locals ∧ b ∉ X.fs ∧ (b ∈ X.ex ∨ X.s₀.heap.objs.size ≤ b) ∧ (∀ x c, X.env.cells.lookup x = some c → c ≠ b) ∧ ∀ p ∈ X.pn ++ pins, p.1 ≠ b
theorem Inv.fpOk {X : Cx} {pins : List (Addr × Obj)} {σ : St} {H H' : Hp} {s : Shared} {b : Addr} (I : Inv X pins σ H s) (hb : s.heap.objs.size ≤ b) (hn : H' b = none) : FpOk X pins H' b := by
  refine ⟨hn, Nat.ne_of_gt (Nat.lt_of_lt_of_le I.lt hb), I.nofs hb, .inr (Nat.le_trans I.sz hb), fun x c e z => ?_, fun p hp z => ?_⟩
  · obtain ⟨v, q⟩ := I.cell x c e
    exact absurd (Nat.lt_of_lt_of_le q.lt (by rw [z]; exact hb)) (Nat.lt_irrefl _)
  · exact absurd (Nat.lt_of_lt_of_le (Heap.lt_size (I.pin p hp).1) (by rw [z]; exact hb)) (Nat.lt_irrefl _)
structure Turn (P : Program) (w : World) (K : PySem.W.Frag) (tg : Expr) (J : It) (fp : List Addr) (it : Addr) (tn : Nat → Heap → Prop) : Prop where
  mem : it ∈ fp
  obj : ∀ i h, tn i h → ∀ b ∈ fp, ∃ o, h.get? b = some o ∧ ∀ v, o.data ≠ .cell v
  keep : ∀ i h h', tn i h → (∀ b ∈ fp, ∀ o, h.get? b = some o → h'.get? b = some o) → tn i h'
  item : ∀ (X : Cx), X.prog = P → X.w = w → X.K = K → X.calm = true → ∀ (i : Nat) (pins : List (Addr × Obj)) (s : Shared) (σ : St) (H : Hp) (E : Value → Shared → Prop), Inv X pins σ H s → (∀ b ∈ fp, FpOk X pins H b) → tn i s.heap → J.go i H →
    wpAny (model P w) X.A (pyNext (.ref it)) (fun r s1 => ∃ u, r = some u ∧
      wpAny (model P w) X.A (letOwnedTupleGo tg (.ref it) u) (fun _ s2 => ∃ x H', Inv X pins σ H' s2 ∧ RelV x u ∧ J.yld i H x H' ∧ tn (i + 1) s2.heap ∧ ∀ b ∈ fp, H' b = none) E s1) E s
  done : ∀ (X : Cx), X.prog = P → X.w = w → X.K = K → X.calm = true → ∀ (i : Nat) (pins : List (Addr × Obj)) (s : Shared) (σ : St) (H : Hp) (E : Value → Shared → Prop), Inv X pins σ H s → (∀ b ∈ fp, FpOk X pins H b) → tn i s.heap → J.stop i H →
    wpAny (model P w) X.A (pyNext (.ref it)) (fun r s1 => r = none ∧ Inv X pins σ H s1) E s
  self : ∀ (A : Around) (i : Nat) (s : Shared) (Q : Value → Shared → Prop) (E : Value → Shared → Prop), tn i s.heap → Q (.ref it) s → wpAny (model P w) A (pyIter (.ref it)) Q E s
abbrev TI := St → Hp → (It → Hp → Prop) → Prop
/-- an iterator has come -/
def PIE (X : Cx) (pins : List (Addr × Obj)) (σ : St) (tg : Expr) (R : It → Hp → Prop) (itv : Value) (s2 : Shared) : Prop :=
  ∃ (it : Addr) (fp : List Addr) (tn : Nat → Heap → Prop) (J : It) (H' : Hp), itv = .ref it ∧ Inv X pins σ H' s2 ∧ Turn X.prog X.w X.K tg J fp it tn ∧ tn 0 s2.heap ∧ (∀ b ∈ fp, FpOk X pins H' b) ∧ R J H'
def PI (X : Cx) (tg iter : Expr) (wi : TI) : Prop :=
  ∀ (pins : List (Addr × Obj)) (s : Shared) (σ : St) (H : Hp) (R : It → Hp → Prop), Inv X pins σ H s → wi σ H R →
    wpAny (model X.prog X.w) X.A (eval iter X.env) (fun v s1 => wpAny (model X.prog X.w) X.A (pyIter v) (PIE X pins σ tg R) X.xe s1) X.xe s

/-- the step ahead of the store is nothing for an iterator that keeps no tuple -/
theorem go_of {M : Model} {A : Around} {E : Value → Shared → Prop} {s : Shared} {tg : Expr} {it : Addr} {u : Value} {o : Obj} {n : String} {vs : Array Value} {Q : Unit → Shared → Prop} (ho : s.heap.get? it = some o) (hc : o.cls = .type n) (hd : o.data = .fields vs)
    (hn : ["enumerate", "zip", "dict_itemiterator", "dict_reverseitemiterator", "odict_iterator", "itertools.zip_longest", "itertools.pairwise"].contains n = false) (hQ : Q () s) : wpAny M A (letOwnedTupleGo tg (.ref it) u) Q E s := by
  unfold letOwnedTupleGo
  cases tg <;> first
    | exact wpAny_pure hQ
    | (cases u <;> first
        | exact wpAny_pure hQ
        | (refine wpAny_bind (wpAny_load ho ?_)
           rw [hc, hd]
           show wpAny M A (if (["enumerate", "zip", "dict_itemiterator", "dict_reverseitemiterator", "odict_iterator", "itertools.zip_longest", "itertools.pairwise"].contains n && vs[0]? == some (rawInt _)) = true then _ else _) Q E s
           rw [if_neg (by intro h; rw [hn, Bool.false_and] at h; cases h)]
           exact wpAny_pure hQ))

/-- the list at a, as it stands at each turn (a loop may append to it) -/
def Itl (K : PySem.W.Frag) (a : Addr) : It :=
  ⟨fun i H => ∃ xs x, SqL K H a xs ∧ xs[i]? = some x, fun i H x H' => H' = H ∧ ∀ xs, SqL K H a xs → xs[i]? = some x, fun i H => ∃ xs, SqL K H a xs ∧ xs.length ≤ i⟩
def Itt (K : PySem.W.Frag) (a : Addr) : It :=
  ⟨fun i H => ∃ xs x, SqT K H a xs ∧ xs[i]? = some x, fun i H x H' => H' = H ∧ ∀ xs, SqT K H a xs → xs[i]? = some x, fun i H => ∃ xs, SqT K H a xs ∧ xs.length ≤ i⟩
/-- lo, lo + 1, .. (n of them) -/
def Itr (lo : Int) (n : Nat) : It := ⟨fun i _ => i < n, fun i H x H' => H' = H ∧ x = .int (lo + i), fun i _ => n ≤ i⟩
theorem turn_list {P : Program} {w : World} {K : PySem.W.Frag} {tg : Expr} (a it : Addr) : Turn P w K tg (Itl K a) [it] it (fun i h => h.IsListIter it a i) where
  mem := by simp
  obj := fun i h st b hb => by
    have e : b = it := by simpa using hb
    subst e
    obtain ⟨o, e, c, d⟩ := st
    exact ⟨o, e, fun v z => by rw [d] at z; cases z⟩
  keep := fun i h h' st k => st.at fun o e => k it (by simp) o e
  item := by
    intro X hP hw hK hc i pins s σ H E I hf st hg
    subst hP hw hK
    obtain ⟨xs, x, hq, hx⟩ := hg
    obtain ⟨its, rv, p, hz⟩ := I.list hq
    obtain ⟨u, hu, ru⟩ := rv.get hx
    obtain ⟨f0, f1, f2, f3, f4, f5⟩ := hf it (by simp)
    refine wpAny_pyNext_list_item st p.isList (x := u) (by simpa using hu) fun h' st' sb => ?_
    have I1 : Inv X pins σ H { s with heap := h' } := I.turned (t' := s.toks) (fun b o hb e => (sb.2 b hb).trans e) f0 f1 f3 f4 f5
    obtain ⟨o, e, c, d⟩ := id st'
    exact ⟨u, rfl, go_of (s := { s with heap := h' }) e c d (by decide) ⟨x, H, I1, ru, ⟨rfl, fun ys hy => by rw [I.list_inj hy hq]; exact hx⟩, st', fun b hb => (hf b hb).1⟩⟩
  done := by
    intro X hP hw hK hc i pins s σ H E I hf st hg
    subst hP hw hK
    obtain ⟨xs, hq, hx⟩ := hg
    obtain ⟨its, rv, p, hz⟩ := I.list hq
    obtain ⟨f0, f1, f2, f3, f4, f5⟩ := hf it (by simp)
    have hl := rv.length
    exact wpAny_pyNext_list_end (I.ok.hd hc) st p.isList (by simp; omega) fun h' eb => ⟨rfl, I.turned (t' := s.toks) (fun b o hb e => eb b o hb e) f0 f1 f3 f4 f5⟩
  self := fun _ _ _ _ _ st h => wpAny_pyIter_listiter st h
theorem turn_tuple {P : Program} {w : World} {K : PySem.W.Frag} {tg : Expr} (a it : Addr) : Turn P w K tg (Itt K a) [it] it (fun i h => h.IsTupleIter it a i) where
  mem := by simp
  obj := fun i h st b hb => by
    have e : b = it := by simpa using hb
    subst e
    obtain ⟨o, e, c, d⟩ := st
    exact ⟨o, e, fun v z => by rw [d] at z; cases z⟩
  keep := fun i h h' st k => st.at fun o e => k it (by simp) o e
  item := by
    intro X hP hw hK hc i pins s σ H E I hf st hg
    subst hP hw hK
    obtain ⟨xs, x, hq, hx⟩ := hg
    obtain ⟨its, rv, p, hz⟩ := I.tuple hq
    obtain ⟨u, hu, ru⟩ := rv.get hx
    obtain ⟨f0, f1, f2, f3, f4, f5⟩ := hf it (by simp)
    refine wpAny_pyNext_tuple_item st (show s.heap.IsTuple a its.toArray from p) (x := u) (by simpa using hu) fun h' st' sb => ?_
    have I1 : Inv X pins σ H { s with heap := h' } := I.turned (t' := s.toks) (fun b o hb e => (sb.2 b hb).trans e) f0 f1 f3 f4 f5
    obtain ⟨o, e, c, d⟩ := id st'
    exact ⟨u, rfl, go_of (s := { s with heap := h' }) e c d (by decide) ⟨x, H, I1, ru, ⟨rfl, fun ys hy => by rw [I.tuple_inj hy hq]; exact hx⟩, st', fun b hb => (hf b hb).1⟩⟩
  done := by
    intro X hP hw hK hc i pins s σ H E I hf st hg
    subst hP hw hK
    obtain ⟨xs, hq, hx⟩ := hg
    obtain ⟨its, rv, p, hz⟩ := I.tuple hq
    obtain ⟨f0, f1, f2, f3, f4, f5⟩ := hf it (by simp)
    have hl := rv.length
    exact wpAny_pyNext_tuple_end (I.ok.hd hc) st (show s.heap.IsTuple a its.toArray from p) (by simp; omega) fun h' eb => ⟨rfl, I.turned (t' := s.toks) (fun b o hb e => eb b o hb e) f0 f1 f3 f4 f5⟩
  self := fun _ _ _ _ _ st h => wpAny_pyIter_tupleiter st h
theorem turn_range {P : Program} {w : World} {K : PySem.W.Frag} {tg : Expr} (it : Addr) (lo : Int) (n : Nat) : Turn P w K tg (Itr lo n) [it] it (fun i h => IsRangeIter h it (lo + (i : Nat) * 1) ((n : Int) - (i : Nat)) 1) where
  mem := by simp
  obj := fun i h st b hb => by
    have e : b = it := by simpa using hb
    subst e
    exact ⟨_, st, fun v z => by
      have z' : Data.fields _ = Data.cell v := z
      cases z'⟩
  keep := fun i h h' st k => k it (by simp) _ st
  item := by
    intro X hP hw hK hc i pins s σ H E I hf st hg
    subst hP hw hK
    obtain ⟨f0, f1, f2, f3, f4, f5⟩ := hf it (by simp)
    have W := Walks.range (prog := X.prog) (w := X.w) (I.ok.hd hc) it lo 1 n
    refine W.item i s _ _ hg st fun v h' tk hv st' kk => ?_
    obtain ⟨t, rfl⟩ := hv
    have I1 : Inv X pins σ H { s with heap := h', toks := tk } := I.turned (fun b o hb e => kk b o (by simpa using hb) e) f0 f1 f3 f4 f5
    refine ⟨_, rfl, go_of (s := { s with heap := h', toks := tk }) (n := "range_iterator") st' rfl rfl (by decide) ⟨.int (lo + i), H, I1, ⟨t, ?_⟩, ⟨rfl, rfl⟩, st', fun b hb => (hf b hb).1⟩⟩
    rw [Int.mul_one]
  done := by
    intro X hP hw hK hc i pins s σ H E I hf st hg
    subst hP hw hK
    obtain ⟨f0, f1, f2, f3, f4, f5⟩ := hf it (by simp)
    exact wpAny_pyNext_range_end (I.ok.hd hc) st (by have : n ≤ i := hg; omega) fun h' eb => ⟨rfl, I.turned (t' := s.toks) (fun b o hb e => eb b o hb e) f0 f1 f3 f4 f5⟩
  self := fun _ _ _ _ _ st h => wpAny_pyIter_rangeiter st h
end L2

namespace L2
open PySem PySem.Spec PyProof.Rows
section
variable {X : Cx} {tg : Expr}
def iList (K : PySem.W.Frag) (tl : TE) : TI := fun σ H R => tl σ H fun x H1 => ∃ a, x = .ref a ∧ (∃ xs, SqL K H1 a xs) ∧ R (Itl K a) H1
def iTup (K : PySem.W.Frag) (tl : TE) : TI := fun σ H R => tl σ H fun x H1 => ∃ a, x = .ref a ∧ (∃ xs, SqT K H1 a xs) ∧ R (Itt K a) H1
theorem pi_list {l : Expr} {tl : TE} (hl : PE X l tl) : PI X tg l (iList X.K tl) := by
  intro pins s σ H R I h
  refine thn (hl pins s σ H _ I h) fun v s1 ⟨x, H1, I1, r1, q1⟩ => ?_
  obtain ⟨a, e, ⟨xs, hq⟩, q⟩ := q1
  subst e
  cases r1
  obtain ⟨its, rv, p, hz⟩ := I1.list hq
  refine wpAny_pyIter_list p.isList ?_
  refine ⟨s1.heap.objs.size, [s1.heap.objs.size], _, _, H1, rfl, I1.kept (t' := s1.toks) fun b o e => Heap.get?_push_of_some _ e, turn_list a _, ⟨_, Heap.get?_push_size _ rfl, rfl, rfl⟩, fun b hb => ?_, q⟩
  have e : b = s1.heap.objs.size := by simpa using hb
  subst e
  exact I1.fpOk (Nat.le_refl _) (I1.hok.fresh (Nat.le_refl _))
theorem pi_tup {l : Expr} {tl : TE} (hl : PE X l tl) : PI X tg l (iTup X.K tl) := by
  intro pins s σ H R I h
  refine thn (hl pins s σ H _ I h) fun v s1 ⟨x, H1, I1, r1, q1⟩ => ?_
  obtain ⟨a, e, ⟨xs, hq⟩, q⟩ := q1
  subst e
  cases r1
  obtain ⟨its, rv, p, hz⟩ := I1.tuple hq
  refine wpAny_pyIter_tuple (show s1.heap.IsTuple a its.toArray from p) ?_
  refine ⟨s1.heap.objs.size, [s1.heap.objs.size], _, _, H1, rfl, I1.kept (t' := s1.toks) fun b o e => Heap.get?_push_of_some _ e, turn_tuple a _, ⟨_, Heap.get?_push_size _ rfl, rfl, rfl⟩, fun b hb => ?_, q⟩
  have e : b = s1.heap.objs.size := by simpa using hb
  subst e
  exact I1.fpOk (Nat.le_refl _) (I1.hok.fresh (Nat.le_refl _))
/-- a range object just made, walked -/
theorem range_it {pins : List (Addr × Obj)} {σ : St} {H : Hp} {s : Shared} {R : It → Hp → Prop} {E : Value → Shared → Prop} {lo hi : Int} {t u v : Tok} {tk : Nat} (I : Inv X pins σ H s) (h1 : -(2 ^ 62) ≤ lo) (h2 : lo < 2 ^ 62) (h3 : -(2 ^ 62) ≤ hi) (h4 : hi < 2 ^ 62)
    (q : R (Itr lo (hi - lo).toNat) H) : wpAny (model X.prog X.w) X.A (pyIter (.ref s.heap.objs.size)) (PIE X pins σ tg R) E { s with heap := s.heap.push { cls := .type "range", data := .fields #[.int lo t, .int hi u, .int 1 v] }, toks := tk } := by
  refine wpAny_pyIter_range (IsRange.new ..) (small_one h1 h2 h3 h4) ?_
  have I1 : Inv X pins σ H { s with heap := s.heap.push { cls := .type "range", data := .fields #[.int lo t, .int hi u, .int 1 v] }, toks := tk } := I.kept fun b o e => Heap.get?_push_of_some _ e
  refine ⟨(s.heap.push { cls := .type "range", data := .fields #[.int lo t, .int hi u, .int 1 v] }).objs.size, [(s.heap.push { cls := .type "range", data := .fields #[.int lo t, .int hi u, .int 1 v] }).objs.size], _, _, H, rfl,
    I1.kept (t' := tk) fun b o e => Heap.get?_push_of_some _ e, turn_range _ lo (hi - lo).toNat, ?_, fun b hb => ?_, q⟩
  · have e1 : lo + ((0 : Nat) : Int) * 1 = lo := by simp
    have e2 : (((hi - lo).toNat : Nat) : Int) - ((0 : Nat) : Int) = Builtin.Range.rangeSize lo hi 1 := by rw [rangeSize_one]; split <;> omega
    show IsRangeIter _ _ (lo + ((0 : Nat) : Int) * 1) ((((hi - lo).toNat : Nat) : Int) - ((0 : Nat) : Int)) 1
    rw [e1, e2]
    exact Heap.get?_push_size _ rfl
  · have e : b = (s.heap.push { cls := .type "range", data := .fields #[.int lo t, .int hi u, .int 1 v] }).objs.size := by simpa using hb
    subst e
    exact I1.fpOk (Nat.le_refl _) (I1.hok.fresh (Nat.le_refl _))
def iRng1 (ta : TA) : TI := fun σ H R => ta σ H fun vs H1 => ∃ j : Int, vs = [.int j] ∧ -(2 ^ 62) ≤ j ∧ j < 2 ^ 62 ∧ R (Itr 0 j.toNat) H1
def iRng2 (ta : TA) : TI := fun σ H R => ta σ H fun vs H1 => ∃ i j : Int, vs = [.int i, .int j] ∧ (-(2 ^ 62) ≤ i ∧ i < 2 ^ 62 ∧ -(2 ^ 62) ≤ j ∧ j < 2 ^ 62) ∧ R (Itr i (j - i).toNat) H1
theorem pi_range1 {a : Expr} {ta : TA} {p pos : Pos} (hg : Gl X "range") (hm : X.mg "range" = none) (ha : PA X [a] ta) (hs : starEach [a] X.env = [(false, eval a X.env)] := by rfl) : PI X tg (.Call (.Name "range" p) [a] [] pos) (iRng1 ta) := by
  intro pins s σ H R I h
  refine Call_ (ld_blt I hg hm boot_range (PyProof.Rows.callWith_type1 (thn (ha pos pins s σ H _ I h) fun us s1 ⟨vs, H1, I1, r1, q1⟩ => ?_) hs rfl))
  obtain ⟨j, e, q1, q2, q⟩ := q1
  subst e
  cases r1 with
  | cons r rr =>
    cases rr
    obtain ⟨t, rfl⟩ := r
    exact call_range_1 (range_it I1 (by omega) (by omega) q1 q2 (by simpa using q))
theorem pi_range2 {a b : Expr} {ta : TA} {p pos : Pos} (hg : Gl X "range") (hm : X.mg "range" = none) (ha : PA X [a, b] ta) (hs : starEach [a, b] X.env = [(false, eval a X.env), (false, eval b X.env)] := by rfl) (hs2 : starEach [b] X.env = [(false, eval b X.env)] := by rfl) :
    PI X tg (.Call (.Name "range" p) [a, b] [] pos) (iRng2 ta) := by
  intro pins s σ H R I h
  refine Call_ (ld_blt I hg hm boot_range (PyProof.Rows.callWith_type1 (thn (ha pos pins s σ H _ I h) fun us s1 ⟨vs, H1, I1, r1, q1⟩ => ?_) (by rw [hs, hs2]) (by rw [hs2]; rfl)))
  obtain ⟨i, j, e, ⟨q1, q2, q3, q4⟩, q⟩ := q1
  subst e
  cases r1 with
  | cons r rr =>
    cases rr with
    | cons r' rr =>
      cases rr
      obtain ⟨t, rfl⟩ := r
      obtain ⟨t', rfl⟩ := r'
      exact call_range_2 (range_it I1 q1 q2 q3 q4 q)

/-! ### for -/
/-- W: the invariant by the turn and a measure; N: what the body is to reach -/
def tFor (wi : TI) (g : TG) (tb : TS) : TS := fun D σ H => wi σ H fun J H1 => ∃ W : Nat → Nat → St → Hp → Prop, (∃ m, W 0 m σ H1) ∧ ∀ i m σ H, W i m σ H →
  (J.stop i H ∧ D.nx σ H) ∨ (J.go i H ∧ ∃ N : St → Hp → Prop, (∀ σ' H', N σ' H' → ∃ m', m' < m ∧ W (i + 1) m' σ' H') ∧ ∀ x H', J.yld i H x H' → g x σ H' fun σ2 H2 => tb { D with nx := N, ct := N, bk := D.nx } σ2 H2)
/-- the records at fp as they stand -/
def pinsAt (fp : List Addr) (h : Heap) : List (Addr × Obj) := fp.filterMap fun b => (h.get? b).map fun o => (b, o)
theorem mem_pinsAt {fp : List Addr} {h : Heap} {b : Addr} {o : Obj} (hb : b ∈ fp) (e : h.get? b = some o) : (b, o) ∈ pinsAt fp h := List.mem_filterMap.mpr ⟨b, hb, by rw [e]; rfl⟩
theorem of_pinsAt {fp : List Addr} {h : Heap} {p : Addr × Obj} (hp : p ∈ pinsAt fp h) : p.1 ∈ fp ∧ h.get? p.1 = some p.2 := by
  obtain ⟨b, hb, e⟩ := List.mem_filterMap.mp hp
  cases q : h.get? b with
  | none => rw [q] at e; cases e
  | some o =>
    rw [q] at e
    have e' : (b, o) = p := Option.some.inj e
    subst e'
    exact ⟨hb, q⟩
theorem Inv.pinned {pins : List (Addr × Obj)} {σ : St} {H : Hp} {s : Shared} {fp : List Addr} (I : Inv X pins σ H s) (hf : ∀ b ∈ fp, FpOk X pins H b) (ho : ∀ b ∈ fp, ∃ o, s.heap.get? b = some o ∧ ∀ v, o.data ≠ .cell v) : Inv X (pins ++ pinsAt fp s.heap) σ H s :=
  I.pins_of fun p hp => (List.mem_append.mp hp).elim (fun z => I.pin p (List.mem_append_right _ z)) fun z => by
    obtain ⟨hb, e⟩ := of_pinsAt z
    obtain ⟨f0, f1, f2, _⟩ := hf p.1 hb
    obtain ⟨o, e', d⟩ := ho p.1 hb
    rw [e] at e'; cases e'
    exact ⟨e, f0, f1, f2, d⟩
theorem Inv.unpinned {pins pl : List (Addr × Obj)} {σ : St} {H : Hp} {s : Shared} (I : Inv X (pins ++ pl) σ H s) : Inv X pins σ H s := I.pins_of fun p hp => I.pin p (List.mem_append_right _ (List.mem_append_left _ hp))
theorem ps_for {iter : Expr} {body : List Stmt} {wi : TI} {g : TG} {tb : TS} {pos : Pos} (hp : PassesOwn (model X.prog X.w) X.A X.env X.xe) (hc : X.calm = true) (hi : PI X tg iter wi) (hg : PG X tg g) (hb : PSs X body tb)
    (hs : ∀ x, foldedSetIterable iter X.env x = pure x := by intro _; rfl) : PS X (.For tg iter body [] pos) (tFor wi g tb) := by
  intro pins s σ H D I h
  refine wpAny_For (thn (hi pins s σ H _ I h) fun v s1 h1 => thn h1 fun itv s2 h2 => ?_) hs
  obtain ⟨it, fp, tn, J, H2, e, I2, T, st2, f2, W, ⟨m0, w0⟩, turn⟩ := h2
  subst e
  -- what stays true of the iterator's objects through the loop
  have stat : ∀ {H' : Hp}, (∀ b ∈ fp, H' b = none) → ∀ b ∈ fp, FpOk X pins H' b := fun hn b hb => ⟨hn b hb, (f2 b hb).2⟩
  refine codeAny_forLoop_any (fun n s' => ∃ i σ' H', Inv X pins σ' H' s' ∧ tn i s'.heap ∧ (∀ b ∈ fp, H' b = none) ∧ W i n σ' H') ?_ m0 ⟨0, σ, H2, I2, st2, fun b hb => (f2 b hb).1, w0⟩
  rintro n s3 ⟨i, σ3, H3, I3, st3, fr3, w3⟩
  rcases turn i n σ3 H3 w3 with ⟨stop, qn⟩ | ⟨go, N, hN, step⟩
  · refine wpAny_passesOwn hp (thn (T.done X rfl rfl rfl hc i pins s3 σ3 H3 X.xe I3 (stat fr3) st3 stop) fun r s4 ⟨hr, I4⟩ => ?_)
    subst hr
    exact wpAny_execs_nil ⟨σ3, H3, I4, qn⟩
  · refine wpAny_passesOwn hp (thn (T.item X rfl rfl rfl hc i pins s3 σ3 H3 X.xe I3 (stat fr3) st3 go) fun r s4 ⟨u, hr, h4⟩ => ?_)
    subst hr
    refine wpAny_passesOwn hp (thn h4 fun _ s5 ⟨x, H5, I5, r5, y5, st5, fr5⟩ => ?_)
    have I5' := I5.pinned (stat fr5) (T.obj _ _ st5)
    refine wpAny_passesOwn hp (thn (hg _ s5 σ3 H5 x u _ I5' r5 (step x H5 y5)) fun _ s6 ⟨σ6, H6, I6, q6⟩ => ?_)
    refine wpAny_passesOwn hp (thn (hb _ s6 σ6 H6 _ I6 q6) fun f s7 q7 => ?_)
    have again : ∀ {σ7 : St} {H7 : Hp}, Inv X (pins ++ pinsAt fp s5.heap) σ7 H7 s7 → N σ7 H7 → ∃ m, m < n ∧ ∃ i σ' H', Inv X pins σ' H' s7 ∧ tn i s7.heap ∧ (∀ b ∈ fp, H' b = none) ∧ W i m σ' H' := fun {σ7 H7} I7 n7 => by
      obtain ⟨m', hm, w7⟩ := hN σ7 H7 n7
      refine ⟨m', hm, i + 1, σ7, H7, I7.unpinned, T.keep _ _ _ st5 fun b hb o e => (I7.pin (b, o) (List.mem_append_right _ (List.mem_append_right _ (mem_pinsAt hb e)))).1, fun b hb => ?_, w7⟩
      obtain ⟨o, e, d⟩ := T.obj _ _ st5 b hb
      exact (I7.pin (b, o) (List.mem_append_right _ (List.mem_append_right _ (mem_pinsAt hb e)))).2.1
    cases f with
    | next => obtain ⟨σ7, H7, I7, n7⟩ := q7; exact again I7 n7
    | cont => obtain ⟨σ7, H7, I7, n7⟩ := q7; exact again I7 n7
    | brk => obtain ⟨σ7, H7, I7, q7⟩ := q7; exact ⟨σ7, H7, I7.unpinned, q7⟩
    | ret v => obtain ⟨x7, σ7, H7, I7, r7, q7⟩ := q7; exact ⟨x7, σ7, H7, I7.unpinned, r7, q7⟩
end

/-! ### the forms one uses -/
/-- over a list that the body leaves as it is -/
theorem for_list {K : PySem.W.Frag} {a : Addr} {xs : List V} {g : TG} {tb : TS} {D : Ends} {σ : St} {H : Hp} (Pv : Nat → St → Hp → Prop) (h0 : Pv 0 σ H) (hl : ∀ i σ H, i ≤ xs.length → Pv i σ H → SqL K H a xs)
    (hs : ∀ i x σ H, xs[i]? = some x → Pv i σ H → g x σ H fun σ2 H2 => tb { D with nx := Pv (i + 1), ct := Pv (i + 1), bk := D.nx } σ2 H2) (hd : ∀ σ H, Pv xs.length σ H → D.nx σ H) :
    ∃ W : Nat → Nat → St → Hp → Prop, (∃ m, W 0 m σ H) ∧ ∀ i m σ H, W i m σ H →
      ((Itl K a).stop i H ∧ D.nx σ H) ∨ ((Itl K a).go i H ∧ ∃ N : St → Hp → Prop, (∀ σ' H', N σ' H' → ∃ m', m' < m ∧ W (i + 1) m' σ' H') ∧ ∀ x H', (Itl K a).yld i H x H' → g x σ H' fun σ2 H2 => tb { D with nx := N, ct := N, bk := D.nx } σ2 H2) := by
  refine ⟨fun i m σ H => m = xs.length - i ∧ i ≤ xs.length ∧ Pv i σ H, ⟨xs.length, by simp, Nat.zero_le _, h0⟩, ?_⟩
  rintro i m σ H ⟨rfl, hi, p⟩
  have q := hl i σ H hi p
  by_cases hlt : i < xs.length
  · refine .inr ⟨⟨xs, xs[i], q, by simp [hlt]⟩, Pv (i + 1), fun σ' H' p' => ⟨xs.length - (i + 1), by omega, rfl, hlt, p'⟩, fun x H' y => ?_⟩
    obtain ⟨e, y⟩ := y
    subst e
    exact hs i x σ _ (y xs q) p
  · have e : i = xs.length := by omega
    subst e
    exact .inl ⟨⟨xs, q, Nat.le_refl _⟩, hd σ H p⟩
theorem for_tup {K : PySem.W.Frag} {a : Addr} {xs : List V} {g : TG} {tb : TS} {D : Ends} {σ : St} {H : Hp} (Pv : Nat → St → Hp → Prop) (h0 : Pv 0 σ H) (hl : ∀ i σ H, i ≤ xs.length → Pv i σ H → SqT K H a xs)
    (hs : ∀ i x σ H, xs[i]? = some x → Pv i σ H → g x σ H fun σ2 H2 => tb { D with nx := Pv (i + 1), ct := Pv (i + 1), bk := D.nx } σ2 H2) (hd : ∀ σ H, Pv xs.length σ H → D.nx σ H) :
    ∃ W : Nat → Nat → St → Hp → Prop, (∃ m, W 0 m σ H) ∧ ∀ i m σ H, W i m σ H →
      ((Itt K a).stop i H ∧ D.nx σ H) ∨ ((Itt K a).go i H ∧ ∃ N : St → Hp → Prop, (∀ σ' H', N σ' H' → ∃ m', m' < m ∧ W (i + 1) m' σ' H') ∧ ∀ x H', (Itt K a).yld i H x H' → g x σ H' fun σ2 H2 => tb { D with nx := N, ct := N, bk := D.nx } σ2 H2) := by
  refine ⟨fun i m σ H => m = xs.length - i ∧ i ≤ xs.length ∧ Pv i σ H, ⟨xs.length, by simp, Nat.zero_le _, h0⟩, ?_⟩
  rintro i m σ H ⟨rfl, hi, p⟩
  have q := hl i σ H hi p
  by_cases hlt : i < xs.length
  · refine .inr ⟨⟨xs, xs[i], q, by simp [hlt]⟩, Pv (i + 1), fun σ' H' p' => ⟨xs.length - (i + 1), by omega, rfl, hlt, p'⟩, fun x H' y => ?_⟩
    obtain ⟨e, y⟩ := y
    subst e
    exact hs i x σ _ (y xs q) p
  · have e : i = xs.length := by omega
    subst e
    exact .inl ⟨⟨xs, q, Nat.le_refl _⟩, hd σ H p⟩
theorem for_range {lo : Int} {n : Nat} {g : TG} {tb : TS} {D : Ends} {σ : St} {H : Hp} (Pv : Nat → St → Hp → Prop) (h0 : Pv 0 σ H)
    (hs : ∀ i σ H, i < n → Pv i σ H → g (.int (lo + i)) σ H fun σ2 H2 => tb { D with nx := Pv (i + 1), ct := Pv (i + 1), bk := D.nx } σ2 H2) (hd : ∀ σ H, Pv n σ H → D.nx σ H) :
    ∃ W : Nat → Nat → St → Hp → Prop, (∃ m, W 0 m σ H) ∧ ∀ i m σ H, W i m σ H →
      ((Itr lo n).stop i H ∧ D.nx σ H) ∨ ((Itr lo n).go i H ∧ ∃ N : St → Hp → Prop, (∀ σ' H', N σ' H' → ∃ m', m' < m ∧ W (i + 1) m' σ' H') ∧ ∀ x H', (Itr lo n).yld i H x H' → g x σ H' fun σ2 H2 => tb { D with nx := N, ct := N, bk := D.nx } σ2 H2) := by
  refine ⟨fun i m σ H => m = n - i ∧ i ≤ n ∧ Pv i σ H, ⟨n, by simp, Nat.zero_le _, h0⟩, ?_⟩
  rintro i m σ H ⟨rfl, hi, p⟩
  by_cases hlt : i < n
  · refine .inr ⟨hlt, Pv (i + 1), fun σ' H' p' => ⟨n - (i + 1), by omega, rfl, hlt, p'⟩, fun x H' y => ?_⟩
    obtain ⟨e, y⟩ := y
    subst e y
    exact hs i σ _ hlt p
  · have e : i = n := by omega
    subst e
    exact .inl ⟨Nat.le_refl _, hd σ H p⟩
/-- while, by a word and a measure of the state -/
theorem while_by {c : TT} {tb : TS} {D : Ends} {σ : St} {H : Hp} (Pv : St → Hp → Prop) (μ : St → Hp → Nat) (h0 : Pv σ H)
    (hs : ∀ σ H, Pv σ H → c σ H fun b H1 => if b = true then tb { D with nx := fun σ' H' => Pv σ' H' ∧ μ σ' H' < μ σ H, ct := fun σ' H' => Pv σ' H' ∧ μ σ' H' < μ σ H, bk := D.nx } σ H1 else D.nx σ H1)
    (mono : ∀ σ H Q Q', (∀ b H1, Q b H1 → Q' b H1) → c σ H Q → c σ H Q') : tWhile c tb D σ H := by
  refine ⟨fun m σ H => m = μ σ H ∧ Pv σ H, ⟨_, rfl, h0⟩, ?_⟩
  rintro m σ H ⟨rfl, p⟩
  refine mono σ H _ _ (fun b H1 q => ?_) (hs σ H p)
  cases b with
  | true => exact ⟨_, fun σ' H' ⟨p', l⟩ => ⟨_, l, rfl, p'⟩, q⟩
  | false => exact q
end L2

namespace L2
open PySem PySem.Spec PyProof.Rows

abbrev R2 := V → V → Hp → VK → Prop
/-- a two-place operation on values: f is binaryOp op, inplaceOp op or compareOp op -/
def OpR (X : Cx) (f : Value → Value → Sem Value) (r : R2) : Prop :=
  ∀ (pins : List (Addr × Obj)) (s : Shared) (σ : St) (H : Hp) (x y : V) (v u : Value) (Q : VK), Inv X pins σ H s → RelV x v → RelV y u → r x y H Q →
    wpAny (model X.prog X.w) X.A (f v u) (EP X pins σ Q) X.xe s
/-- a one-place operation -/
def UnR (X : Cx) (f : Value → Sem Value) (r : V → Hp → VK → Prop) : Prop :=
  ∀ (pins : List (Addr × Obj)) (s : Shared) (σ : St) (H : Hp) (x : V) (v : Value) (Q : VK), Inv X pins σ H s → RelV x v → r x H Q →
    wpAny (model X.prog X.w) X.A (f v) (EP X pins σ Q) X.xe s
/-- a call of a value that is known (a builtin, a type) with values -/
def CallR (X : Cx) (f : Value) (r : List V → Hp → VK → Prop) : Prop :=
  ∀ (pins : List (Addr × Obj)) (s : Shared) (σ : St) (H : Hp) (xs : List V) (us : List Value) (Q : VK), Inv X pins σ H s → Vals xs us → r xs H Q →
    wpAny (model X.prog X.w) X.A (call f us) (EP X pins σ Q) X.xe s
/-- a value's truth -/
def TruR (X : Cx) (r : V → Hp → (Bool → Hp → Prop) → Prop) : Prop :=
  ∀ (pins : List (Addr × Obj)) (s : Shared) (σ : St) (H : Hp) (x : V) (v : Value) (Q : Bool → Hp → Prop), Inv X pins σ H s → RelV x v → r x H Q →
    wpAny (model X.prog X.w) X.A (truthy v) (TP X pins σ Q) X.xe s

def tOp (r : R2) (ta tb : TE) : TE := fun σ H Q => ta σ H fun x H1 => tb σ H1 fun y H2 => r x y H2 Q
def tUn (r : V → Hp → VK → Prop) (ta : TE) : TE := fun σ H Q => ta σ H fun x H1 => r x H1 Q
/-- ints in, under C, and a value out -/
def rI (C : Int → Int → Prop) (g : Int → Int → V) : R2 := fun x y H Q => ∃ i j, x = .int i ∧ y = .int j ∧ C i j ∧ Q (g i j) H
def rI0 (g : Int → Int → V) : R2 := fun x y H Q => ∃ i j, x = .int i ∧ y = .int j ∧ Q (g i j) H
def rU (g : Int → V) : V → Hp → VK → Prop := fun x H Q => ∃ i, x = .int i ∧ Q (g i) H

section
variable {X : Cx} {a b c : Expr} {ta tb tc : TE} {pos : Pos}

theorem binT (ha : PE X a ta) (hb : PE X b tb) {pins : List (Addr × Obj)} {s : Shared} {σ : St} {H : Hp} {R : V → V → Hp → Prop} (I : Inv X pins σ H s)
    (h : ta σ H fun x H1 => tb σ H1 fun y H2 => R x y H2) {Q : Value → Shared → Prop} {f : Value → Value → Sem Value}
    (hf : ∀ v u s2 x y H2, Inv X pins σ H2 s2 → RelV x v → RelV y u → R x y H2 → wpAny (model X.prog X.w) X.A (f v u) Q X.xe s2) :
    wpAny (model X.prog X.w) X.A (eval a X.env) (fun v s₁ => wpAny (model X.prog X.w) X.A (eval b X.env) (fun u s₂ => wpAny (model X.prog X.w) X.A (f v u) Q X.xe s₂) X.xe s₁) X.xe s := by
  refine thn (ha pins s σ H _ I h) fun v s1 ⟨x, H1, I1, r1, q1⟩ => ?_
  refine thn (hb pins s1 σ H1 _ I1 q1) fun u s2 ⟨y, H2, I2, r2, q2⟩ => ?_
  exact hf v u s2 x y H2 I2 r1 r2 q2

theorem pe_op {op : Operator} {r : R2} (ho : OpR X (binaryOp op) r) (ha : PE X a ta) (hb : PE X b tb) : PE X (.BinOp a op b pos) (tOp r ta tb) := by
  intro pins s σ H Q I h
  exact wpAny_BinOp (binT ha hb I h fun v u s2 x y H2 I2 rx ry q => ho pins s2 σ H2 x y v u Q I2 rx ry q)
theorem pe_un {op : UnaryOp} {r : V → Hp → VK → Prop} (ho : UnR X (unaryOp op) r) (ha : PE X a ta) : PE X (.UnaryOp op a pos) (tUn r ta) := by
  intro pins s σ H Q I h
  exact UnaryOp_ (thn (ha pins s σ H _ I h) fun v s1 ⟨x, H1, I1, r1, q1⟩ => ho pins s1 σ H1 x v Q I1 r1 q1)

/-! ### ints -/
theorem opI {f : Value → Value → Sem Value} {C : Int → Int → Prop} {g : Int → Int → Int}
    (rule : ∀ (i j : Int) (t u : Tok) (s : Shared) (Q : Value → Shared → Prop) (E : Value → Shared → Prop), C i j → Q (.int (g i j) s.toks) { s with toks := s.toks + 1 } → wpAny (model X.prog X.w) X.A (f (.int i t) (.int j u)) Q E s) :
    OpR X f (rI C fun i j => .int (g i j)) := by
  intro pins s σ H x y v u Q I rx ry h
  obtain ⟨i, j, rfl, rfl, hc, q⟩ := h
  obtain ⟨t, rfl⟩ := rx
  obtain ⟨t', rfl⟩ := ry
  exact rule i j t t' s _ _ hc ⟨.int (g i j), H, I.tok _, ⟨_, rfl⟩, q⟩
theorem opI0 {f : Value → Value → Sem Value} {g : Int → Int → Int}
    (rule : ∀ (i j : Int) (t u : Tok) (s : Shared) (Q : Value → Shared → Prop) (E : Value → Shared → Prop), Q (.int (g i j) s.toks) { s with toks := s.toks + 1 } → wpAny (model X.prog X.w) X.A (f (.int i t) (.int j u)) Q E s) :
    OpR X f (rI0 fun i j => .int (g i j)) := by
  intro pins s σ H x y v u Q I rx ry h
  obtain ⟨i, j, rfl, rfl, q⟩ := h
  obtain ⟨t, rfl⟩ := rx
  obtain ⟨t', rfl⟩ := ry
  exact rule i j t t' s _ _ ⟨.int (g i j), H, I.tok _, ⟨_, rfl⟩, q⟩
theorem opB0 {f : Value → Value → Sem Value} {g : Int → Int → Bool}
    (rule : ∀ (i j : Int) (t u : Tok) (s : Shared) (Q : Value → Shared → Prop) (E : Value → Shared → Prop), Q (.bool (g i j)) s → wpAny (model X.prog X.w) X.A (f (.int i t) (.int j u)) Q E s) :
    OpR X f (rI0 fun i j => .bl (g i j)) := by
  intro pins s σ H x y v u Q I rx ry h
  obtain ⟨i, j, rfl, rfl, q⟩ := h
  obtain ⟨t, rfl⟩ := rx
  obtain ⟨t', rfl⟩ := ry
  exact rule i j t t' s _ _ ⟨.bl (g i j), H, I, rfl, q⟩

def CDiv (i j : Int) : Prop := 0 < j ∧ j < 1073741824
def CPow (i j : Int) : Prop := 0 ≤ j ∧ j ≤ 1000000 ∧ i.natAbs < 2 ^ 64
def CMul (i j : Int) : Prop := (-(2 ^ 64) < i ∧ i < 2 ^ 64) ∨ (-(2 ^ 64) < j ∧ j < 2 ^ 64)
theorem CMul.ok {i j : Int} (h : CMul i j) : IntMulOk i j := by
  rcases h with ⟨h1, h2⟩ | ⟨h1, h2⟩
  · exact .of_left (intBits_le_64 h1 h2)
  · exact .of_right (intBits_le_64 h1 h2)

theorem op_add : OpR X (binaryOp .Add) (rI0 fun i j => .int (i + j)) := opI0 fun _ _ _ _ _ _ _ q => add_int q
theorem op_sub : OpR X (binaryOp .Sub) (rI0 fun i j => .int (i - j)) := opI0 fun _ _ _ _ _ _ _ q => sub_int q
theorem op_mul : OpR X (binaryOp .Mult) (rI CMul fun i j => .int (i * j)) := opI fun _ _ _ _ _ _ _ hc q => mul_int q hc.ok
/-- // by a positive divisor -/
theorem op_fdiv : OpR X (binaryOp .FloorDiv) (rI CDiv fun i j => .int (i / j)) := opI fun i j _ _ _ _ _ hc q => by
  have h1 : (0 : Int) < j := hc.1
  have h2 : j < 1073741824 := hc.2
  exact floordiv_int (by omega) (by rw [Int.fdiv_eq_ediv_of_nonneg i (by omega)]; exact q) (.inl (PyProof.noPylong_small (by omega)))
/-- % by a positive divisor of any size -/
theorem op_mod : OpR X (binaryOp .Mod) (rI (fun _ j => 0 < j) fun i j => .int (i % j)) := opI fun i j _ _ _ _ _ hc q => by
  have h1 : (0 : Int) < j := hc
  exact mod_int' (by omega) (by rw [Int.fmod_eq_emod_of_nonneg i (by omega)]; exact q)
theorem op_pow : OpR X (binaryOp .Pow) (rI CPow fun i j => .int (i ^ j.toNat)) := opI fun _ _ _ _ _ _ _ hc q => pow_int_small hc.1 hc.2.1 hc.2.2 q


theorem unI {f : Value → Sem Value} {g : Int → Int}
    (rule : ∀ (i : Int) (t : Tok) (s : Shared) (Q : Value → Shared → Prop) (E : Value → Shared → Prop), Q (.int (g i) s.toks) { s with toks := s.toks + 1 } → wpAny (model X.prog X.w) X.A (f (.int i t)) Q E s) :
    UnR X f (rU fun i => .int (g i)) := by
  intro pins s σ H x v Q I rx h
  obtain ⟨i, rfl, q⟩ := h
  obtain ⟨t, rfl⟩ := rx
  exact rule i t s _ _ ⟨.int (g i), H, I.tok _, ⟨_, rfl⟩, q⟩
theorem un_neg : UnR X (unaryOp .USub) (rU fun i => .int (-i)) := unI fun _ _ _ _ _ q => neg_int q

/-! ### bools among ints: n += (a < b) -/
end

/-! ### comparisons -/
/-- the scalars that == tells apart as data does -/
def scal : V → V → Bool
  | .non, .non => true | .non, .int _ => true | .int _, .non => true | .non, .bl _ => true | .bl _, .non => true | .non, .str _ => true | .str _, .non => true
  | .int _, .int _ => true | .bl _, .bl _ => true | .str _, .str _ => true | .byt _, .byt _ => true
  | .int _, .str _ => true | .str _, .int _ => true | .bl _, .str _ => true | .str _, .bl _ => true
  | _, _ => false
def rEq : R2 := fun x y H Q => scal x y = true ∧ Q (.bl (decide (x = y))) H
def rNe : R2 := fun x y H Q => scal x y = true ∧ Q (.bl (!decide (x = y))) H

theorem dec_int {i j : Int} : decide (V.int i = V.int j) = (i == j) := by
  rw [Bool.eq_iff_iff]
  simp
theorem dec_bl {i j : Bool} : decide (V.bl i = V.bl j) = (i == j) := by
  rw [Bool.eq_iff_iff]
  simp
theorem dec_str {i j : Str} : decide (V.str i = V.str j) = (i == j) := by
  rw [Bool.eq_iff_iff]
  simp
theorem dec_byt {i j : Array UInt8} : decide (V.byt i = V.byt j) = (i.toList == j.toList) := by
  rw [Bool.eq_iff_iff]
  cases i
  cases j
  simp

section
variable {X : Cx} {a b c : Expr} {ta tb tc : TE} {pos : Pos}
theorem fin_bl {pins : List (Addr × Obj)} {σ : St} {H : Hp} {s : Shared} {Q : VK} {k k' : Bool} (I : Inv X pins σ H s) (q : Q (.bl k) H) (e : k = k') : EP X pins σ Q (.bool k') s := by
  subst e
  exact ⟨.bl k, H, I, rfl, q⟩
theorem op_eq : OpR X (compareOp .Eq) rEq := by
  intro pins s σ H x y v u Q I rx ry h
  obtain ⟨hs, q⟩ := h
  cases x with
  | non =>
    cases rx
    cases y with
    | non => cases ry; exact PySem.EqNone.eq_none_none (fin_bl I q (by simp))
    | bl j => cases ry; exact PySem.EqNone.eq_none_bool (fin_bl I q (by simp))
    | int j => obtain ⟨t', rfl⟩ := ry; exact PySem.EqNone.eq_none_int (fin_bl I q (by simp))
    | str j => obtain ⟨t', rfl⟩ := ry; exact PySem.EqNone.eq_none_str (fin_bl I q (by simp))
    | _ => exact absurd (show false = true from hs) Bool.false_ne_true
  | bl i =>
    cases rx
    cases y with
    | non => cases ry; exact PySem.EqNone.eq_bool_none (fin_bl I q (by simp))
    | bl j => cases ry; exact eq_bool (fin_bl I q dec_bl)
    | str j => obtain ⟨t', rfl⟩ := ry; exact PySem.EqMixed.eq_bool_str (fin_bl I q (by simp))
    | _ => exact absurd (show false = true from hs) Bool.false_ne_true
  | int i =>
    obtain ⟨t, rfl⟩ := rx
    cases y with
    | non => cases ry; exact PySem.EqNone.eq_int_none (fin_bl I q (by simp))
    | int j => obtain ⟨t', rfl⟩ := ry; exact eq_int (fin_bl I q dec_int)
    | str j => obtain ⟨t', rfl⟩ := ry; exact PySem.EqMixed.eq_int_str (fin_bl I q (by simp))
    | _ => exact absurd (show false = true from hs) Bool.false_ne_true
  | str i =>
    obtain ⟨t, rfl⟩ := rx
    cases y with
    | non => cases ry; exact PySem.EqNone.eq_str_none (fin_bl I q (by simp))
    | bl j => cases ry; exact PySem.EqMixed.eq_str_bool (fin_bl I q (by simp))
    | int j => obtain ⟨t', rfl⟩ := ry; exact PySem.EqMixed.eq_str_int (fin_bl I q (by simp))
    | str j => obtain ⟨t', rfl⟩ := ry; exact eq_str (fin_bl I q dec_str)
    | _ => exact absurd (show false = true from hs) Bool.false_ne_true
  | byt i =>
    obtain ⟨t, rfl⟩ := rx
    cases y with
    | byt j => obtain ⟨t', rfl⟩ := ry; exact PySem.W.eq_bytes (fin_bl I q dec_byt)
    | _ => exact absurd (show false = true from hs) Bool.false_ne_true
  | _ => cases y <;> exact absurd (show false = true from hs) Bool.false_ne_true
theorem op_ne : OpR X (compareOp .NotEq) rNe := by
  intro pins s σ H x y v u Q I rx ry h
  obtain ⟨hs, q⟩ := h
  cases x with
  | non =>
    cases rx
    cases y with
    | non => cases ry; exact PySem.EqNone.ne_none_none (fin_bl I q (by simp))
    | bl j => cases ry; exact PySem.EqNone.ne_none_bool (fin_bl I q (by simp))
    | int j => obtain ⟨t', rfl⟩ := ry; exact PySem.EqNone.ne_none_int (fin_bl I q (by simp))
    | str j => obtain ⟨t', rfl⟩ := ry; exact PySem.EqNone.ne_none_str (fin_bl I q (by simp))
    | _ => exact absurd (show false = true from hs) Bool.false_ne_true
  | bl i =>
    cases rx
    cases y with
    | non => cases ry; exact PySem.EqNone.ne_bool_none (fin_bl I q (by simp))
    | bl j => cases ry; exact ne_bool (fin_bl I q (congrArg not dec_bl))
    | str j => obtain ⟨t', rfl⟩ := ry; exact PySem.EqMixed.ne_bool_str (fin_bl I q (by simp))
    | _ => exact absurd (show false = true from hs) Bool.false_ne_true
  | int i =>
    obtain ⟨t, rfl⟩ := rx
    cases y with
    | non => cases ry; exact PySem.EqNone.ne_int_none (fin_bl I q (by simp))
    | int j => obtain ⟨t', rfl⟩ := ry; exact ne_int (fin_bl I q (congrArg not dec_int))
    | str j => obtain ⟨t', rfl⟩ := ry; exact PySem.EqMixed.ne_int_str (fin_bl I q (by simp))
    | _ => exact absurd (show false = true from hs) Bool.false_ne_true
  | str i =>
    obtain ⟨t, rfl⟩ := rx
    cases y with
    | non => cases ry; exact PySem.EqNone.ne_str_none (fin_bl I q (by simp))
    | bl j => cases ry; exact PySem.EqMixed.ne_str_bool (fin_bl I q (by simp))
    | int j => obtain ⟨t', rfl⟩ := ry; exact PySem.EqMixed.ne_str_int (fin_bl I q (by simp))
    | str j => obtain ⟨t', rfl⟩ := ry; exact ne_str (fin_bl I q (congrArg not dec_str))
    | _ => exact absurd (show false = true from hs) Bool.false_ne_true
  | byt i =>
    obtain ⟨t, rfl⟩ := rx
    cases y with
    | byt j => obtain ⟨t', rfl⟩ := ry; exact PySem.W.ne_bytes (fin_bl I q (congrArg not dec_byt))
    | _ => exact absurd (show false = true from hs) Bool.false_ne_true
  | _ => cases y <;> exact absurd (show false = true from hs) Bool.false_ne_true

theorem op_lt : OpR X (compareOp .Lt) (rI0 fun i j => .bl (decide (i < j))) := opB0 fun _ _ _ _ _ _ _ q => lt_int q
theorem op_le : OpR X (compareOp .LtE) (rI0 fun i j => .bl (decide (i ≤ j))) := opB0 fun _ _ _ _ _ _ _ q => le_int q
theorem op_gt : OpR X (compareOp .Gt) (rI0 fun i j => .bl (decide (j < i))) := opB0 fun _ _ _ _ _ _ _ q => gt_int q
theorem op_ge : OpR X (compareOp .GtE) (rI0 fun i j => .bl (decide (j ≤ i))) := opB0 fun _ _ _ _ _ _ _ q => ge_int q




theorem nomark (b : Expr) {op : CmpOp} (h : op ≠ .In := by decide) (h2 : op ≠ .NotIn := by decide) : behindInMarks op b = false := by
  have e1 : (op == CmpOp.In) = false := by cases op <;> first | rfl | exact absurd rfl h
  have e2 : (op == CmpOp.NotIn) = false := by cases op <;> first | rfl | exact absurd rfl h2
  cases b <;> simp [behindInMarks, e1, e2]
/-- a comparison as a value; hm: nomark b, or (for in, not in) by with_unfolding_all rfl -/
theorem pe_cmpR {op : CmpOp} {r : R2} (ho : OpR X (compareOp op) r) (ha : PE X a ta) (hb : PE X b tb) (hm : behindInMarks op b = false) : PE X (.Compare a [op] [b] pos) (tOp r ta tb) := by
  intro pins s σ H Q I h
  exact wpAny_Compare1 (binT ha hb I h fun v u s2 x y H2 I2 rx ry q => ho pins s2 σ H2 x y v u Q I2 rx ry q) hm
/-- a reading of a value as a test -/
def tTest (t : TE) : TT := fun σ H Q => t σ H fun x H' => ∃ k, x = .bl k ∧ Q k H'
theorem pt_cmpR {op : CmpOp} {r : R2} (ho : OpR X (compareOp op) r) (ha : PE X a ta) (hb : PE X b tb) (hm : behindInMarks op b = false) : PT X (.Compare a [op] [b] pos) (tTest (tOp r ta tb)) := by
  intro pins s σ H Q I h
  refine wpAny_isTrue_Compare1 (thn (ha pins s σ H _ I h) fun v s1 ⟨x, H1, I1, r1, q1⟩ => thn (hb pins s1 σ H1 _ I1 q1) fun u s2 ⟨y, H2, I2, r2, q2⟩ =>
    thn (ho pins s2 σ H2 x y v u _ I2 r1 r2 q2) fun c s3 ⟨z, H3, I3, r3, k, e, q3⟩ => ?_) hm
  subst e
  cases r3
  exact wpAny_truthy_bool ⟨H3, I3, q3⟩
/-- a op1 b op2 c -/
def tChain (r r' : R2) (ta tb tc : TE) : TE := fun σ H Q => ta σ H fun x H1 => tb σ H1 fun y H2 => r x y H2 fun z H3 => ∃ k, z = .bl k ∧
  (if k = true then tc σ H3 fun w' H4 => r' y w' H4 Q else Q (.bl false) H3)
theorem pe_chain {op op' : CmpOp} {r r' : R2} (ho : OpR X (compareOp op) r) (ho' : OpR X (compareOp op') r') (ha : PE X a ta) (hb : PE X b tb) (hc : PE X c tc)
    (hm : lastMarks [op, op'] [b, c] = false := by with_unfolding_all rfl) : PE X (.Compare a [op, op'] [b, c] pos) (tChain r r' ta tb tc) := by
  intro pins s σ H Q I h
  refine Compare_chain (thn (ha pins s σ H _ I h) fun v s1 ⟨x, H1, I1, r1, q1⟩ => chain_link (thn (hb pins s1 σ H1 _ I1 q1) fun u s2 ⟨y, H2, I2, r2, q2⟩ =>
    thn (ho pins s2 σ H2 x y v u _ I2 r1 r2 q2) fun d s3 ⟨z, H3, I3, r3, k, e, q3⟩ => ?_)) hm
  subst e
  cases r3
  refine wpAny_truthy_bool ?_
  cases k with
  | false => exact ite_ff ⟨.bl false, H3, I3, rfl, q3⟩
  | true => exact ite_tt (chain_last (thn (hc pins s3 σ H3 _ I3 q3) fun w' s4 ⟨z', H4, I4, r4, q4⟩ => ho' pins s4 σ H4 y z' u w' Q I4 r2 r4 q4))

/-! ### truth -/
/-- a value's truth by the abstract heap -/
def TruV (K : PySem.W.Frag) (x : V) (H : Hp) (k : Bool) : Prop :=
  match x with
  | .non => k = false
  | .bl b => k = b
  | .int i => k = (i != 0)
  | .str y => y.length ≤ sizeLine ∧ k = ((y.length : Int) != 0)
  | .byt y => y.size ≤ sizeLine ∧ k = ((y.size : Int) != 0)
  | .ref p => (∃ xs, SqL K H p xs ∧ k = !xs.isEmpty) ∨ (∃ xs, SqT K H p xs ∧ k = !xs.isEmpty) ∨ ∃ kvs, H p = some (.dK kvs) ∧ k = !kvs.isEmpty
  | _ => False
theorem isEmpty_kv {κ : Type} {kvs : List (κ × V)} {vs : List (κ × Value)} (r : KV kvs vs) : (!vs.isEmpty) = !kvs.isEmpty := by
  cases r <;> rfl
theorem isEmpty_of {xs : List V} {its : List Value} (r : Vals xs its) : (!its.toArray.isEmpty) = !xs.isEmpty := by
  cases r <;> simp
theorem line63 : (sizeLine : Nat) < 2 ^ 63 := by rw [sizeLine_eq]; decide
theorem tru_ok : TruR X (fun x H Q => ∃ k, TruV X.K x H k ∧ Q k H) := by
  intro pins s σ H x v Q I rx h
  obtain ⟨k, e, q⟩ := h
  have hl := line63
  have hs : sizeLine = 16777216 := sizeLine_eq
  cases x with
  | non =>
    cases rx
    have e' : k = false := e
    subst e'
    exact truthy_none ⟨H, I, q⟩
  | bl b =>
    cases rx
    have e' : k = b := e
    subst e'
    exact wpAny_truthy_bool ⟨H, I, q⟩
  | int i =>
    obtain ⟨t, rfl⟩ := rx
    have e' : k = (i != 0) := e
    subst e'
    exact PySem.P.truthy_int ⟨H, I, q⟩
  | str y =>
    obtain ⟨t, rfl⟩ := rx
    obtain ⟨hy, e'⟩ : y.length ≤ sizeLine ∧ k = ((y.length : Int) != 0) := e
    subst e'
    exact PySem.P.truthy_str (by omega) ⟨H, I.tok _, q⟩
  | byt y =>
    obtain ⟨t, rfl⟩ := rx
    obtain ⟨hy, e'⟩ : y.size ≤ sizeLine ∧ k = ((y.size : Int) != 0) := e
    subst e'
    exact PySem.W.truthy_bytes (by omega) ⟨H, I.tok _, q⟩
  | ref p =>
    cases rx
    have e' : (∃ xs, SqL X.K H p xs ∧ k = !xs.isEmpty) ∨ (∃ xs, SqT X.K H p xs ∧ k = !xs.isEmpty) ∨ ∃ kvs, H p = some (.dK kvs) ∧ k = !kvs.isEmpty := e
    rcases e' with ⟨xs, hx, e'⟩ | ⟨xs, hx, e'⟩ | ⟨kvs, hx, e'⟩
    · subst e'
      obtain ⟨its, r, pl, hz⟩ := I.list hx
      have hlen := r.length
      exact wpAny_truthy_list pl.isList (by simp only [List.size_toArray]; omega) ⟨H, I.tok _, by rw [isEmpty_of r]; exact q⟩
    · subst e'
      obtain ⟨its, r, pl, hz⟩ := I.tuple hx
      have hlen := r.length
      exact truthy_tuple pl (by simp only [List.size_toArray]; omega) ⟨H, I.tok _, by rw [isEmpty_of r]; exact q⟩
    · subst e'
      obtain ⟨hz, hS, vs, r, m⟩ : kvs.length ≤ sizeLine ∧ (p == sysModules) = false ∧ ∃ vs, KV kvs vs ∧ s.heap.DictOf (mixKind X.prog X.w) p vs := I.hok p _ hx
      have hlen : kvs.length = vs.length := Paired.length r
      exact wpAny_truthy_dict hS m (by omega) ⟨H, I.tok _, by rw [isEmpty_kv r]; exact q⟩
  | _ => exact (show False from e).elim
/-- any expression whose test is its value's truth (a name, a call, a subscript, a field ..: he by fun _ => rfl) -/
theorem pt_truth (ha : PE X a ta) (he : ∀ whole, isTrue a X.env whole = (do let v ← whole; standAt a.pos; holding [v] (truthy v))) :
    PT X a (fun σ H Q => ta σ H fun x H' => ∃ k, TruV X.K x H' k ∧ Q k H') := by
  intro pins s σ H Q I h
  exact isTrue_plain (thn (ha pins s σ H _ I h) fun v s1 ⟨x, H1, I1, r1, q1⟩ => tru_ok pins s1 σ H1 x v Q I1 r1 q1) (he _)

/-! ### strs and bytes -/


/-! ### scalar builtins, by CallR -/
theorem vals1 {x : V} {us : List Value} (r : Vals [x] us) : ∃ u, us = [u] ∧ RelV x u := by
  cases r with
  | cons r1 r2 => cases r2; exact ⟨_, rfl, r1⟩
theorem vals2 {x y : V} {us : List Value} (r : Vals [x, y] us) : ∃ u w', us = [u, w'] ∧ RelV x u ∧ RelV y w' := by
  cases r with
  | cons r1 r2 =>
    cases r2 with
    | cons r3 r4 => cases r4; exact ⟨_, _, rfl, r1, r3⟩
theorem call_max2 (hc : X.calm = true) : CallR X (.builtin "max") (fun xs H Q => ∃ i j, xs = [.int i, .int j] ∧ Q (.int (if j > i then j else i)) H) := by
  intro pins s σ H xs us Q I r h
  obtain ⟨i, j, rfl, q⟩ := h
  obtain ⟨u, w', rfl, ⟨t, rfl⟩, ⟨t', rfl⟩⟩ := vals2 r
  refine max_two_ints (I.ok.hd hc) fun h' tk k => ⟨_, H, I.kept k, ?_, q⟩
  by_cases hj : j > i
  · rw [if_pos hj, if_pos hj]; exact ⟨_, rfl⟩
  · rw [if_neg hj, if_neg hj]; exact ⟨_, rfl⟩
end
end L2

namespace L2
open PySem PySem.Spec PyProof.Rows

/-! ### an instance, its attributes a map -/
structure ObjM (h : Heap) (x dx C : Addr) (mA : Str → Option Value) : Prop where
  obj : h.get? x = some (PySem.W.instObj C dx)
  ns : h.Ns1 dx mA
  ne : dx ≠ x

theorem lookIn_ns {h : Heap} {dx : Addr} {mA : Str → Option Value} (n : h.Ns1 dx mA) : ∃ od, h.get? dx = some od ∧ ∀ name, PySem.W.lookIn name od = some (mA name) := by
  obtain ⟨o, es, ep, ho, hd, hk, _, hm⟩ := n
  refine ⟨o, ho, fun name => ?_⟩
  have e := hm name
  unfold nsFind findBy at e
  rw [← Array.find?_toList] at e
  unfold PySem.W.lookIn
  rw [hd]
  dsimp only
  split
  · rename_i y q
    rw [q] at e
    exact congrArg some e
  · rename_i q
    rw [q] at e
    have a : es.toList.any (·.refKey) = false := by
      rw [List.any_eq_false]
      intro y hy
      obtain ⟨z, t, hkey⟩ := hk y (Array.mem_toList_iff.mp hy)
      simp [DictEntry.refKey, hkey]
    have a' : ¬ es.toList.any (·.refKey) = true := by rw [a]; exact Bool.false_ne_true
    rw [if_neg a']
    exact congrArg some e

theorem ObjM.look {h : Heap} {x dx C : Addr} {mA : Str → Option Value} (I : ObjM h x dx C mA) : ∃ od, PySem.W.InstAt h x (PySem.W.instObj C dx) C (some od) ∧ ∀ name, PySem.W.lookIn name od = some (mA name) :=
  let ⟨od, ho, hl⟩ := lookIn_ns I.ns
  ⟨od, ⟨I.obj, rfl, rfl, ho⟩, hl⟩

section
variable {prog : Program} {w : World} {A : Around} {E : Value → Shared → Prop} {s : Shared} {K : PySem.W.Frag} {x dx C f : Addr} {mA : Str → Option Value} {name : Str} {v : Value}





end

/-! ### the attributes as a list of pairs -/


section
variable {P : Program} {w : World} {H H' : Hp} {h h' : Heap} {a C dx : Addr} {fs fs' : List (Str × V)}
theorem ins_get (hok : HOk P w H h) (e : H a = some (.ins C dx fs)) : ∃ mA, ObjM h a dx C mA ∧ (∀ f, RelO (fs.lookup f) (mA f)) ∧ PySem.Within mA (fs.map (·.1)) ∧ fs.length ≤ 1000 ∧ H dx = some (.own a) := by
  obtain ⟨d, z, ne, ob, mA, n, r, q⟩ := (show ObjOk P w H h a (.ins C dx fs) from hok a _ e)
  exact ⟨mA, ⟨ob, n, ne⟩, r, q, z, d⟩
end

/-! ### what of the text a class must have -/
structure Cls (K : PySem.W.Frag) (C : Addr) : Prop where
  pg : PySem.W.plainGet K C Str.empty = true
  hd : PySem.W.hasDictIn K C = true
  po : PySem.W.plainOver K C = true
  sa : PySem.W.findIn K (.ref C) "__setattr__" = some (some (.builtin "object.__setattr__"))
theorem Cls.get {K : PySem.W.Frag} {C : Addr} (c : Cls K C) (f : Str) : PySem.W.plainGet K C f = true := c.pg

section
variable {X : Cx} {pins : List (Addr × Obj)} {σ : St} {H : Hp} {s : Shared} {a C dx : Addr} {fs : List (Str × V)} {f : Str} {v : V} {A : Around} {E : Value → Shared → Prop}






end

/-! ### readings and rules -/

section
variable {X : Cx} {o e value : Expr} {f : Str} {pos pos' tpos : Pos} {ta tv : TE}

end

/-! ### isinstance -/
section
variable {X : Cx} {pins : List (Addr × Obj)} {σ : St} {H : Hp} {s : Shared} {A : Around} {E : Value → Shared → Prop} {Q : Value → Shared → Prop} {c : Value} {b : Bool}
/-- the type of a value, as the fragment's deciders take it; for an instance its class -/
inductive TyOf (K : PySem.W.Frag) (H : Hp) : V → Value → Prop where
  | non : TyOf K H .non (.type "NoneType")
  | bl (x : Bool) : TyOf K H (.bl x) (.type "bool")
  | int (i : Int) : TyOf K H (.int i) (.type "int")
  | str (x : Str) : TyOf K H (.str x) (.type "str")
  | flt (x : UInt64) : TyOf K H (.flt x) (.type "float")
  | lst {a : Addr} {xs : List V} (e : H a = some (.lst xs)) : TyOf K H (.ref a) (.type "list")
  | frz {a : Addr} {o : Obj} {xs : List V} (e : H a = some (.frz o (.lst xs))) : TyOf K H (.ref a) (.type "list")
  | tup {a : Addr} {xs : List V} (e : H a = some (.tup xs)) : TyOf K H (.ref a) (.type "tuple")
  | dK {a : Addr} {kvs : List (Key × V)} (e : H a = some (.dK kvs)) : TyOf K H (.ref a) (.type "dict")
  | dT {a : Addr} {kvs : List (List Key × V)} (e : H a = some (.dT kvs)) : TyOf K H (.ref a) (.type "dict")
  | ins {a C dx : Addr} {fs : List (Str × V)} (e : H a = some (.ins C dx fs)) (cl : Cls K C) (ha : PySem.W.findIn K (.ref C) "__class__" = some (some (.builtin "object.__class__")))
      (hn : PySem.W.specialIn K (.builtin "object.__class__") "__get__" = some (some (.builtin "getset_descriptor.__get__"))) (htk : PySem.W.takesIn K (.builtin "object.__class__") = some true)
      (hm : PySem.W.mroIn K C (.type "object") = some true) : TyOf K H (.ref a) (.ref C)
/-- isinstance(x, c) for one class c, a built-in or an own one: kitOne's answer -/
theorem isinst_ok {x : V} {u t : Value} (I : Inv X pins σ H s) (rx : RelV x u) (ty : TyOf X.K H x t) (e : PySem.W.kitOne X.K t c = some b) (h : ∀ tk, Q (.bool b) { s with toks := tk }) :
    wpAny (model X.prog X.w) A (call (.builtin "isinstance") [u, c]) Q E s := by
  cases ty with
  | non => cases (show u = Value.none from rx); exact PySem.W.kia_one PySem.W.kitx_none I.kIn True.intro e (fun z => nomatch z) h
  | bl y => cases (show u = Value.bool y from rx); exact PySem.W.kia_one PySem.W.kitx_bool I.kIn True.intro e (fun z => nomatch z) h
  | int i => obtain ⟨t, q⟩ := (show ∃ t, u = Value.int i t from rx); cases q; exact PySem.W.kia_one PySem.W.kitx_int I.kIn True.intro e (fun z => nomatch z) h
  | str y => obtain ⟨t, q⟩ := (show ∃ t, u = Value.str y t from rx); cases q; exact PySem.W.kia_one PySem.W.kitx_str I.kIn True.intro e (fun z => nomatch z) h
  | flt y => obtain ⟨t, q⟩ := (show ∃ t, u = Value.float y t from rx); cases q; exact PySem.W.kia_one PySem.W.kitx_float I.kIn True.intro e (fun z => nomatch z) h
  | @lst a xs ea =>
    cases (show u = Value.ref a from rx)
    obtain ⟨_, _, n, _, h1⟩ := (show ObjOk X.prog X.w H s.heap a (.lst xs) from I.hok a _ ea)
    exact PySem.W.kia_one PySem.W.kitx_list I.kIn ⟨_, h1, rfl⟩ e (fun z => nomatch z) h
  | @frz a ob xs ea =>
    cases (show u = Value.ref a from rx)
    obtain ⟨_, _, _, n, _, h1⟩ := (show ObjOk X.prog X.w H s.heap a (.frz ob (.lst xs)) from I.hok a _ ea)
    exact PySem.W.kia_one PySem.W.kitx_list I.kIn ⟨_, h1, rfl⟩ e (fun z => nomatch z) h
  | @tup a xs ea =>
    cases (show u = Value.ref a from rx)
    obtain ⟨_, _, _, p⟩ := (show ObjOk X.prog X.w H s.heap a (.tup xs) from I.hok a _ ea)
    obtain ⟨o, h1, h2, _⟩ := p
    exact PySem.W.kia_one PySem.W.kitx_tuple I.kIn ⟨o, h1, h2⟩ e (fun z => nomatch z) h
  | @dK a kvs ea =>
    cases (show u = Value.ref a from rx)
    obtain ⟨_, _, vs, _, p⟩ := (show ObjOk X.prog X.w H s.heap a (.dK kvs) from I.hok a _ ea)
    obtain ⟨o, es, ep, h1, h2, _⟩ := p
    exact PySem.W.kia_one PySem.W.kitx_dict I.kIn ⟨o, h1, h2.1⟩ e (fun z => nomatch z) h
  | @dT a kvs ea =>
    cases (show u = Value.ref a from rx)
    obtain ⟨_, _, xs, _, o, es, ep, h1, h2, _⟩ := (show ObjOk X.prog X.w H s.heap a (.dT kvs) from I.hok a _ ea)
    exact PySem.W.kia_one PySem.W.kitx_dict I.kIn ⟨o, h1, h2.1⟩ e (fun z => nomatch z) h
  | @ins a C dx fs ea cl ha hn htk hm =>
    cases (show u = Value.ref a from rx)
    obtain ⟨mA, O, _⟩ := ins_get I.hok ea
    obtain ⟨od, J, _⟩ := O.look
    exact PySem.W.kia_one (PySem.W.kitx_own (cl.get _) cl.hd ha hn htk hm) I.kIn J e (fun z => nomatch z) h
end
end L2

namespace L2
open PySem PySem.Spec PyProof.Rows

/-! ### room -/
structure Room (k : Nat) (A : Around) : Prop where
  hd : A.handled = none
  dp : A.depth + 3 * k + 5 < recursionLimit
  un : A.units + 16 * k + 200 < cLine
theorem Room.mono {j k : Nat} {A : Around} (r : Room k A) (h : j ≤ k) : Room j A := ⟨r.hd, by have := r.dp; omega, by have := r.un; omega⟩
theorem Room.deeper {k : Nat} {A : Around} (r : Room (k + 1) A) (env : Env) : Room k (A.deeper env) :=
  ⟨r.hd, by have := r.dp; show A.depth + 1 + 3 * k + 5 < _; omega, by have := r.un; show A.units + 3 + 16 * k + 200 < _; omega⟩
theorem Room.depth {k : Nat} {A : Around} (r : Room k A) : A.depth < recursionLimit := by have := r.dp; omega
theorem Room.units {k : Nat} {A : Around} (r : Room k A) : A.units + 64 < cLine := by have := r.un; omega

/-! ### argument lists and displays -/
def tNil : TA := fun _ H Q => Q [] H
def tCons (ta : TE) (tr : TA) : TA := fun σ H Q => ta σ H fun x H1 => tr σ H1 fun xs H2 => Q (x :: xs) H2
section
variable {X : Cx} {e : Expr} {es : List Expr} {te : TE} {t : TA} {pos : Pos}
theorem pa_nil : PA X [] tNil := fun _ _ _ _ H Q I h => Calls.spliced_nil ⟨[], H, I, .nil, h⟩
theorem pa_cons (ha : PE X e te) (hr : PA X es t) (hs : starEach (e :: es) X.env = (false, eval e X.env) :: starEach es X.env := by rfl) : PA X (e :: es) (tCons te t) := by
  intro pos pins s σ H Q I h
  rw [hs]
  show wpAny _ _ (spliced ((false, eval e X.env) :: backTo pos (starEach es X.env))) _ _ s
  refine Calls.spliced_cons (thn (ha pins s σ H _ I h) fun u s1 ⟨x, H1, I1, r1, q1⟩ => ?_)
  exact thn (hr pos pins s1 σ H1 _ I1 q1) fun us s2 ⟨xs, H2, I2, r2, q2⟩ => ⟨x :: xs, H2, I2, .cons r1 r2, q2⟩

/-- a tuple, a list of written items -/
def tTup (t : TA) : TE := fun σ H Q => t σ H fun xs H1 => xs.length ≤ sizeLine ∧ ∀ p, H1 p = none → Q (.ref p) (upd H1 p (.tup xs))
def tLst (t : TA) : TE := fun σ H Q => t σ H fun xs H1 => xs.length ≤ sizeLine ∧ ∀ p, H1 p = none → Q (.ref p) (upd H1 p (.lst xs))
theorem pe_tup {x1} (h : PA X es t) : PE X (.Tuple es x1 pos) (tTup t) := by
  intro pins s σ H Q I hq
  refine wpAny_Tuple_spliced (thn (h pos pins s σ H _ I hq) fun us s1 ⟨xs, H1, I1, r, z, q⟩ => ⟨by rw [← r.length]; exact z, ?_⟩)
  have hf : H1 s1.heap.objs.size = none := I1.hok.fresh (Nat.le_refl _)
  refine ⟨.ref s1.heap.objs.size, upd H1 s1.heap.objs.size (.tup xs), I1.laid (t' := s1.toks) (fun b u e => Heap.get?_push_of_some _ e) (Nat.le_refl _) ?_, rfl, q _ hf⟩
  exact ⟨z, us, r, ⟨_, Heap.get?_push_size _ rfl, rfl, _, rfl⟩⟩
theorem pe_lst (h : PA X es t) : PE X (.List es pos) (tLst t) := by
  intro pins s σ H Q I hq
  refine wpAny_List_spliced (thn (h pos pins s σ H _ I hq) fun us s1 ⟨xs, H1, I1, r, z, q⟩ => ⟨by rw [← r.length]; exact z, ?_⟩)
  have hf : H1 s1.heap.objs.size = none := I1.hok.fresh (Nat.le_refl _)
  refine ⟨.ref s1.heap.objs.size, upd H1 s1.heap.objs.size (.lst xs), I1.laid (t' := s1.toks) (fun b u e => Heap.get?_push_of_some _ e) (Nat.le_refl _) ?_, rfl, q _ hf⟩
  exact ⟨z, us, 0, r, Heap.get?_push_size _ rfl⟩
end

/-! ### what a def promises -/
/-- a def's promise: the bound arguments in the parameters' order, the heap, the wanted end, the wanted exception -/
abbrev Sp := List V → Hp → VK → XK → Prop
/-- how an exception lies behind a call (file 08 gives it): the callers' frames, abstract heap and state ahead of the call, the wish, the exception, the state -/
abbrev CXT := List Env → Hp → Shared → XK → Value → Shared → Prop

/-- the state at a call -/
structure Env0 (P : Program) (w : World) (K : PySem.W.Frag) (mg : Str → Option Value) (base : Heap) (A : Around) (outer : List Env) (s : Shared) (H : Hp) : Prop where
  frames : A.frames = some outer
  mod : Mod K mg base
  bs : ∀ b o, base.get? b = some o → s.heap.get? b = some o ∧ H b = none
  bsz : base.objs.size ≤ s.heap.objs.size
  funs : s.heap.FunFrames base outer
  frf : ∀ b ∈ frs outer, H b = none
  hok : HOk P w H s.heap
  bare : AllBare s.gens
/-- a call's end -/
def CE (outer : List Env) (P : Program) (w : World) (H : Hp) (s : Shared) (Q : VK) (u : Value) (s' : Shared) : Prop :=
  ∃ v H', s'.os = s.os ∧ AllBare s'.gens ∧ Un (frs outer) [] H H' s.heap s'.heap ∧ HOk P w H' s'.heap ∧ RelV v u ∧ Q v H'
def CR (CX : CXT) (outer : List Env) (P : Program) (w : World) (H : Hp) (s : Shared) (Q : VK) (E : XK) (r : Result) (s' : Shared) : Prop :=
  match r with
  | .ok (.ret u) => CE outer P w H s Q u s'
  | .ok _ => False
  | .error e => CX outer H s E e s'
structure FnOk (P : Program) (w : World) (K : PySem.W.Frag) (mg : Str → Option Value) (base : Heap) (CX : CXT) (k : Nat) (f : Addr) (fd : FuncData) (ps : List Str) (sp : Sp) : Prop where
  len : ∀ vs H Q E, sp vs H Q E → vs.length = ps.length
  run : ∀ (A : Around) (outer : List Env) (s : Shared) (H : Hp) (args : Args) (us : List Value) (vs : List V) (Q : VK) (E : XK), Room k A → Env0 P w K mg base A outer s H → BindsTo s fd args (ps.zip us) → Vals vs us → sp vs H Q E →
    codeAny (model P w) A (.call (.ref f) args) (CR CX outer P w H s Q E) s
theorem FnOk.mono {P : Program} {w : World} {K : PySem.W.Frag} {mg : Str → Option Value} {base : Heap} {CX : CXT} {j k : Nat} {f : Addr} {fd : FuncData} {ps : List Str} {sp : Sp} (F : FnOk P w K mg base CX j f fd ps sp) (h : j ≤ k) :
    FnOk P w K mg base CX k f fd ps sp := ⟨F.len, fun A outer s H args us vs Q E hr => F.run A outer s H args us vs Q E (hr.mono h)⟩
/-- a weaker promise -/
theorem FnOk.imp {P : Program} {w : World} {K : PySem.W.Frag} {mg : Str → Option Value} {base : Heap} {CX : CXT} {k : Nat} {f : Addr} {fd : FuncData} {ps : List Str} {sp sp' : Sp} (F : FnOk P w K mg base CX k f fd ps sp)
    (h : ∀ vs H Q E, sp' vs H Q E → sp vs H Q E) : FnOk P w K mg base CX k f fd ps sp' :=
  ⟨fun vs H Q E q => F.len vs H Q E (h _ _ _ _ q), fun A outer s H args us vs Q E hr he hb hv hs => F.run A outer s H args us vs Q E hr he hb hv (h _ _ _ _ hs)⟩


section
variable {X : Cx} {pins : List (Addr × Obj)} {σ : St} {H : Hp} {s s' : Shared}
/-- from a body: what a callee wants -/
theorem Inv.env0 (I : Inv X pins σ H s) : Env0 X.prog X.w X.K X.mg X.base X.A X.stack s H :=
  ⟨I.ok.frames, I.ok.mod, I.bs, Nat.le_trans I.ok.bsz I.sz, I.stack, I.stkFree, I.hok, I.bare⟩
/-- behind a call -/
theorem Inv.after {Q : VK} {u : Value} (I : Inv X pins σ H s) (h : CE X.stack X.prog X.w H s Q u s') : EP X pins σ Q u s' := by
  obtain ⟨v, H', os, bare, un, hok, r, q⟩ := h
  obtain ⟨hh, g, d, t, os'⟩ := s'
  obtain rfl : os' = s.os := os
  exact ⟨v, H', I.call (h' := hh) (g' := g) (d' := d) (t' := t) (ch := []) un hok bare (fun b z => absurd z (by simp)), r, q⟩
end

/-! ### calls -/
/-- f(..): the written arguments, then the defaults dvs; E: what is wanted of an exception -/
def tCall (sp : Sp) (dvs : List V) (E : XK) (t : TA) : TE := fun σ H Q => t σ H fun vs H1 => sp (vs ++ dvs) H1 Q E

/-- how the parameters are bound: us the positional arguments, kw the keywords' values by name, ds the defaults that fill up -/
def Binds (K : PySem.W.Frag) (fd : FuncData) (ps : List Str) (ds : List Value) : Prop :=
  ∀ (s : Shared) (us : List Value), K.In s.heap → (us ++ ds).length = ps.length → BindsTo s fd ⟨us, []⟩ (ps.zip (us ++ ds))
/-- every parameter is given -/
theorem Binds.all {K : PySem.W.Frag} {fd : FuncData} {ps : List Str} (h : ∀ us : List Value, us.length = ps.length → bindArgs fd ⟨us, []⟩ = pure (ps.zip us)) : Binds K fd ps [] := fun s us _ hl => by
  rw [List.append_nil] at hl ⊢
  exact .of_eq (h us hl)

/-- an exception of a callee reaches what this body wants of exceptions -/
def Passes (CX : CXT) (X : Cx) (E : XK) : Prop := ∀ (pins : List (Addr × Obj)) (σ : St) (H : Hp) (s : Shared) (e : Value) (s' : Shared), Inv X pins σ H s → CX X.stack H s E e s' → X.xe e s'

section
variable {X : Cx} {CX : CXT} {k : Nat} {f C : Addr} {fd : FuncData} {ps : List Str} {sp : Sp} {dvs : List V} {ds : List Value} {E : XK} {x m : Str} {p pos apos : Pos} {e o : Expr} {es : List Expr} {ta : TE} {t : TA}

/-- the callee runs -/
theorem run_fn {pins : List (Addr × Obj)} {σ : St} {H : Hp} {s : Shared} {Q : VK} {us : List Value} {vs : List V} (F : FnOk X.prog X.w X.K X.mg X.base CX k f fd ps sp) (hr : Room k X.A) (hb : Binds X.K fd ps ds) (hd : Vals dvs ds) (hx : Passes CX X E)
    (I : Inv X pins σ H s) (r : Vals vs us) (h : sp (vs ++ dvs) H Q E) : wpAny (model X.prog X.w) X.A (call (.ref f) us) (EP X pins σ Q) X.xe s := by
  have r2 : Vals (vs ++ dvs) (us ++ ds) := r.append hd
  have hl : (us ++ ds).length = ps.length := by rw [← r2.length]; exact F.len _ _ _ _ h
  refine wpAny_call (codeAny_mono (F.run X.A X.stack s H ⟨us, []⟩ (us ++ ds) (vs ++ dvs) Q E hr I.env0 (hb s us I.kIn hl) r2 h) fun r s' hq => ?_)
  cases r with
  | error e => exact hx pins σ H s e s' I hq
  | ok fl =>
    cases fl with
    | ret u => exact I.after hq
    | next => exact False.elim hq
    | brk => exact False.elim hq
    | cont => exact False.elim hq

theorem pe_call (F : FnOk X.prog X.w X.K X.mg X.base CX k f fd ps sp) (hr : Room k X.A) (hg : Gl X x) (hm : X.mg x = some (.ref f)) (hk : PySem.W.keepIn X.K (.ref f) = true) (hb : Binds X.K fd ps ds) (hd : Vals dvs ds) (hx : Passes CX X E)
    (ha : PA X (e :: es) t) (hdb : (x == ("__debug__" : Str)) = false := by decide) (he : starEach (e :: es) X.env = (false, eval e X.env) :: starEach es X.env := by rfl) (hpl : (backTo pos (starEach es X.env)).any (·.1) = false := by rfl) :
    PE X (.Call (.Name x p) (e :: es) [] pos) (tCall sp dvs E t) := by
  intro pins s σ H Q I h
  refine wpAny_Call_Name_kw (ld_glob I hg hm ?_ hdb)
  refine PySem.W.callWith_K (h₀ := X.base) I.ok.mod.kin hk (thn (ha pos pins s σ H _ I h) fun us s1 ⟨vs, H1, I1, r, q⟩ => ⟨I1.kIn, ?_⟩) he hpl
  exact run_fn F hr hb hd hx I1 r q



end

/-! ### keywords -/
section
variable {X : Cx} {CX : CXT} {k : Nat} {f C : Addr} {fd : FuncData} {ps ks : List Str} {sp : Sp} {E : XK} {x m : Str} {p pos apos kpos : Pos} {e o : Expr} {es : List Expr} {kws : List Keyword} {te ta : TE} {t tk : TA} {nm : Option Str}

variable {g : List Value → List Value → List Value} {gV : List V → List V → List V}
end

/-! ### a def's body keeps its promise -/
/-- names: the parameters first -/
structure FnScope (N P : List Str) (sc : Scope) : Prop where
  kind : sc.kind = .function
  co : sc.isCoroutine = false
  gen : sc.isGenerator = false
  nd : N.Nodup
  pre : N.take P.length = P
  par : ∀ x ∈ P, sc.names.lookup x = some .local ∨ sc.names.lookup x = some .cell
  nofree : ∀ y ∈ sc.names, y.2 ≠ .free

theorem bindL_out {kindOf : Str → Option NameKind} {x : Str} : ∀ {binds : List (Str × Value)} {m : Str → Option Value}, (∀ v, (x, v) ∉ binds) → bindL kindOf binds m x = m x
  | [], _, _ => rfl
  | (n, v) :: r, m, h => by
    unfold bindL
    rw [bindL_out fun w hw => h w (List.mem_cons_of_mem _ hw)]
    split
    · have : x ≠ n := by rintro rfl; exact h v List.mem_cons_self
      simp [this]
    · rfl
theorem bindC_out {kindOf : Str → Option NameKind} {x : Str} : ∀ {binds : List (Str × Value)} {m : Str → Option Value}, (∀ v, (x, v) ∉ binds) → bindC kindOf binds m x = m x
  | [], _, _ => rfl
  | (n, v) :: r, m, h => by
    unfold bindC
    rw [bindC_out fun w hw => h w (List.mem_cons_of_mem _ hw)]
    split
    · rfl
    · have : x ≠ n := by rintro rfl; exact h v List.mem_cons_self
      simp [this]
theorem bindL_get {kindOf : Str → Option NameKind} {x : Str} {v : Value} : ∀ {P : List Str} {vs : List Value} {i : Nat} {m : Str → Option Value}, P.Nodup → P[i]? = some x → vs[i]? = some v → kindOf x = some .local →
    bindL kindOf (P.zip vs) m x = some v
  | [], _, _, _, _, h, _, _ => by simp at h
  | _ :: _, [], _, _, _, _, h, _ => by simp at h
  | p :: P, w :: vs, 0, m, nd, h1, h2, hk => by
    simp at h1 h2; subst h1; subst h2
    show bindL kindOf ((p, w) :: P.zip vs) m p = _
    unfold bindL
    rw [bindL_out fun v hv => (List.nodup_cons.mp nd).1 (List.of_mem_zip hv).1, if_pos hk]
    simp
  | p :: P, w :: vs, i + 1, m, nd, h1, h2, hk => by
    show bindL kindOf ((p, w) :: P.zip vs) m x = _
    unfold bindL
    exact bindL_get (i := i) (List.nodup_cons.mp nd).2 (by simpa using h1) (by simpa using h2) hk
theorem bindC_get {kindOf : Str → Option NameKind} {x : Str} {v : Value} : ∀ {P : List Str} {vs : List Value} {i : Nat} {m : Str → Option Value}, P.Nodup → P[i]? = some x → vs[i]? = some v → kindOf x ≠ some .local →
    bindC kindOf (P.zip vs) m x = some v
  | [], _, _, _, _, h, _, _ => by simp at h
  | _ :: _, [], _, _, _, _, h, _ => by simp at h
  | p :: P, w :: vs, 0, m, nd, h1, h2, hk => by
    simp at h1 h2; subst h1; subst h2
    show bindC kindOf ((p, w) :: P.zip vs) m p = _
    unfold bindC
    rw [bindC_out fun v hv => (List.nodup_cons.mp nd).1 (List.of_mem_zip hv).1, if_neg hk]
    simp
  | p :: P, w :: vs, i + 1, m, nd, h1, h2, hk => by
    show bindC kindOf ((p, w) :: P.zip vs) m x = _
    unfold bindC
    exact bindC_get (i := i) (List.nodup_cons.mp nd).2 (by simpa using h1) (by simpa using h2) hk

/-- the names' values at the entry -/
def start (N : List Str) (vs : List V) : St := vs.map some ++ List.replicate (N.length - vs.length) none

/-- the context of a def's body, at its entry; an exception leaves the frame, then lies as CX says -/
def cxOf (CX : CXT) (P : Program) (w : World) (K : PySem.W.Frag) (mg : Str → Option Value) (base : Heap) (N : List Str) (qual : Str) (scope : Scope) (f : Addr) (cd : Value) (A : Around) (outer : List Env) (s : Shared) (H : Hp) (E : XK) : Cx where
  prog := P
  w := w
  K := K
  mg := mg
  base := base
  A := A.deeper (envOfC qual scope s.heap.objs.size f cd)
  N := N
  s₀ := s
  H₀ := H
  env := envOfC qual scope s.heap.objs.size f cd
  outer := outer
  stack := envOfC qual scope s.heap.objs.size f cd :: outer
  ex := []
  calm := true
  fn := fun _ => true
  pn := []
  xe := fun e s' => wpAny (model P w) (A.deeper (envOfC qual scope s.heap.objs.size f cd)) (leaving (envOfC qual scope s.heap.objs.size f cd) e) (fun _ s'' => CX outer H s E e s'') (fun e' s'' => CX outer H s E e' s'') s'

theorem cell_has {sc : Scope} {n : Nat} {x : Str} (h : sc.names.lookup x = some .cell) : ∃ c, (cellsFrom n sc.names []).lookup x = some c := by
  have q := PySem.W.cellsFrom_some sc.names n [] (.inl h)
  exact Option.isSome_iff_exists.mp q

theorem inv_start {CX : CXT} {P : Program} {w : World} {K : PySem.W.Frag} {mg : Str → Option Value} {base : Heap} {N ps : List Str} {qual : Str} {scope : Scope} {f : Addr} {cd : Value} {A : Around} {outer : List Env} {s s1 : Shared} {H : Hp} {E : XK} {us : List Value} {vs : List V}
    (S : FnScope N ps scope) (hd : A.handled = none) (e0 : Env0 P w K mg base A outer s H) (hl : vs.length = ps.length) (r : Vals vs us)
    (x : InCallC s s.heap.objs.size (bindL (envOfC qual scope s.heap.objs.size f cd).kindOf (ps.zip us) fun _ => none) (cellsFrom (s.heap.objs.size + 1) scope.names []) (bindC (envOfC qual scope s.heap.objs.size f cd).kindOf (ps.zip us) fun _ => none) s1) :
    Inv (cxOf CX P w K mg base N qual scope f cd A outer s H E) [] (start N vs) H s1 := by
  have hpl : ps.length ≤ N.length := by have := congrArg List.length S.pre; rw [List.length_take] at this; omega
  obtain ⟨h1, tk, rfl, hk⟩ := x.done
  have noA : ∀ b : Addr, b ∉ (cxOf CX P w K mg base N qual scope f cd A outer s H E).ex := fun b z => absurd (show b ∈ ([] : List Addr) from z) (by simp)
  refine ⟨⟨e0.mod, S.kind, rfl, rfl, Nat.le_refl _, fun y z c h1 h2 => ?_, fun y hy => ?_, fun y c _ h => ?_, fun _ => hd, Around.frames_deeper e0.frames, .inr ⟨rfl, rfl⟩, fun b z => absurd z (noA b), e0.bs, e0.bsz, fun b _ _ => noA b, fun b z => absurd z (noA b), e0.funs, e0.frf⟩,
    rfl, e0.bare, Un.kept hk, ⟨_, x.toInCall.ns, fun i y v h1 h2 h3 => ?_⟩, fun y c h => ⟨_, x.cell y c h⟩, e0.hok.fresh (Nat.le_refl _), fun y c h => ?_, fun p hp => absurd (show p ∈ ([] : List (Addr × Obj)) from hp) (by simp), e0.hok.kept hk, ?_⟩
  · exact name_of_addr x.apart (PySem.mem_of_lookup h1) (PySem.mem_of_lookup h2)
  · have hy : scope.names.lookup y = some .cell ∨ scope.names.lookup y = some .free := hy
    rcases hy with hy | hy
    · exact cell_has hy
    · exact absurd rfl (S.nofree _ (PySem.mem_of_lookup hy))
  · exact Nat.le_of_lt (x.above y c (PySem.mem_of_lookup h))
  · have hi : i < vs.length := by
      unfold start at h2
      by_cases hi : i < vs.length
      · exact hi
      · rw [List.getElem?_append_right (by simpa using hi)] at h2
        rw [List.getElem?_replicate] at h2
        split at h2 <;> cases h2
    have ha : vs[i]? = some v := by
      unfold start at h2
      rw [List.getElem?_append_left (by simpa using hi), List.getElem?_map] at h2
      cases e : vs[i]? with
      | none => rw [e] at h2; cases h2
      | some a => rw [e] at h2; cases h2; rfl
    obtain ⟨u, hu, rv⟩ := r.get ha
    have hp : ps[i]? = some y := by
      rw [← S.pre, List.getElem?_take_of_lt (by omega)]; exact h1
    have ndP : ps.Nodup := by rw [← S.pre]; exact S.nd.sublist (List.take_sublist _ _)
    refine ⟨u, rv, ?_⟩
    rcases S.par y (List.mem_of_getElem? hp) with k | k
    · exact .inl ⟨k, bindL_get ndP hp hu k⟩
    · obtain ⟨c, e⟩ := cell_has (n := s.heap.objs.size + 1) k
      refine .inr ⟨.inl k, c, e, ?_⟩
      have q := x.cell y c e
      rw [bindC_get ndP hp hu (by show scope.names.lookup y ≠ _; rw [k]; decide)] at q
      exact q
  · exact e0.hok.fresh (Nat.le_of_lt (x.above y c (PySem.mem_of_lookup h)))
  · unfold start
    show _ = N.length
    rw [List.length_append, List.length_map, List.length_replicate]
    omega

/-- THE RULE: a def (or a method) of the text, by its body. The body's reading t is chosen for each entry; it is run at the parameters' values -/
theorem fn_of {CX : CXT} {P : Program} {w : World} {K : PySem.W.Frag} {mg : Str → Option Value} {base : Heap} {k : Nat} {f : Addr} {name qual : Str} {params : Arguments} {body : List Stmt} {scope : Scope} {dV kV doc pm cdv ct oc : Value} {an od : Option Addr}
    {osl : Array (Option Value)} {N ps : List Str} {sp : Sp} (lk : K.lookup f = some ⟨oc, od, .func (PySem.W.fnOf name qual params body scope dV kV doc pm an cdv ct), osl⟩) (hcd : PySem.W.codeIn K cdv qual = true) (S : FnScope N ps scope)
    (len : ∀ vs H Q E, sp vs H Q E → vs.length = ps.length)
    (hbody : ∀ (A : Around) (outer : List Env) (s : Shared) (H : Hp) (vs : List V) (Q : VK) (E : XK), Room k (A.deeper (envOfC qual scope s.heap.objs.size f cdv)) → sp vs H Q E →
      ∃ t, PSs (cxOf CX P w K mg base N qual scope f cdv A outer s H E) body t ∧ t { nx := fun _ H' => Q .non H', rt := Q } (start N vs) H) :
    FnOk P w K mg base CX (k + 1) f (PySem.W.fnOf name qual params body scope dV kV doc pm an cdv ct) ps sp := by
  refine ⟨len, fun A outer s H args us vs Q E hr e0 hb r hsp => ?_⟩
  have hl := len _ _ _ _ hsp
  have KX : K.In s.heap := e0.mod.kin.keeps fun b o e => (e0.bs b o e).1
  have lim : s.heap.NoLimit := e0.mod.nolimit.keeps fun b o e => (e0.bs b o e).1
  have hkind : ∀ y ∈ ps.zip us, scope.names.lookup y.1 = some .local ∨ (scope.names.lookup y.1 = some .cell ∧ ((cellsFrom (s.heap.objs.size + 1) scope.names []).lookup y.1).isSome = true) := fun ⟨n, v⟩ hy => by
    rcases S.par n (List.of_mem_zip hy).1 with q | q
    · exact .inl q
    · exact .inr ⟨q, PySem.W.cellsFrom_some _ _ _ (.inl q)⟩
  refine codeAny_call_function hr.depth (KX _ _ lk) rfl S.co S.gen rfl (PySem.W.codeRec_of KX hcd) (hb _ _ _ _ ?_)
  refine wpAny_newFunctionEnv_cells S.kind hkind fun env he s1 x => ?_
  subst he
  refine ⟨lim.keeps x.toInCall.keep, codeAny_func ?_⟩
  obtain ⟨t, ht, hq⟩ := hbody A outer s H vs Q E (hr.deeper _) hsp
  have I : Inv (cxOf CX P w K mg base N qual scope f cdv A outer s H E) [] (start N vs) H s1 := inv_start S hr.hd e0 hl r x
  refine wpAny_mono (ht [] s1 (start N vs) H _ I hq) (fun fl s' hs => ?_) fun e s' hs => hs
  have fin : ∀ {σ' : St} {H' : Hp} {v : V} {u : Value}, Inv (cxOf CX P w K mg base N qual scope f cdv A outer s H E) [] σ' H' s' → RelV v u → Q v H' → CE outer P w H s Q u s' :=
    fun {σ' H' v u} J rv q => ⟨v, H', J.os, J.bare, J.base, J.hok, rv, q⟩
  cases fl with
  | ret u =>
    obtain ⟨v, σ', H', J, rv, q⟩ := hs
    exact fin J rv q
  | next =>
    obtain ⟨σ', H', J, q⟩ := hs
    exact fin (v := V.non) (u := Value.none) J rfl q
  | brk =>
    obtain ⟨_, _, _, q⟩ := hs
    exact False.elim q
  | cont =>
    obtain ⟨_, _, _, q⟩ := hs
    exact False.elim q
end L2

namespace L2
open PySem PySem.Spec PyProof.Rows
section
variable {X : Cx} {x : Str} {p pos : Pos} {e : Expr} {es : List Expr} {t : TA} {id T : String} {r : List V → Hp → VK → Prop}

def tCB (r : List V → Hp → VK → Prop) (t : TA) : TE := fun σ H Q => t σ H fun vs H1 => r vs H1 Q
/-- f(e, ..), f a built-in function -/
theorem pe_callB (hc : CallR X (.builtin id) r) (hg : Gl X x) (hm : X.mg x = none) (hv : bootBuiltins x = some (.builtin id)) (ha : PA X (e :: es) t) (hn : x ≠ "__name__" := by decide) (hdb : (x == ("__debug__" : Str)) = false := by decide)
    (he : starEach (e :: es) X.env = (false, eval e X.env) :: starEach es X.env := by rfl) (hpl : (backTo pos (starEach es X.env)).any (·.1) = false := by rfl) : PE X (.Call (.Name x p) (e :: es) [] pos) (tCB r t) := by
  intro pins s σ H Q I h
  refine wpAny_Call_Name_kw (ld_blt I hg hm hv ?_ hn hdb)
  exact PyProof.Rows.callWith_builtin1 (thn (ha pos pins s σ H _ I h) fun us s1 ⟨vs, H1, I1, r1, q1⟩ => hc pins s1 σ H1 vs us Q I1 r1 q1) he hpl
/-- T(e, ..), T a built-in type -/
theorem pe_callTy (hc : CallR X (.type T) r) (hg : Gl X x) (hm : X.mg x = none) (hv : bootBuiltins x = some (.type T)) (ha : PA X (e :: es) t) (hn : x ≠ "__name__" := by decide) (hdb : (x == ("__debug__" : Str)) = false := by decide)
    (he : starEach (e :: es) X.env = (false, eval e X.env) :: starEach es X.env := by rfl) (hpl : (backTo pos (starEach es X.env)).any (·.1) = false := by rfl) : PE X (.Call (.Name x p) (e :: es) [] pos) (tCB r t) := by
  intro pins s σ H Q I h
  refine wpAny_Call_Name_kw (ld_blt I hg hm hv ?_ hn hdb)
  exact PyProof.Rows.callWith_type1 (thn (ha pos pins s σ H _ I h) fun us s1 ⟨vs, H1, I1, r1, q1⟩ => hc pins s1 σ H1 vs us Q I1 r1 q1) he hpl
end
end L2

namespace HT
open PySem PyProof.Rows



section
open PySem.SeqAt
open PySem.AutoSeq1 (wpAny_loadPart')
open PySem.MeetsSeq PySem.MeetsSeq2 PySem.MeetsSeq3

end

section
variable {prog : Program} {w : World} {A : Around} {E : Value → Shared → Prop} {s : Shared}


/-- t + u, t not empty -/
theorem cat_tup {t b : Addr} {vs ws : List Value} {Q : Value → Shared → Prop} (ht : IsTup s.heap t vs.toArray) (hb : IsTup s.heap b ws.toArray) (hv : vs ≠ [])
    (h1 : ws = [] → Q (.ref t) s) (h2 : ws ≠ [] → Q (.ref s.heap.objs.size) { s with heap := s.heap.push { cls := .type "tuple", data := .seq (vs ++ ws).toArray } })
    (hsz : vs.length + ws.length ≤ sizeLine) : wpAny (model prog w) A (binaryOp .Add (.ref t) (.ref b)) Q E s := by
  obtain ⟨⟨cls, dd, data, sl⟩, ho, hc, n, hd⟩ := id ht
  obtain ⟨⟨cls2, dd2, data2, sl2⟩, ho2, hc2, n2, hd2⟩ := id hb
  simp only at hc hd hc2 hd2
  subst hc hd hc2 hd2
  have e : vs.toArray ++ ws.toArray = (vs ++ ws).toArray := by simp
  by_cases hw : ws = []
  · exact concat_meets ⟨_, ho, rfl⟩ ⟨_, ho2, rfl⟩ noFill_tuple_add seq_tuple_add PySem.F.slot_tuple_add PySem.F.entry_tuple_add (PySem.F.args_tuple_add_2 _ _)
      (tuple_addW1 t b vs.toArray ws.toArray n n2 dd dd2 sl sl2 (by simpa using hv) (by simp [hw])) ⟨ho, ho2, h1 hw⟩
  · refine concat_meets ⟨_, ho, rfl⟩ ⟨_, ho2, rfl⟩ noFill_tuple_add seq_tuple_add PySem.F.slot_tuple_add PySem.F.entry_tuple_add (PySem.F.args_tuple_add_2 _ _)
      (tuple_addW2 t b vs.toArray ws.toArray n n2 dd dd2 sl sl2 (by simpa using hv) (by simpa using hw) (by rw [List.size_toArray, List.size_toArray]; exact hsz)) ⟨ho, ho2, ?_⟩
    rw [e]
    exact h2 hw

/-! ### t[a:b], not the whole -/
/-- a slice's bound as a place among n (d where it is left out) -/
def sIx (n d : Nat) : Option Int → Nat
  | none => d
  | some v => if v < 0 then (v + (n : Int)).toNat else min v.toNat n
theorem sIx_none (n d : Nat) : sIx n d none = d := rfl
theorem sIx_nat (n d k : Nat) : sIx n d (some (k : Int)) = min k n := by
  show (if (k : Int) < 0 then ((k : Int) + (n : Int)).toNat else min (k : Int).toNat n) = min k n
  rw [if_neg (by omega), Int.toNat_natCast]

end
end HT

namespace L2
open PySem PySem.Spec PyProof.Rows

/-! ### the parts of a slice -/
abbrev TO := St → Hp → (Option Int → Hp → Prop) → Prop
/-- a slice's part (left out, or an int) -/
def PO (X : Cx) (e : Option Expr) (t : TO) : Prop :=
  ∀ (pins : List (Addr × Obj)) (s : Shared) (σ : St) (H : Hp) (Q : Option Int → Hp → Prop), Inv X pins σ H s → t σ H Q →
    wpAny (model X.prog X.w) X.A (evalPart e X.env) (fun u s' => ∃ o H', Inv X pins σ H' s' ∧ IsPart u o ∧ Q o H') X.xe s
def tNoPart : TO := fun _ H Q => Q none H
def tPart (t : TE) : TO := fun σ H Q => t σ H fun x H1 => ∃ i, x = .int i ∧ Q (some i) H1


section
variable {X : Cx} {e : Expr} {te : TE} {lo hi : Option Expr} {tl th : TO} {pos p2 : Pos}

theorem po_none : PO X none tNoPart := by
  intro pins s σ H Q I h
  rw [evalPart_none]
  exact wpAny_pure ⟨none, H, I, .none, h⟩
theorem po_some (h : PE X e te) : PO X (some e) (tPart te) := by
  intro pins s σ H Q I hw
  rw [evalPart_some]
  refine thn (h pins s σ H _ I hw) fun u s1 ⟨x, H1, I1, r1, q1⟩ => ?_
  obtain ⟨i, rfl, q⟩ := q1
  obtain ⟨t, rfl⟩ := r1
  exact ⟨some i, H1, I1, .int i t, q⟩

/-- what a slice of a value is, by values: the slice object stands at sl -/
def SlR (X : Cx) (r : V → Option Int → Option Int → Hp → VK → Prop) : Prop :=
  ∀ (pins : List (Addr × Obj)) (s : Shared) (σ : St) (H : Hp) (x : V) (v vl vu : Value) (lo hi : Option Int) (sl : Addr) (Q : VK), Inv X pins σ H s → RelV x v → s.heap.IsSliceOf sl vl vu .none → IsPart vl lo → IsPart vu hi → r x lo hi H Q →
    ∃ T id, typeLookup (.type T) "__getitem__" = pure (some (.builtin id)) ∧ s.TypeIs v T ∧ wpAny (model X.prog X.w) X.A (getItem v (.ref sl)) (EP X pins σ Q) X.xe s
def tSl (r : V → Option Int → Option Int → Hp → VK → Prop) (te : TE) (tl th : TO) : TE := fun σ H Q => te σ H fun x H1 => tl σ H1 fun l H2 => th σ H2 fun u H3 => r x l u H3 Q
/-- a[lo:hi], any a -/
theorem pe_slice {r : V → Option Int → Option Int → Hp → VK → Prop} (hr : SlR X r) (he : PE X e te) (hl : PO X lo tl) (hu : PO X hi th) : PE X (.Subscript e (.Slice lo hi none p2) pos) (tSl r te tl th) := by
  intro pins s σ H Q I h
  refine Subscript_ (thn (he pins s σ H _ I h) fun v s1 ⟨x, H1, I1, r1, q1⟩ => ?_)
  refine wpAny_Slice (thn (hl pins s1 σ H1 _ I1 q1) fun vl s2 ⟨l, H2, I2, pl, q2⟩ => thn (hu pins s2 σ H2 _ I2 q2) fun vu s3 ⟨u, H3, I3, pu, q3⟩ => ?_)
  rw [evalPart_none]
  refine wpAny_pure ?_
  have I4 : Inv X pins σ H3 { s3 with heap := s3.heap.push { cls := .type "slice", data := .fields #[vl, vu, .none] } } := I3.kept (t' := s3.toks) fun b ob q => Heap.get?_push_of_some _ q
  obtain ⟨T, id, hT, ht, hg⟩ := hr pins { s3 with heap := s3.heap.push { cls := .type "slice", data := .fields #[vl, vu, .none] } } σ H3 x v vl vu l u s3.heap.objs.size Q I4 r1 (Heap.IsSliceOf.new ..) pl pu q3
  show wpAny (model X.prog X.w) X.A (subscriptTail e (.Slice lo hi none p2) v (.ref s3.heap.objs.size)) (EP X pins σ Q) X.xe { s3 with heap := s3.heap.push { cls := .type "slice", data := .fields #[vl, vu, .none] } }
  exact tail_any (ops := [.ref s3.heap.objs.size, v]) ht hT hg (by with_unfolding_all rfl)

/-- the items of xs[lo:hi] -/
def cutV (xs : List V) (lo hi : Option Int) : List V := (xs.drop (HT.sIx xs.length 0 lo)).take (HT.sIx xs.length xs.length hi - HT.sIx xs.length 0 lo)
theorem cutV_length (xs : List V) (lo hi : Option Int) : (cutV xs lo hi).length ≤ xs.length := by
  unfold cutV
  rw [List.length_take, List.length_drop]
  omega

/-! ### t < u, t + u -/
/-- t + u, t not empty: u empty gives t itself -/
def rCatT (K : PySem.W.Frag) : R2 := fun x y H Q => ∃ a b xs ys, x = .ref a ∧ y = .ref b ∧ SqT K H a xs ∧ SqT K H b ys ∧ xs ≠ [] ∧ xs.length + ys.length ≤ sizeLine ∧
  (ys = [] → Q (.ref a) H) ∧ (ys ≠ [] → ∀ p, H p = none → Q (.ref p) (upd H p (.tup (xs ++ ys))))
theorem Vals.nil_iff {xs : List V} {us : List Value} (r : Vals xs us) : us = [] ↔ xs = [] := by
  cases r with
  | nil => simp
  | cons _ _ => simp
theorem op_catT : OpR X (binaryOp .Add) (rCatT X.K) := by
  intro pins s σ H x y v u Q I rx ry h
  obtain ⟨a, b, xs, ys, rfl, rfl, ha, hb, hx, hz, q1, q2⟩ := h
  cases rx
  cases ry
  obtain ⟨its, r1, p1, _⟩ := I.tuple ha
  obtain ⟨its2, r2, p2, _⟩ := I.tuple hb
  refine HT.cat_tup p1 p2 (fun z => hx (r1.nil_iff.mp z)) (fun z => ⟨.ref a, H, I, rfl, q1 (r2.nil_iff.mp z)⟩) (fun z => ?_) (by rw [← r1.length, ← r2.length]; exact hz)
  refine ⟨.ref s.heap.objs.size, _, I.laid (t' := s.toks) (o := .tup (xs ++ ys)) (fun b ob q => Heap.get?_push_of_some _ q) (Nat.le_refl _) ?_, rfl, q2 (fun w => z (r2.nil_iff.mpr w)) _ (I.hok.fresh (Nat.le_refl _))⟩
  exact ⟨by rw [List.length_append]; exact hz, _, r1.append r2, IsTup.new _ _⟩
end
end L2

namespace L2
open PySem PySem.Spec PyProof.Rows

/-! ### places -/
/-- the place that an index of any sign means -/
def ixN (n : Nat) (i : Int) : Option Nat := if 0 ≤ i then (if i < n then some i.toNat else none) else if -(n : Int) ≤ i then some (i + n).toNat else none
def atI {α : Type} (xs : List α) (i : Int) : Option α := (ixN xs.length i).bind fun j => xs[j]?
theorem ixN_seq {n : Nat} {i : Int} {j : Nat} (h : ixN n i = some j) : seqIndex? i n = some j ∧ j < n ∧ -(n : Int) ≤ i ∧ i < n := by
  unfold ixN at h
  by_cases h0 : 0 ≤ i
  · rw [if_pos h0] at h
    by_cases h1 : i < n
    · rw [if_pos h1] at h
      have e : i.toNat = j := Option.some.inj h
      exact ⟨by rw [seqIndex_of h0 h1, e], by omega, by omega, h1⟩
    · rw [if_neg h1] at h; cases h
  · rw [if_neg h0] at h
    by_cases h1 : -(n : Int) ≤ i
    · rw [if_pos h1] at h
      have e : (i + n).toNat = j := Option.some.inj h
      exact ⟨by rw [seqIndex_neg (by omega) h1, e], by omega, h1, by omega⟩
    · rw [if_neg h1] at h; cases h
theorem atI_get {α : Type} {xs : List α} {i : Int} {v : α} (h : atI xs i = some v) : ∃ j, seqIndex? i xs.length = some j ∧ xs[j]? = some v ∧ j < xs.length ∧ -(xs.length : Int) ≤ i ∧ i < xs.length := by
  unfold atI at h
  cases e : ixN xs.length i with
  | none => rw [e] at h; cases h
  | some j =>
    rw [e] at h
    obtain ⟨h1, h2, h3, h4⟩ := ixN_seq e
    exact ⟨j, h1, h, h2, h3, h4⟩
theorem atI_nat {α : Type} {xs : List α} {j : Nat} {v : α} (h : xs[j]? = some v) : atI xs (j : Int) = some v := by
  have hj : j < xs.length := (List.getElem?_eq_some_iff.mp h).1
  have e : ixN xs.length (j : Int) = some j := by
    unfold ixN
    rw [if_pos (by omega), if_pos (by omega)]; simp
  unfold atI; rw [e]; exact h
theorem atI_last {α : Type} (xs : List α) (v : α) : atI (xs ++ [v]) (-1) = some v := by
  have hl : (xs ++ [v]).length = xs.length + 1 := by simp
  have e : ixN (xs ++ [v]).length (-1) = some xs.length := by
    unfold ixN
    rw [hl, if_neg (by decide), if_pos (by omega)]
    congr 1
    omega
  unfold atI
  rw [e]
  show (xs ++ [v])[xs.length]? = some v
  simp

/-! ### what may be subscripted -/
/-- what stands as an index of a plain subscript -/
def PlainIx (b : Expr) : Prop := ∀ o i, subscripted b false o i = operate [o, i] (getItem o i)
/-- a subscript by values -/
def IxR (X : Cx) (r : R2) : Prop :=
  ∀ (value slice : Expr) (pins : List (Addr × Obj)) (s : Shared) (σ : St) (H : Hp) (x y : V) (v u : Value) (Q : VK), Inv X pins σ H s → RelV x v → RelV y u → r x y H Q →
    subscripted slice false v u = operate [v, u] (getItem v u) → wpAny (model X.prog X.w) X.A (subscriptTail value slice v u) (EP X pins σ Q) X.xe s
/-- a call of a builtin's method by values: the receiver, the arguments -/
def MtR (X : Cx) (id : String) (r : V → List V → Hp → VK → Prop) : Prop :=
  ∀ (pins : List (Addr × Obj)) (s : Shared) (σ : St) (H : Hp) (x : V) (xs : List V) (v : Value) (us : List Value) (Q : VK), Inv X pins σ H s → RelV x v → Vals xs us → r x xs H Q →
    wpAny (model X.prog X.w) X.A (call (.builtin id) (v :: us)) (EP X pins σ Q) X.xe s
section
variable {X : Cx} {a b : Expr} {ta tb : TE} {pos : Pos}
/-- a[b] -/
theorem pe_ix {r : R2} (hr : IxR X r) (ha : PE X a ta) (hb : PE X b tb) (hs : PlainIx b) : PE X (.Subscript a b pos) (tOp r ta tb) := by
  intro pins s σ H Q I h
  exact Subscript_ (binT ha hb I h fun v u s2 x y H2 I2 rx ry q => hr a b pins s2 σ H2 x y v u Q I2 rx ry q (hs _ _))

def rIxL (K : PySem.W.Frag) : R2 := fun x y H Q => ∃ p xs i v, x = .ref p ∧ y = .int i ∧ SqL K H p xs ∧ atI xs i = some v ∧ Q v H
def rIxT (K : PySem.W.Frag) : R2 := fun x y H Q => ∃ p xs i v, x = .ref p ∧ y = .int i ∧ SqT K H p xs ∧ atI xs i = some v ∧ Q v H
theorem ix_list : IxR X (rIxL X.K) := by
  intro value slice pins s σ H x y v u Q I rx ry h hs
  obtain ⟨p, xs, i, z, rfl, rfl, hq, he, q⟩ := h
  cases rx
  obtain ⟨t, rfl⟩ := ry
  obtain ⟨its, r, pl, hz⟩ := I.list hq
  obtain ⟨j, h1, h2, h3, h4, h5⟩ := atI_get he
  obtain ⟨w, ew, rw'⟩ := r.get h2
  have hl := r.length
  have hn := line63
  have fin : EP X pins σ Q w s := ⟨z, H, I, rw', q⟩
  by_cases h0 : 0 ≤ i
  · have hj : i.toNat = j := by
      rw [seqIndex_of h0 h5] at h1
      exact Option.some.inj h1
    exact item_listR pl.isList h0 (by omega) (by rw [hj]; simpa using ew) fin hs
  · have hj : (i + (its.toArray.size : Int)).toNat = j := by
      rw [seqIndex_neg (by omega) h4] at h1
      rw [List.size_toArray, ← hl]
      exact Option.some.inj h1
    exact subscriptTail_builtinR (x := w) pl.isList.typeIs slot_list_getitem.lookup
      (wpAny_getItem_list_neg (Q := fun r s' => r = w ∧ EP X pins σ Q r s') pl.isList (by omega) (by rw [List.size_toArray] <;> omega) (by omega) (by rw [hj]; simpa using ew) ⟨rfl, fin⟩) hs
theorem ix_tup : IxR X (rIxT X.K) := by
  intro value slice pins s σ H x y v u Q I rx ry h hs
  obtain ⟨p, xs, i, z, rfl, rfl, hq, he, q⟩ := h
  cases rx
  obtain ⟨t, rfl⟩ := ry
  obtain ⟨its, r, pl, hz⟩ := I.tuple hq
  obtain ⟨j, h1, h2, h3, h4, h5⟩ := atI_get he
  obtain ⟨w, ew, rw'⟩ := r.get h2
  have hl := r.length
  have hn := line63
  have fin : EP X pins σ Q w s := ⟨z, H, I, rw', q⟩
  exact subscriptTail_builtinR (x := w) pl.typeIs slot_tuple_getitem.lookup
    (getItem_tuple (j := j) (Q := fun r s' => r = w ∧ EP X pins σ Q r s') pl (by omega) (by omega) (by rw [List.size_toArray, ← hl]; exact h1) (by simpa using ew) ⟨rfl, fin⟩) hs

/-! ### xs[i] = v, any sign -/
/-- the list's object behind a store -/
theorem mapSeq_set (its : List Value) (n j : Nat) (u : Value) : Obj.mapSeq (·.setIfInBounds j u) { cls := .type "list", data := .seq its.toArray n } = { cls := .type "list", data := .seq (its.set j u).toArray n } := by
  simp [Obj.mapSeq]
theorem Inv.lst {pins : List (Addr × Obj)} {σ : St} {H : Hp} {s : Shared} {p : Addr} {xs : List V} (I : Inv X pins σ H s) (h : H p = some (.lst xs)) :
    ∃ (its : List Value) (n : Nat), Vals xs its ∧ s.heap.get? p = some { cls := .type "list", data := .seq its.toArray n } ∧ xs.length ≤ sizeLine := by
  obtain ⟨z, its, n, r, e⟩ := I.hok p _ h
  exact ⟨its, n, r, e, z⟩
/-- the list at p is written by an update of its object -/
theorem Inv.lstUpd {pins : List (Addr × Obj)} {σ : St} {H : Hp} {s : Shared} {p : Addr} {xs ys : List V} {its its' : List Value} {n n' : Nat} {f : Obj → Obj} (I : Inv X pins σ H s) (h : H p = some (.lst xs))
    (ho : s.heap.get? p = some { cls := .type "list", data := .seq its.toArray n }) (hf : f { cls := .type "list", data := .seq its.toArray n } = { cls := .type "list", data := .seq its'.toArray n' }) (r : Vals ys its') (hz : ys.length ≤ sizeLine) (t : Nat) :
    Inv X pins σ (upd H p (.lst ys)) { s with heap := s.heap.update p f, toks := t } := by
  have e : (s.heap.update p f).get? p = some { cls := .type "list", data := .seq its'.toArray n' } := by
    rw [Heap.get?_update_self f ho (by rw [hf] <;> rfl), hf]
  refine I.write (x := p) (e := p) (by rw [h]; trivial) (.inl rfl) (fun b u hb q => (Heap.get?_update_other _ _ (Ne.symm hb)).trans q) ⟨_, e⟩ ?_
  exact ⟨hz, its', n', r, e⟩
def rSetL : V → V → V → Hp → (Hp → Prop) → Prop := fun o i v H Q => ∃ p xs k j, o = .ref p ∧ i = .int k ∧ H p = some (.lst xs) ∧ ixN xs.length k = some j ∧ Q (upd H p (.lst (xs.set j v)))
theorem set_list : PSet X rSetL := by
  intro pins s σ H o i v ov iv u Q I ro ri rv h
  obtain ⟨p, xs, k, j, rfl, rfl, hp, hj, q⟩ := h
  cases ro
  obtain ⟨t, rfl⟩ := ri
  obtain ⟨its, n, r, ho, hz⟩ := I.lst hp
  obtain ⟨h1, h2, h3, h4⟩ := ixN_seq hj
  have hl := r.length
  have hn := line63
  have I' : Inv X pins σ (upd H p (.lst (xs.set j v))) { s with heap := s.heap.update p (Obj.mapSeq (·.setIfInBounds j u)) } :=
    I.lstUpd hp ho (mapSeq_set its n j u) (r.set rv j) (by rw [List.length_set]; exact hz) s.toks
  by_cases h0 : 0 ≤ k
  · have hk : k.toNat = j := by
      rw [seqIndex_of h0 h4] at h1
      exact Option.some.inj h1
    exact PySem.W.ki_setAt ho h0 (by omega) (by rw [List.size_toArray, ← hl]; exact h4) (by rw [hk]; exact ⟨_, I', q⟩)
  · have hk : (k + (its.toArray.size : Int)).toNat = j := by
      rw [seqIndex_neg (by omega) h3] at h1
      rw [List.size_toArray, ← hl]
      exact Option.some.inj h1
    exact PySem.W.ki_setBack ho (by omega) (by rw [List.size_toArray, ← hl]; exact h3) (by omega) (by rw [hk]; exact ⟨_, I', q⟩)

/-! ### slices -/
theorem slice_bounds (lo hi : Option Int) (n : Nat) : (sliceBounds lo hi none n).1 = ((HT.sIx n 0 lo : Nat) : Int) ∧ (sliceBounds lo hi none n).2.1 = ((HT.sIx n n hi : Nat) : Int) ∧ (sliceBounds lo hi none n).2.2 = 1 := by
  refine ⟨?_, ?_, rfl⟩
  · cases lo with
    | none => simp [sliceBounds, HT.sIx]
    | some i =>
      simp only [sliceBounds, HT.sIx, Option.getD_none, show (1 : Int) > 0 by decide, if_true]
      by_cases h : i < 0
      · simp only [h, if_true] <;> omega
      · simp only [h, if_false] <;> omega
  · cases hi with
    | none => simp [sliceBounds, HT.sIx]
    | some i =>
      simp only [sliceBounds, HT.sIx, Option.getD_none, show (1 : Int) > 0 by decide, if_true]
      by_cases h : i < 0
      · simp only [h, if_true] <;> omega
      · simp only [h, if_false] <;> omega
theorem slicePick_cut (its : List Value) (lo hi : Option Int) : slicePick its.toArray lo hi none = ((its.drop (HT.sIx its.length 0 lo)).take (HT.sIx its.length its.length hi - HT.sIx its.length 0 lo)).toArray := by
  obtain ⟨h1, h2, h3⟩ := slice_bounds lo hi its.toArray.size
  unfold slicePick
  rw [h1, h2, h3]
  simp only [sliceRange_one, pick_run, List.size_toArray] <;> rfl
/-- xs[lo:hi] of a list: a new list -/
def rSlL (K : PySem.W.Frag) : V → Option Int → Option Int → Hp → VK → Prop := fun x lo hi H Q => ∃ a xs, x = .ref a ∧ SqL K H a xs ∧ ∀ p, H p = none → Q (.ref p) (upd H p (.lst (cutV xs lo hi)))
theorem sl_list : SlR X (rSlL X.K) := by
  intro pins s σ H x v vl vu lo hi sl Q I rx hs pl pu h
  obtain ⟨a, xs, rfl, hx, q⟩ := h
  cases rx
  obtain ⟨its, r, ht, hz⟩ := I.list hx
  have hlen := r.length
  refine ⟨"list", _, slot_list_getitem.lookup, ht.isList.typeIs, ?_⟩
  refine wpAny_getItem_list_slice ht.isList hs pl pu .none (by simp) ?_ (by rw [List.size_toArray] <;> omega)
  rw [slicePick_cut, ← hlen]
  refine ⟨.ref s.heap.objs.size, _, I.laid (t' := s.toks) (o := .lst (cutV xs lo hi)) (fun b ob q => Heap.get?_push_of_some _ q) (Nat.le_refl _) ?_, rfl, q _ (I.hok.fresh (Nat.le_refl _))⟩
  exact ⟨Nat.le_trans (cutV_length xs lo hi) hz, _, 0, (r.drop (HT.sIx xs.length 0 lo)).take (HT.sIx xs.length xs.length hi - HT.sIx xs.length 0 lo), Heap.get?_push_size _ rfl⟩

/-! ### in, not in: flat items -/
def flatV : V → Bool
  | .non => true
  | .bl _ => true
  | .int _ => true
  | .str _ => true
  | _ => false
/-- == of flat values -/
def eqV : V → V → Bool
  | .non, .non => true
  | .bl a, .bl b => a == b
  | .bl a, .int b => (if a then 1 else 0) == b
  | .int a, .bl b => a == (if b then 1 else 0)
  | .int a, .int b => a == b
  | .str a, .str b => a == b
  | _, _ => false
theorem eqAt_V {A : Around} {s : Shared} {y x : V} {u v : Value} (ry : RelV y u) (rx : RelV x v) (fy : flatV y = true) (fx : flatV x = true) : SeqAt.EqAt A s u v (eqV y x) := by
  cases y with
  | non =>
    cases ry
    cases x with
    | non => cases rx; exact SeqAt.EqAt.same _
    | bl b => cases rx; exact SeqAt.EqAt.none_bool b
    | int b => obtain ⟨t, rfl⟩ := rx; exact SeqAt.EqAt.none_int b t
    | str b => obtain ⟨t, rfl⟩ := rx; exact SeqAt.EqAt.none_str b t
    | _ => exact absurd (show false = true from fx) Bool.false_ne_true
  | bl a =>
    cases ry
    cases x with
    | non => cases rx; exact SeqAt.EqAt.bool_none a
    | bl b => cases rx; exact SeqAt.EqAt.bool_bool a b
    | int b => obtain ⟨t, rfl⟩ := rx; exact SeqAt.EqAt.bool_int a b t
    | str b => obtain ⟨t, rfl⟩ := rx; exact SeqAt.EqAt.bool_str a b t
    | _ => exact absurd (show false = true from fx) Bool.false_ne_true
  | int a =>
    obtain ⟨t', rfl⟩ := ry
    cases x with
    | non => cases rx; exact SeqAt.EqAt.int_none a t'
    | bl b => cases rx; exact SeqAt.EqAt.int_bool a t' b
    | int b => obtain ⟨t, rfl⟩ := rx; exact SeqAt.EqAt.int_int a t' b t
    | str b => obtain ⟨t, rfl⟩ := rx; exact SeqAt.EqAt.int_str a t' b t
    | _ => exact absurd (show false = true from fx) Bool.false_ne_true
  | str a =>
    obtain ⟨t', rfl⟩ := ry
    cases x with
    | non => cases rx; exact SeqAt.EqAt.str_none a t'
    | bl b => cases rx; exact SeqAt.EqAt.str_bool a t' b
    | int b => obtain ⟨t, rfl⟩ := rx; exact SeqAt.EqAt.str_int a t' b t
    | str b => obtain ⟨t, rfl⟩ := rx; exact SeqAt.EqAt.str_str a t' b t
    | _ => exact absurd (show false = true from fx) Bool.false_ne_true
  | _ => exact absurd (show false = true from fy) Bool.false_ne_true
/-- the items' answers, read off the values (a value's own answer does not lean on its token) -/
def eqU (x : V) (u : Value) : Bool := match u with
  | .none => eqV .non x
  | .bool b => eqV (.bl b) x
  | .int i _ => eqV (.int i) x
  | .str z _ => eqV (.str z) x
  | _ => false
theorem eqU_of {x y : V} {u : Value} (r : RelV y u) (f : flatV y = true) : eqU x u = eqV y x := by
  cases y with
  | non => cases r; rfl
  | bl b => cases r; rfl
  | int i => obtain ⟨t, rfl⟩ := r; rfl
  | str z => obtain ⟨t, rfl⟩ := r; rfl
  | _ => exact absurd (show false = true from f) Bool.false_ne_true
theorem any_eqU {x : V} : ∀ {xs : List V} {us : List Value}, Vals xs us → xs.all flatV = true → us.any (eqU x) = xs.any fun y => eqV y x
  | _, _, .nil, _ => rfl
  | y :: xs, u :: us, .cons r t, f => by
    rw [List.all_cons, Bool.and_eq_true] at f
    rw [List.any_cons, List.any_cons, eqU_of r f.1, any_eqU t f.2]
theorem mem_eqAt {A : Around} {s : Shared} {x : V} {v : Value} (rx : RelV x v) (fx : flatV x = true) : ∀ {xs : List V} {us : List Value}, Vals xs us → xs.all flatV = true → ∀ u ∈ us, SeqAt.EqAt A s u v (eqU x u)
  | _, _, .nil, _ => fun u hu => by cases hu
  | y :: xs, u :: us, .cons r t, f => fun u' hu => by
    rw [List.all_cons, Bool.and_eq_true] at f
    rcases List.mem_cons.mp hu with rfl | hu
    · rw [eqU_of r f.1]; exact eqAt_V r rx f.1 fx
    · exact mem_eqAt rx fx t f.2 u' hu
def inV (x : V) (xs : List V) : Bool := xs.any fun y => eqV y x
/-- x in a list or tuple of flat items -/
def rIn (K : PySem.W.Frag) (neg : Bool) : R2 := fun x y H Q => ∃ p xs, y = .ref p ∧ (SqL K H p xs ∨ SqT K H p xs) ∧ flatV x = true ∧ xs.all flatV = true ∧ Q (.bl (if neg then !inV x xs else inV x xs)) H
theorem op_in_seq : OpR X (compareOp .In) (rIn X.K false) := by
  intro pins s σ H x y v u Q I rx ry h
  obtain ⟨p, xs, rfl, hq, fx, fs, q⟩ := h
  cases ry
  rcases hq with hq | hq
  · obtain ⟨its, r, pl, hz⟩ := I.list hq
    refine SeqAt.in_listAt (eqU x) pl.isList (fun w hw => mem_eqAt rx fx r fs w (by simpa using hw)) ⟨.bl _, H, I, rfl, ?_⟩
    rw [show its.toArray.any (eqU x) = its.any (eqU x) by simp, any_eqU r fs]
    exact q
  · obtain ⟨its, r, pl, hz⟩ := I.tuple hq
    refine SeqAt.in_tupleAt (eqU x) pl (fun w hw => mem_eqAt rx fx r fs w (by simpa using hw)) ⟨.bl _, H, I, rfl, ?_⟩
    rw [show its.toArray.any (eqU x) = its.any (eqU x) by simp, any_eqU r fs]
    exact q
theorem op_notIn_seq : OpR X (compareOp .NotIn) (rIn X.K true) := by
  intro pins s σ H x y v u Q I rx ry h
  obtain ⟨p, xs, rfl, hq, fx, fs, q⟩ := h
  cases ry
  rcases hq with hq | hq
  · obtain ⟨its, r, pl, hz⟩ := I.list hq
    refine SeqAt.notIn_listAt (eqU x) pl.isList (fun w hw => mem_eqAt rx fx r fs w (by simpa using hw)) ⟨.bl _, H, I, rfl, ?_⟩
    rw [show its.toArray.any (eqU x) = its.any (eqU x) by simp, any_eqU r fs]
    exact q
  · obtain ⟨its, r, pl, hz⟩ := I.tuple hq
    refine SeqAt.notIn_tupleAt (eqU x) pl (fun w hw => mem_eqAt rx fx r fs w (by simpa using hw)) ⟨.bl _, H, I, rfl, ?_⟩
    rw [show its.toArray.any (eqU x) = its.any (eqU x) by simp, any_eqU r fs]
    exact q

/-! ### len, list(x), tuple(x) of any list or tuple that is read -/
theorem call_len_seq : CallR X (.builtin "len") (fun xs H Q => ∃ p ys, xs = [.ref p] ∧ (SqL X.K H p ys ∨ SqT X.K H p ys) ∧ Q (.int ys.length) H) := by
  intro pins s σ H xs us Q I r h
  obtain ⟨p, ys, rfl, hq, q⟩ := h
  obtain ⟨u, rfl, rx⟩ := vals1 r
  cases rx
  have hn := line63
  rcases hq with hq | hq
  · obtain ⟨its, r', pl, hz⟩ := I.list hq
    have hlen := r'.length
    exact Calls.call_len_list pl.isList (by simp only [List.size_toArray] <;> omega) ⟨.int ys.length, H, I.tok _, ⟨s.toks + 1, by rw [List.size_toArray, hlen]⟩, q⟩
  · obtain ⟨its, r', pl, hz⟩ := I.tuple hq
    have hlen := r'.length
    exact len_tuple pl (by simp only [List.size_toArray] <;> omega) ⟨.int ys.length, H, I.tok _, ⟨s.toks + 1, by rw [List.size_toArray, hlen]⟩, q⟩
theorem call_list_of : CallR X (.type "list") (fun xs H Q => ∃ p ys, xs = [.ref p] ∧ (SqL X.K H p ys ∨ SqT X.K H p ys) ∧ ∀ l, H l = none → Q (.ref l) (upd H l (.lst ys))) := by
  intro pins s σ H xs us Q I r h
  obtain ⟨p, ys, rfl, hq, q⟩ := h
  obtain ⟨u, rfl, rx⟩ := vals1 r
  cases rx
  have fin : ∀ (its : List Value), Vals ys its → ys.length ≤ sizeLine → ∀ (h' : Heap) (c' : Nat), (∀ b o', s.heap.get? b = some o' → h'.get? b = some o') →
      h'.get? s.heap.objs.size = some { cls := .type "list", dict := none, data := .seq its.toArray c', slots := #[] } → EP X pins σ Q (.ref s.heap.objs.size) { s with heap := h' } := fun its r' hz h' c' kp e =>
    ⟨.ref s.heap.objs.size, _, I.laid (t' := s.toks) kp (Nat.le_refl _) (show ObjOk X.prog X.w _ h' _ (.lst ys) from ⟨hz, its, c', r', e⟩), rfl, q _ (I.hok.fresh (Nat.le_refl _))⟩
  rcases hq with hq | hq
  · obtain ⟨its, r', pl, hz⟩ := I.list hq
    have hlen := r'.length
    obtain ⟨o, ho, hc, n, hd⟩ := pl.isList
    exact call_list_seq p (.inl rfl) ho hc hd (fun h' c' kp e => fin its r' hz h' c' kp e) (by simp only [List.size_toArray] <;> omega)
  · obtain ⟨its, r', pl, hz⟩ := I.tuple hq
    have hlen := r'.length
    obtain ⟨o, ho, hc, n, hd⟩ := pl
    exact call_list_seq p (.inr rfl) ho hc hd (fun h' c' kp e => fin its r' hz h' c' kp e) (by simp only [List.size_toArray] <;> omega)
theorem call_tuple_of : CallR X (.type "tuple") (fun xs H Q => ∃ p ys, xs = [.ref p] ∧ ((SqL X.K H p ys ∧ ∀ l, H l = none → Q (.ref l) (upd H l (.tup ys))) ∨ (SqT X.K H p ys ∧ Q (.ref p) H))) := by
  intro pins s σ H xs us Q I r h
  obtain ⟨p, ys, rfl, h⟩ := h
  obtain ⟨u, rfl, rx⟩ := vals1 r
  cases rx
  rcases h with ⟨hq, q⟩ | ⟨hq, q⟩
  · obtain ⟨its, r', pl, hz⟩ := I.list hq
    have hlen := r'.length
    refine call_tuple_list pl.isList (fun h' kp => ?_) (by simp only [List.size_toArray] <;> omega)
    have I1 : Inv X pins σ H { s with heap := h' } := I.kept (t' := s.toks) kp
    have I2 : Inv X pins σ (upd H h'.objs.size (.tup ys)) { s with heap := h'.push { cls := .type "tuple", data := .seq its.toArray } } :=
      I1.laid (t' := s.toks) (fun b o e => Heap.get?_push_of_some _ e) (Nat.le_refl _) (show ObjOk X.prog X.w _ _ _ (.tup ys) from ⟨hz, its, r', IsTup.new _ _⟩)
    exact ⟨.ref h'.objs.size, _, I2, rfl, q _ (I1.hok.fresh (Nat.le_refl _))⟩
  · obtain ⟨its, r', pl, hz⟩ := I.tuple hq
    exact call_tuple_same pl ⟨.ref p, H, I, rfl, q⟩

/-! ### the call of a builtin's method: o.m(..) -/
/-- the value is of that builtin type -/
def tyV (K : PySem.W.Frag) (T : String) (x : V) (H : Hp) : Prop := match x with
  | .str _ => T = "str"
  | .int _ => T = "int"
  | .ref p => (T = "list" ∧ ∃ xs, SqL K H p xs) ∨ (T = "tuple" ∧ ∃ o, K.lookup p = some o ∧ o.cls = .type "tuple" ∧ o.dict = none) ∨
      (T = "dict" ∧ ((∃ kvs, H p = some (.dK kvs)) ∨ ∃ kvs, H p = some (.dT kvs))) ∨ (T = "set" ∧ ∃ S n, H p = some (.set S n))
  | _ => False
theorem tyV_is {pins : List (Addr × Obj)} {σ : St} {H : Hp} {s : Shared} {T : String} {x : V} {v : Value} (I : Inv X pins σ H s) (r : RelV x v) (ty : tyV X.K T x H) :
    s.TypeIs v T ∧ ∀ a, v = .ref a → ∃ ob, s.heap.get? a = some ob ∧ ob.dict = none := by
  cases x with
  | str z =>
    obtain ⟨t, rfl⟩ := r
    cases (show T = "str" from ty)
    exact ⟨typeIs_str s z t, fun _ e => nomatch e⟩
  | int i =>
    obtain ⟨t, rfl⟩ := r
    cases (show T = "int" from ty)
    exact ⟨typeIs_int s i t, fun _ e => nomatch e⟩
  | ref p =>
    cases r
    rcases ty with ⟨rfl, xs, hq⟩ | ⟨rfl, o, hk, hc, hd⟩ | ⟨rfl, hk⟩ | ⟨rfl, S, n, hk⟩
    · obtain ⟨its, _, pl, _⟩ := I.list hq
      refine ⟨pl.isList.typeIs, fun a e => ?_⟩
      cases e
      obtain ⟨o, n, e, c, hd, _⟩ := pl
      exact ⟨o, e, hd⟩
    · refine ⟨⟨o, I.kIn p o hk, hc⟩, fun a e => ?_⟩
      cases e
      exact ⟨o, I.kIn _ o hk, hd⟩
    · have z : ∃ o, s.heap.get? p = some o ∧ o.ExactDict := by
        rcases hk with ⟨kvs, hk⟩ | ⟨kvs, hk⟩
        · obtain ⟨_, _, _, _, o, _, _, e, ex, _⟩ := I.hok p _ hk
          exact ⟨o, e, ex⟩
        · obtain ⟨_, _, _, _, o, _, _, e, ex, _⟩ := I.hok p _ hk
          exact ⟨o, e, ex⟩
      obtain ⟨o, e, ex⟩ := z
      refine ⟨⟨o, e, ex.1⟩, fun a e2 => ?_⟩
      cases e2
      exact ⟨o, e, ex.2.1⟩
    · obtain ⟨o, _, _, _, e, ex, _⟩ := I.hok p _ hk
      refine ⟨⟨o, e, ex.1⟩, fun a e2 => ?_⟩
      cases e2
      exact ⟨o, e, ex.2.1⟩
  | _ => exact False.elim ty
def tBM (K : PySem.W.Frag) (T : String) (r : V → List V → Hp → VK → Prop) (to : TE) (t : TA) : TE := fun σ H Q => to σ H fun x H1 => tyV K T x H1 ∧ t σ H1 fun xs H2 => r x xs H2 Q
variable {o e : Expr} {es : List Expr} {to : TE} {t : TA} {name : Str} {apos cpos : Pos} {T id : String} {r : V → List V → Hp → VK → Prop}
theorem pe_bm (pa : PlainAttrs T) (slot : Slot T name id) (hty : typeOf (.builtin id) = pure (.type "method_descriptor")) (hm : MtR X id r) (ho : PE X o to) (ha : PA X (e :: es) t)
    (hbase : attributeBase o name X.env (eval o X.env) = eval o X.env := by rfl)
    (hfew : ((backTo cpos (starEach (e :: es) X.env)).all (fun x => !x.1) && (backToKw cpos (keywordEach [] X.env)).all (fun x => x.1.isSome)
      && decide ((e :: es).length + ([] : List Keyword).length + (if ([] : List Keyword).isEmpty then 0 else 1) < 30)) = true := by rfl)
    (hline : (apos.endLine == cpos.line) = true := by rfl) (hs : starEach (e :: es) X.env = (false, eval e X.env) :: starEach es X.env := by rfl) (hplain : (backTo cpos (starEach es X.env)).any (·.1) = false := by rfl) :
    PE X (.Call (.Attribute o name apos) (e :: es) [] cpos) (tBM X.K T r to t) := by
  intro pins s σ H Q I h
  refine wpAny_Call_method_late hbase hfew hline rfl (thn (ho pins s σ H _ I h) fun v s1 ⟨x, H1, I1, r1, ty, q1⟩ => ?_)
  obtain ⟨h1, h2⟩ := tyV_is I1 r1 ty
  refine ⟨T, id, pa, slot, hty, h1, h2, ?_⟩
  have hA := ha cpos pins s1 σ H1 _ I1 q1
  rw [hs] at hA ⊢
  refine Calls.callWith_builtin (by show (false || (backTo cpos (starEach es X.env)).any (·.1)) = false; rw [hplain] <;> rfl) (Calls.evalArgs_plain ?_)
  exact thn hA fun us s2 ⟨vs, H2, I2, r2, q2⟩ => hm pins s2 σ H2 x vs v us Q I2 r1 r2 q2
/- xs.append(e), list.index on a module's tuple .. are MtR facts of 06m -/
end
end L2

namespace L2
open PySem PySem.Spec PyProof.Rows

def MtM (X : Cx) (id : String) (r : V → List V → Hp → VK → Prop) : Prop :=
  ∀ (pins : List (Addr × Obj)) (s : Shared) (σ : St) (H : Hp) (x : V) (xs : List V) (v : Value) (us : List Value) (Q : VK), Inv X pins σ H s → RelV x v → Vals xs us → r x xs H Q →
    wpAny (model X.prog X.w) X.A (call (.builtin id) (v :: us)) (EP X pins σ Q) X.xe s

/-! ### lists of values -/
theorem Vals.one : ∀ {x : V} {us : List Value}, Vals [x] us → ∃ u, us = [u] ∧ RelV x u
  | _, _, .cons r .nil => ⟨_, rfl, r⟩

section
variable {X : Cx} {pins : List (Addr × Obj)} {σ : St} {H : Hp} {s : Shared} {l b : Addr} {xs ys zs : List V}

/-! ### the two steps: a tracked list is rewritten, a new list is laid -/
theorem Inv.lset {its its' : List Value} {n : Nat} {f : Array Value → Array Value} {t' : Nat} (I : Inv X pins σ H s) (hH : H l = some (.lst xs))
    (e : s.heap.get? l = some { cls := .type "list", data := .seq its.toArray n }) (hf : f its.toArray = its'.toArray) (hv : Vals ys its') (hz : ys.length ≤ sizeLine) :
    Inv X pins σ (upd H l (.lst ys)) { s with heap := s.heap.update l (Obj.mapSeq f), toks := t' } := by
  have q := PySem.IsL.update e f
  rw [hf] at q
  refine I.write (x := l) (e := l) (by rw [hH]; exact trivial) (.inl rfl) (fun b' u hb hu => (Heap.get?_update_other s.heap (Obj.mapSeq f) (Ne.symm hb)).trans hu) ⟨_, q⟩ ?_
  exact ⟨hz, its', _, hv, q⟩
theorem Inv.lnew {its : List Value} {t' : Nat} (I : Inv X pins σ H s) (hv : Vals ys its) (hz : ys.length ≤ sizeLine) :
    Inv X pins σ (upd H s.heap.objs.size (.lst ys)) { s with heap := s.heap.push { cls := .type "list", data := .seq its.toArray }, toks := t' } :=
  I.laid (fun _ _ q => Heap.get?_push_of_some _ q) (Nat.le_refl _) ⟨hz, its, 0, hv, Heap.get?_push_size _ rfl⟩
theorem Inv.fresh (I : Inv X pins σ H s) : H s.heap.objs.size = none := I.hok.fresh (Nat.le_refl _)
theorem Inv.lstM (I : Inv X pins σ H s) (hH : H l = some (.lst xs)) : xs.length ≤ sizeLine ∧ ∃ (its : List Value) (n : Nat), Vals xs its ∧ xs.length = its.length ∧ s.heap.get? l = some { cls := .type "list", data := .seq its.toArray n } := by
  obtain ⟨z, its, n, r, e⟩ := I.hok l _ hH
  exact ⟨z, its, n, r, r.length, e⟩

end

section
variable {X : Cx}

/-! ### methods -/
def rAppend : V → List V → Hp → VK → Prop := fun x vs H Q => ∃ l xs y, x = .ref l ∧ vs = [y] ∧ H l = some (.lst xs) ∧ xs.length < sizeLine ∧ Q .non (upd H l (.lst (xs ++ [y])))
theorem mt_append : MtM X "list.append" rAppend := by
  intro pins s σ H x vs v us Q I rx rv h
  obtain ⟨l, xs, y, rfl, rfl, hH, hz, q⟩ := h
  cases rx
  obtain ⟨u, rfl, ru⟩ := rv.one
  obtain ⟨z, its, n, r, hl, e⟩ := I.lstM hH
  refine call_meets F.slot_list_append ⟨_, e, rfl⟩ F.entry_list_append (F.args_list_append_2 _ _) (PySem.list_append l its.toArray n u (by rw [List.size_toArray]; omega)) ⟨e, ?_⟩
  refine ⟨.non, _, I.lset (its' := its ++ [u]) hH e (by simp) (r.append (.cons ru .nil)) ?_, rfl, q⟩
  rw [List.length_append, List.length_singleton]
  omega






/-! ### list + list, list += list, list * int -/
def rCat : R2 := fun x y H Q => ∃ l b xs zs, x = .ref l ∧ y = .ref b ∧ H l = some (.lst xs) ∧ H b = some (.lst zs) ∧ xs.length + zs.length ≤ sizeLine ∧ ∀ p, H p = none → Q (.ref p) (upd H p (.lst (xs ++ zs)))
theorem op_cat : OpR X (binaryOp .Add) rCat := by
  intro pins s σ H x y v u Q I rx ry h
  obtain ⟨l, b, xs, zs, rfl, rfl, hH, hB, hz, q⟩ := h
  cases rx
  cases ry
  obtain ⟨z, its, n, r, hl, e⟩ := I.lstM hH
  obtain ⟨z2, its2, n2, r2, hl2, e2⟩ := I.lstM hB
  refine PySem.P.add_list e e2 ?_ (by rw [List.size_toArray, List.size_toArray]; omega)
  have ea : its.toArray ++ its2.toArray = (its ++ its2).toArray := by simp
  rw [ea]
  exact ⟨.ref _, _, I.lnew (t' := s.toks) (r.append r2) (by rw [List.length_append]; omega), rfl, q _ I.fresh⟩

/-! ### del xs[i] -/
end

/-! ### xs[a:b] = ys -/
section
variable {prog : Program} {w : World} {A : Around} {E : Value → Shared → Prop} {s : Shared}
set_option maxRecDepth 100000 in
end

section
variable {X : Cx}
end
end L2

namespace Att
open PySem PySem.W PySem.Calls PyProof.Rows

/-! ### the script -/
theorem ints_of_wellAll {P : Params} {h : Heap} : ∀ (ns : List Int) (vs : List Value), WellAll P h vs (ns.map WData.int) → IntsAre vs ns := by
  intro ns
  induction ns with
  | nil =>
    intro vs w
    rw [List.map_nil] at w
    cases w
    exact .nil
  | cons n ns ih =>
    intro vs w
    rw [List.map_cons] at w
    cases w with
    | cons a b =>
      cases a
      exact .cons _ _ (ih _ b)

theorem script_of {l : OpenLaw} {n : Nat} (hn : l.most = some n) {P : Params} {h : Heap} {args : List WData} {vals : List Value}
    (hpre : l.row.toRowW.claim.pre args = true) (hwl : WellAll P h vals args) :
    ∃ a vs ns, vals = [Value.ref a] ∧ args = [WData.list (ns.map WData.int)] ∧ h.get? a = some { cls := .type "list", data := .seq vs.toArray } ∧ IntsAre vs ns ∧ ns.length ≤ n := by
  have hsh : WShape.hasAll [] args [.list .int] = true := (pre_splitW hpre).1
  have hc : l.pre.holds [] { args := args } = true := (pre_splitW hpre).2
  obtain ⟨d, r, rfl, h1, h2⟩ := hasAllW_cons hsh
  obtain rfl := hasAllW_nil h2
  obtain ⟨xs, rfl, h3⟩ := hasW_list h1
  obtain ⟨ns, rfl⟩ := items_int h3
  have hlen : ns.length ≤ n := by
    unfold OpenLaw.pre at hc
    have h4 : (WTm.not (.lt (.lit (.int (n : Int))) (.len (.arg 0)))).holds [] { args := [.list (ns.map .int)] } = true := by
      have h4 := (holds_andW hc).1
      rw [hn] at h4
      exact h4
    have h5 := condW_of h4 (w_not (w_lt w_lit (w_len_list (w_arg rfl))))
    rw [List.length_map] at h5
    refine Nat.le_of_not_lt fun q => ?_
    have q' : (n : Int) < ((ns.length : Nat) : Int) := by omega
    first
      | (rw [decide_eq_true q'] at h5; exact absurd h5 (by decide))
      | (simp at h5; omega)
  cases hwl with
  | cons w1 w2 =>
    cases w2
    cases w1 with
    | list ho hall => exact ⟨_, _, ns, rfl, rfl, ho, ints_of_wellAll ns _ hall, hlen⟩

theorem post_true (l : OpenLaw) (args : List WData) : l.row.toRowW.claim.post args (.bool true) args = true :=
  postW_of (r := l.row.toRowW) (X := (true == true))
    (show WShape.has [] (.bool true) .bool = true by first | rfl | decide | simp [WShape.has, WShape.arms, WShape.armsAll])
    (show (WTm.eq .res (.lit (.bool true))).value [] { args := args, res := some (.bool true), after := args } = some (.bool (true == true)) from w_eq_bool (w_res rfl) w_lit) rfl

/-! ### the attachment: holds_open's last premise (the goal 'hc' behind k_head) from a wpAny of the law's body -/

/-- the same from a codeAny of the CALL (for a layer whose function contracts speak of calls) -/
theorem attach_call {l : OpenLaw} {n : Nat} {q : Program} {loose : List Str} {XP : (Str → Option Value) → Heap → Prop} {YP : World → Heap → Prop} {d : DefRec}
    (hn : l.most = some n) (hdf : d.params.defaults = [])
    (call : ∀ (w : World) (s₀ s₁ : Shared) (mg mb : Str → Option Value) (fa : Addr) (o : Obj) (pm cd doc : Value) (a : Addr) (vs : List Value) (ns : List Int),
      Ground q loose [] XP w s₀ mg mb s₁.heap → YP w s₁.heap →
      s₁.heap.get? fa = some o → o.data = .func (docDef d.name d.params d.body d.scope pm cd doc) → s₁.heap.CodeRec cd d.name → mg d.name = some (.ref fa) →
      s₁.heap.get? a = some { cls := .type "list", data := .seq vs.toArray } → IntsAre vs ns → ns.length ≤ n → s₁.gens = #[] →
      codeAny (model l.prog w) callerA (.call (.ref fa) ⟨[.ref a], []⟩) (fun r s' => r = .ok (.ret (.bool true)) ∧ OldK s₁.heap s'.heap ∧ s'.os = s₁.os ∧ AllBare s'.gens) s₁) :
    WalkO q loose XP YP l.row.toRowW d [] (fun f vs => PySem.call f vs) := by
  intro w s₀ s₁ mg mb G Y fa o pm cd doc dV kV ho hd hcd hD hmg hg args vals as hpre hlay hrd hwl hlo
  obtain rfl : dV = .none := Dflts.none hD hdf
  obtain rfl : kV = .none := Dflts.noKw hD
  obtain ⟨a, vs, ns, rfl, rfl, hobj, hints, hlen⟩ := script_of hn hpre hwl
  refine enter_call (codeAny_mono (call w s₀ s₁ mg mb fa o pm cd doc a vs ns G Y ho (fd_plain hd) hcd hmg hobj hints hlen hg) fun r s' hq => ?_)
  obtain ⟨rfl, h2, h3, h4⟩ := hq
  exact ⟨.inl ⟨.bool true, .bool true, [], rfl, fun _ => rfl, .bool true, post_true l _, fun _ => ⟨List.Pairwise.nil, fun _ hm => (nomatch hm)⟩⟩, h2, h3, h4⟩


/-! ### rules over ANY heap (no ledger) from facts about the written part K: the library's own take a ledger (News) for what they write -/
section
variable {prog : Program} {w : World} {A : Around} {E : Value → Shared → Prop} {s : Shared} {K : Frag}





/-! the whole heap as the ledger: makes every rule that writes through a ledger a rule over any heap -/

end
end Att

namespace L2
open PySem PySem.Spec PyProof.Rows

theorem vals_ints : ∀ {vs : List Value} {ns : List Int}, IntsAre vs ns → Vals (ns.map V.int) vs
  | _, _, .nil => .nil
  | _, _, .cons n t h => .cons ⟨t, rfl⟩ (vals_ints h)

/-- nothing is tracked but the script, known to the object (or it is an object of the module) -/
def Only (H : Hp) : Prop := ∀ b, H b = none ∨ ∃ o xs, H b = some (.frz o (.lst xs))

/-- THE HEAD: the law's promise, at the heap behind the top. F, the promise of the law's def, may use that base is part of the heap (so K.In base, base.Ns mainGlobals mg stand in Mod) -/
theorem law_call {P : Program} {w : World} {K : PySem.W.Frag} {mg mb : Str → Option Value} {CX : CXT} {k : Nat} {fa a : Addr} {fd : FuncData} {x : Str} {sp : Sp} {s₁ : Shared} {vs : List Value} {ns : List Int}
    (KX : K.In s₁.heap) (hns : s₁.heap.Ns mainGlobals mg) (hb : s₁.heap.Ns builtinsNs mb) (hbb : ∀ x : Str, x ≠ "__name__" → mb x = bootBuiltins x) (hlim : s₁.heap.NoLimit) (hg : s₁.gens = #[])
    (ha : s₁.heap.get? a = some { cls := .type "list", data := .seq vs.toArray }) (hi : IntsAre vs ns) (hl : ns.length ≤ sizeLine) (hr : Room k callerA)
    (F : ∀ base : Heap, K.In base → base.Ns mainGlobals mg → FnOk P w K mg base CX k fa fd [x] sp) (hbind : ∀ (s : Shared) (u : Value), BindsTo s fd ⟨[u], []⟩ [(x, u)])
    (hsp : ∀ H : Hp, Only H → SqL K H a (ns.map V.int) → sp [.ref a] H (fun v _ => v = .bl true) fun _ _ _ => False)
    (hCX : ∀ H e s', CX [] H s₁ (fun _ _ _ => False) e s' → False) :
    codeAny (model P w) callerA (.call (.ref fa) ⟨[.ref a], []⟩) (fun r s' => r = .ok (.ret (.bool true)) ∧ OldK s₁.heap s'.heap ∧ s'.os = s₁.os ∧ AllBare s'.gens) s₁ := by
  have rv := vals_ints hi
  have lenV := hi.length
  -- from an abstract heap in which nothing but the script may be tracked
  have core : ∀ H : Hp, Only H → SqL K H a (ns.map V.int) → HOk P w H s₁.heap → (∀ b, H b ≠ none → b = a) → (H a ≠ none → K.lookup a = none) →
      codeAny (model P w) callerA (.call (.ref fa) ⟨[.ref a], []⟩) (fun r s' => r = .ok (.ret (.bool true)) ∧ OldK s₁.heap s'.heap ∧ s'.os = s₁.os ∧ AllBare s'.gens) s₁ := by
    intro H hO hS hok hA hK
    have base_of : ∀ {b : Addr} {o : Obj}, s₁.heap.get? b = some o → H b = none → (hidT s₁.heap H).get? b = some o := fun e n => hidT_get e n
    have noA : ∀ {b : Addr} {o : Obj} {es : Array DictEntry} {ep : Nat}, s₁.heap.get? b = some o → o.data = .dict es ep → H b = none := fun {b o es ep} e d => by
      cases q : H b with
      | none => rfl
      | some u =>
        have e' : b = a := hA b (by rw [q]; simp)
        subst e'
        rw [ha] at e; cases e
        have d' : Data.seq vs.toArray _ = Data.dict es ep := d
        cases d'
    have nsK : ∀ {b : Addr} {m : Str → Option Value}, s₁.heap.Ns b m → (hidT s₁.heap H).Ns b m := fun {b m} ⟨o, es, ep, e, d, r⟩ => ⟨o, es, ep, base_of e (noA e d), d, r⟩
    have hKb : K.In (hidT s₁.heap H) := fun b o e => base_of (KX b o e) (by
      cases q : H b with
      | none => rfl
      | some u =>
        have e' : b = a := hA b (by rw [q]; simp)
        subst e'
        rw [hK (by rw [q]; simp)] at e; cases e)
    have hM : Mod K mg (hidT s₁.heap H) := ⟨hKb, nsK hns, ⟨mb, nsK hb, hbb⟩, let ⟨mc, h1, h2⟩ := hlim; ⟨mc, nsK h1, h2⟩⟩
    have e0 : Env0 P w K mg (hidT s₁.heap H) callerA [] s₁ H := ⟨rfl, hM, fun b o e => of_hidT e, Nat.le_of_eq (hidT_size _ _), trivial, fun b hb => absurd (show b ∈ ([] : List Addr) from hb) (by simp), hok, .of_eq hg⟩
    refine codeAny_mono ((F _ hKb (nsK hns)).run callerA [] s₁ H ⟨[.ref a], []⟩ [.ref a] [.ref a] _ _ hr e0 (hbind s₁ (.ref a)) (.cons rfl .nil) (hsp H hO hS)) fun r s' h => ?_
    cases r with
    | error e => exact (hCX H e s' h).elim
    | ok fl =>
      cases fl with
      | next => exact False.elim h
      | brk => exact False.elim h
      | cont => exact False.elim h
      | ret u =>
        obtain ⟨v, H', os, bare, un, hok', r', q⟩ := h
        have q' : v = .bl true := q
        subst q'
        obtain rfl : u = Value.bool true := r'
        refine ⟨rfl, OldK.of_keep fun b o e => ?_, os, bare⟩
        cases q : H b with
        | none => exact un.keep b o e q (by intro z; exact absurd (show b ∈ ([] : List Addr) from z) (by simp)) (by simp)
        | some u =>
          rcases hO b with z | ⟨ob, xs, z⟩
          · rw [q] at z; cases z
          · have z2 := un.frzs b ob _ z
            obtain ⟨e1, _⟩ := hok b _ z
            obtain ⟨e2, _⟩ := hok' b _ z2
            rw [e] at e1; cases e1
            exact e2
  cases hk : K.lookup a with
  | some o =>
    -- the script is one of the module's own objects
    have e := KX a o hk
    rw [ha] at e
    cases e
    refine core (fun _ => none) (fun _ => .inl rfl) (.inr ⟨_, vs.toArray, _, hk, rfl, rfl, rfl, by rw [List.size_toArray, lenV]; exact hl, by simpa using rv⟩) (fun b u z => by have z' : (none : Option HO) = some u := z; cases z') (fun b z => absurd rfl z) fun z => absurd rfl z
  | none =>
    refine core (fun b => if b = a then some (.frz { cls := .type "list", data := .seq vs.toArray } (.lst (ns.map V.int))) else none) (fun b => ?_) (.inl (.inr ⟨{ cls := .type "list", data := .seq vs.toArray }, if_pos rfl⟩)) (fun b u z => ?_) (fun b z => ?_) fun _ => hk
    · by_cases hb : b = a
      · exact .inr ⟨_, _, if_pos hb⟩
      · exact .inl (if_neg hb)
    · by_cases hb : b = a
      · have z' := (if_pos hb).symm.trans z
        cases z'
        subst hb
        exact ⟨ha, by rw [List.length_map]; exact hl, vs, _, rv, ha⟩
      · have z' := (if_neg hb).symm.trans z
        cases z'
    · by_cases hb : b = a
      · exact hb
      · exact absurd (if_neg hb) z
end L2

namespace L2
open PySem PySem.Spec PyProof.Rows


/-- the goal that k_head leaves (case hc), from the law's promise. F gives the function object fd (K's own) once, then the promise over every base -/
theorem walk_of {l : PySem.W.OpenLaw} {n k : Nat} {q : Program} {loose : List Str} {XP : (Str → Option Value) → Heap → Prop} {YP : World → Heap → Prop} {d : DefRec} {K : Params → PySem.W.Frag} {CX : World → CXT} {sp : World → Sp} {x : Str}
    (hn : l.most = some n) (hn2 : n ≤ sizeLine) (hdf : d.params.defaults = []) (hr : Room k callerA)
    (hY : ∀ (w : World) (h : Heap), YP w h → (K w.params).In h)
    (F : ∀ (w : World) (mg : Str → Option Value) (fa : Addr) (h : Heap), (K w.params).In h → h.Ns mainGlobals mg → mg d.name = some (.ref fa) →
      ∃ fd : FuncData, (∀ (s : Shared) (u : Value), BindsTo s fd ⟨[u], []⟩ [(x, u)]) ∧
        ∀ base : Heap, (K w.params).In base → base.Ns mainGlobals mg → FnOk l.prog w (K w.params) mg base (CX w) k fa fd [x] (sp w))
    (hsp : ∀ (w : World) (H : Hp) (a : Addr) (ns : List Int), ns.length ≤ n → Only H → SqL (K w.params) H a (ns.map V.int) → sp w [.ref a] H (fun v _ => v = .bl true) fun _ _ _ => False)
    (hCX : ∀ (w : World) (H : Hp) (s : Shared) (e : Value) (s' : Shared), CX w [] H s (fun _ _ _ => False) e s' → False) :
    PySem.W.WalkO q loose XP YP l.row.toRowW d [] (fun f vs => PySem.call f vs) := by
  refine Att.attach_call hn hdf fun w s₀ s₁ mg mb fa o pm cd doc a vs ns G Y ho hd hcd hmg hobj hints hlen hg => ?_
  have KX := hY w _ Y
  obtain ⟨fd, hb, hF⟩ := F w mg fa _ KX G.T.g hmg
  exact law_call KX G.T.g G.T.b G.T.builtins G.T.nolimit hg hobj hints (Nat.le_trans hlen hn2) hr hF hb (fun H hO hS => hsp w H a ns hlen hO hS) fun H e s' => hCX w H s₁ e s'
end L2

/- THE LAST THEOREM (shape; LID, My.* are yours):
   My.Adr: a structure of the addresses that your layer names (classes, functions); My.Txt K t: a structure (Prop) of the equations over K;
   My.txt_mk : {K} {implicit addresses ..} (e1 : nsIn K mainGlobals "law" = some (some (.ref f))) (e2 : K.lookup f = some ⟨oc, od, .func (fnOf "law" "law" params body scope dV kV doc pm an cdv ct), sl⟩) (e3 : codeIn K cdv "law" = true) .. : ∃ t, My.Txt K t

set_option maxRecDepth 100000 in
set_option maxHeartbeats 0 in
theorem PySem.Challenge.cw_LID_holds : PySem.Challenge.rw_LID.Holds := by
  w_on; o_law; k_head; (case hw => w_witness2)
  k_fill
  refine L2.walk_of (l := PySem.Challenge.rw_LID) (n := 63) (k := 40) (x := "script") (CX := fun w => ..) (sp := fun _ => My.sp_law) rfl (by decide) rfl ⟨rfl, by decide, by decide⟩ (fun w h Y => PySem.W.kIn_of Y) ?F ?S ?C
  case F =>
    intro w mg fa h KX G hmg
    have T : ∃ t, My.Txt (L2.KOf KX) t := by
      dsimp only [L2.KOf]                          -- K must stand as «<heap const> w.params» for k_is
      refine' My.txt_mk ?e1 ?e2 ?e3 ..
      (case e1 => PySem.W.k_is)                    -- in the order: a name -> its address -> its object -> its parts
      (case e2 => PySem.W.k_is)
      ..
    obtain ⟨t, T⟩ := T
    have e0 := hmg.symm.trans (PySem.W.mg_of KX G T.law)
    cases e0                                       -- fa is the law's own address
    exact ⟨_, fun s u => .of_eq rfl, fun base kb nb => My.law_fn T kb nb⟩     -- if «.of_eq rfl» comes too early: refine' ⟨_, ?b, fun base kb nb => My.law_fn T kb nb⟩; exact fun s u => .of_eq rfl
  case S => exact fun w H a ns hl hO hS => ..
  case C => exact ..
(the tactic k_is has no namespace: write k_is) -/

/-! SHORT WORDS over the layer: a def of the text, its body, what a loop and a test want. -/
namespace L2
open PySem PySem.Spec PyProof.Rows

/-! ### the text by places -/
def defArgs (s : Stmt) : Arguments := match s with
  | .FunctionDef _ a _ _ _ _ _ _ _ _ => a
  | _ => { posonlyargs := [], args := [], vararg := none, kwonlyargs := [], kw_defaults := [], kwarg := none, defaults := [] }
def defBody (s : Stmt) : List Stmt := match s with
  | .FunctionDef _ _ b _ _ _ _ _ _ _ => b
  | _ => []
def defScope (s : Stmt) : Scope := match s with
  | .FunctionDef _ _ _ _ _ _ sc _ _ _ => sc
  | _ => { kind := .function, names := [], isGenerator := false, isCoroutine := false }

/-! ### no exception leaves a def -/
abbrev CX0 : CXT := fun _ _ _ _ _ _ => False
abbrev E0 : XK := fun _ _ _ => False
theorem pass0 {X : Cx} : Passes CX0 X E0 := fun _ _ _ _ _ _ _ h => h.elim

/-! ### a def (or method) of the text as it stands behind the top -/
structure Fun (K : PySem.W.Frag) (x qual : Str) (st : Stmt) (f : Addr) (fd : FuncData) : Prop where
  ex : ∃ (oc : Value) (od : Option Addr) (kV doc pm : Value) (an : Option Addr) (cdv ct : Value) (osl : Array (Option Value)),
    fd = PySem.W.fnOf x qual (defArgs st) (defBody st) (defScope st) .none kV doc pm an cdv ct ∧ K.lookup f = some ⟨oc, od, .func fd, osl⟩ ∧ PySem.W.codeIn K cdv qual = true
  kp : PySem.W.keepIn K (.ref f) = true
section
variable {P : Program} {w : World} {K : PySem.W.Frag} {mg : Str → Option Value} {base : Heap}
/-- THE RULE for a def: its body as a term of rules, and the reading of that term -/
theorem Fun.ok {x qual : Str} {st : Stmt} {f : Addr} {fd : FuncData} {N ps : List Str} {k : Nat} {sp : Sp} (F : Fun K x qual st f fd) (S : FnScope N ps (defScope st)) (len : ∀ vs H Q E, sp vs H Q E → vs.length = ps.length)
    (hbody : ∀ (cdv : Value) (A : Around) (outer : List Env) (s : Shared) (H : Hp) (vs : List V) (Q : VK) (E : XK), Room k (A.deeper (envOfC qual (defScope st) s.heap.objs.size f cdv)) → sp vs H Q E →
      ∃ t, PSs (cxOf CX0 P w K mg base N qual (defScope st) f cdv A outer s H E).nox (defBody st) t ∧ t { nx := fun _ H' => Q .non H', rt := Q } (start N vs) H) : FnOk P w K mg base CX0 (k + 1) f fd ps sp := by
  obtain ⟨oc, od, kV, doc, pm, an, cdv, ct, osl, rfl, lk, hcd⟩ := F.ex
  refine fn_of lk hcd S len fun A outer s H vs Q E hr hsp => ?_
  obtain ⟨t, h, q⟩ := hbody cdv A outer s H vs Q E hr hsp
  exact ⟨t, h.nox, q⟩
/-- how its arguments bind (no defaults): h is «fun _ _ _ _ _ _ us hl => match us, hl with | [_, _], _ => rfl», one _ a parameter -/
theorem Fun.binds {x qual : Str} {st : Stmt} {f : Addr} {fd : FuncData} {ps : List Str} (F : Fun K x qual st f fd)
    (h : ∀ (kV doc pm : Value) (an : Option Addr) (cdv ct : Value) (us : List Value), us.length = ps.length → bindArgs (PySem.W.fnOf x qual (defArgs st) (defBody st) (defScope st) .none kV doc pm an cdv ct) ⟨us, []⟩ = pure (ps.zip us)) : Binds K fd ps [] := by
  obtain ⟨oc, od, kV, doc, pm, an, cdv, ct, osl, rfl, lk, hcd⟩ := F.ex
  exact .all (h kV doc pm an cdv ct)
theorem fun_mk {x qual : Str} {st : Stmt} {f : Addr} {oc : Value} {od an : Option Addr} {osl : Array (Option Value)} {kV doc pm cdv ct : Value} (l : K.lookup f = some ⟨oc, od, .func (PySem.W.fnOf x qual (defArgs st) (defBody st) (defScope st) .none kV doc pm an cdv ct), osl⟩)
    (c : PySem.W.codeIn K cdv qual = true) (k : PySem.W.keepIn K (.ref f) = true) : Fun K x qual st f (PySem.W.fnOf x qual (defArgs st) (defBody st) (defScope st) .none kV doc pm an cdv ct) := ⟨⟨oc, od, kV, doc, pm, an, cdv, ct, osl, rfl, l, c⟩, k⟩
end
theorem small1000 {n : Nat} (h : n ≤ 1000) : n < sizeLine := Nat.lt_of_le_of_lt h (by decide)

/-! ### expressions in short: the name that stands in the i-th slot -/
section
variable {X : Cx}
theorem pv (i : Nat) {x : Str} {pos : Pos} (hN : X.N[i]? = some x := by rfl) (hv : Vis X.env.scope x := by first | exact Or.inl rfl | exact Or.inr (Or.inl rfl) | exact Or.inr (Or.inr rfl)) (hd : (x == ("__debug__" : Str)) = false := by decide)
    (hcd : (x == ("__classdict__" : Str)) = false := by decide) : PE X (.Name x pos) (tVar i) := pe_var hN hv hd hcd
end

/-! ### tests -/
theorem iteF {A B : Prop} (h : B) : if false = true then A else B := by
  rw [if_neg Bool.false_ne_true]
  exact h
theorem iteT {A B : Prop} (h : A) : if true = true then A else B := by
  rw [if_pos rfl]
  exact h
theorem ite2 {c A B : Prop} [Decidable c] (h1 : c → A) (h2 : ¬ c → B) : if c then A else B := by
  by_cases h : c
  · rw [if_pos h]
    exact h1 h
  · rw [if_neg h]
    exact h2 h
theorem iteNS {c A B : Prop} [Decidable c] (hc : c) (h : B) : if (!decide c) = true then A else B := by
  rw [decide_eq_true hc]
  exact iteF h

/-! ### heaps -/
/-- all that was tracked is as it was -/
def Same (H H' : Hp) : Prop := ∀ b o, H b = some o → H' b = some o
theorem Same.refl (H : Hp) : Same H H := fun _ _ h => h
theorem Same.trans {H H1 H2 : Hp} (a : Same H H1) (b : Same H1 H2) : Same H H2 := fun c o h => b c o (a c o h)
theorem Same.free {H H' : Hp} (e : Same H H') {l : Addr} (h : H' l = Option.none) : H l = Option.none := by
  cases q : H l with
  | none => rfl
  | some o =>
    rw [e l o q] at h
    cases h
theorem Same.seq {K : PySem.W.Frag} {H H' : Hp} {a : Addr} {xs : List V} (e : Same H H') (h : SqL K H a xs) : SqL K H' a xs := by
  rcases h with (h | ⟨o, h⟩) | h
  · exact .inl (.inl (e _ _ h))
  · exact .inl (.inr ⟨o, e _ _ h⟩)
  · exact .inr h

end L2

set_option maxHeartbeats 4000000
namespace L2
open PySem PySem.Spec PyProof.Rows

/-! ### an exception in flight -/


section
variable {P : Program} {w : World} {outer : List Env} {H H' : Hp} {h h' h2 B : Heap} {ea : Addr} {cls a0 : Value}
end


/-! ### an exception is made and leaves its def -/


section
variable {P : Program} {w : World} {K : PySem.W.Frag} {mg : Str → Option Value} {base : Heap} {N : List Str} {qual : Str} {scope : Scope} {f : Addr} {cd : Value} {A : Around} {outer : List Env} {s₀ : Shared} {H₀ : Hp} {E : XK}


end
end L2

set_option maxHeartbeats 4000000
namespace L2
open PySem PySem.Spec PyProof.Rows

/-! ### raise C(e): an own class under ValueError -/
abbrev veTail : List Value := [.type "ValueError", .type "Exception", .type "BaseException", .type "object"]
def ExcIs (K : PySem.W.Frag) (C : Addr) : Prop := PySem.W.excIn K C veTail "ValueError.__new__" = true


section
variable {X : Cx} {x : Str} {C : Addr} {R : Hp → Prop} {e₀ : Expr} {ta : TA} {np cpos pos : Pos}
end
end L2

set_option maxHeartbeats 4000000
namespace L2
open PySem PySem.Spec PyProof.Rows PySem.W PySem.Calls Builtin Builtin.ObjectAttr Builtin.Getset_descriptor

/-! ### isinstance(e, c), e a caught exception of an own class -/
structure ExcK (K : Frag) (C : Addr) : Prop where
  exc : ExcIs K C
  cl : (clsIn K C).isSome = true
  ga : findIn K (.ref C) "__getattribute__" = some (some (.builtin "BaseException.__getattribute__"))
  gh : findIn K (.ref C) "__getattr__" = some none
  ca : findIn K (.ref C) "__class__" = some (some (.builtin "object.__class__"))
  cg : specialIn K (.builtin "object.__class__") "__get__" = some (some (.builtin "getset_descriptor.__get__"))
  ct : takesIn K (.builtin "object.__class__") = some true
  mo : mroIn K C (.type "object") = some true
  mb : mroIn K C (.type "BaseException") = some true

def ExcAt (e C : Addr) (h : Heap) : Prop := ∃ o, h.get? e = some o ∧ o.cls = .ref C

section
variable {K : Frag} {e C : Addr}
theorem ExcAt.ty {M : Model} {h : Heap} (p : ExcAt e C h) : Looks M h (typeOf (.ref e)) (.ref C) := by
  obtain ⟨o, h1, h2⟩ := p
  exact h2 ▸ (Looks.ld h1).andThen .now

theorem exc_found {M : Model} {h : Heap} (X : K.In h) (T : ExcK K C) : Looks M h (find (.ref e) (.ref C) "__class__") (.bind (.builtin "getset_descriptor.__get__") (.builtin "object.__class__")) := by
  have L1 := looks_findIn (M := M) X T.ca
  have L2 := looks_specialIn (M := M) X T.cg
  have L3 := looks_takesIn (M := M) X T.ct
  refine L1.andThen (L2.andThen ?_)
  exact (show Looks M h (dataDescriptor? (some _) (some _)) (some (_, _)) from L3.andThen .now).andThen (Looks.tag .now)

variable {prog : Program} {w : World} {A : Around} {E : Value → Shared → Prop} {s : Shared} {R : Result → Shared → Prop}
theorem exc_class_get {tp : Value} (X : K.In s.heap) (T : ExcK K C) (p : ExcAt e C s.heap) (h : R (.ok (.ret (.ref C))) s) :
    codeAny (model prog w) A (.call (.builtin "getset_descriptor.__get__") ⟨[.builtin "object.__class__", .ref e, tp], []⟩) R s := by
  obtain ⟨hh, g, dr, t, os⟩ := s
  have La := p.ty (M := model prog w)
  have Lb := looks_mroIn (M := model prog w) X T.mo
  refine codeAny_call_builtin KF.slot_gs.plain KF.entry_gs (KF.slot_gs.check _ _ _ _ _ _ _ _ KF.type_class (KF.args_gs _ _ _) ?_)
  unfold Builtin.«getset_descriptor.__get__» descrGet
  rw [dga_obj]
  refine wpAny_bind (wpAny_pure ?_)
  unfold descrGetter descrCheckInstance descrNameAndClass isInstance
  simp only [KF.owner_class]
  repeat lk
  refine ⟨Code.quiet_builtin _ (by decide +kernel), codeAny_builtin KF.entry_class ?_⟩
  unfold Builtin.«object.__class__» shownTypeOf
  repeat lk
  exact h
end
end L2

set_option maxHeartbeats 4000000
namespace L2
open PySem PySem.Spec PyProof.Rows PySem.W PySem.Calls Builtin Builtin.ObjectAttr Builtin.Getset_descriptor
section
variable {K : Frag} {e C : Addr} {prog : Program} {w : World} {A : Around} {E : Value → Shared → Prop} {s : Shared} {R : Result → Shared → Prop}

theorem exc_ga_check {M : Model} {nameV : Value} {Q : Unit → Shared → Prop} (X : K.In s.heap) (T : ExcK K C) (p : ExcAt e C s.heap) (hq : Q () s) :
    wpAny M A (checkBuiltinCall "BaseException.__getattribute__" ⟨[.ref e, nameV], []⟩) Q E s := by
  have hk : builtinKind "BaseException.__getattribute__" = some .slot := by decide +kernel
  have hsp : splitId "BaseException.__getattribute__" = some ("BaseException", "__getattribute__") := by decide +kernel
  have ha := F.args_bexc_ga (.ref e) nameV
  have Li : Looks M s.heap (isInstance (.ref e) (.type "BaseException")) true := p.ty.andThen (looks_mroIn X T.mb)
  obtain ⟨hh, g, dr, t, os⟩ := s
  simp only [checkBuiltinCall, hk, hsp]
  refine wpAny_bind (Li.at ?_)
  repeat (first | wp_step)
  exact hq

theorem exc_ga_body {tk : Tok} {Q : Fin → Shared → Prop} (X : K.In s.heap) (T : ExcK K C) (p : ExcAt e C s.heap) (hq : Q (.done (.ret (.ref C))) s) :
    wpAny (model prog w) A (Builtin.«object.__getattribute__» ⟨[.ref e, .str "__class__" tk], []⟩) Q E s := by
  have La := p.ty (M := model prog w)
  have Lf := exc_found (M := model prog w) (e := e) X T
  obtain ⟨hh, g, dr, t, os⟩ := s
  unfold Builtin.«object.__getattribute__»
  repeat (first | with_reducible refine La.at ?_ | with_reducible refine Lf.at ?_ | wp_step)
  refine exc_class_get X T p ?_
  exact wpAny_pure hq

theorem exc_getclass {Q : Option Value → Shared → Prop} (X : K.In s.heap) (T : ExcK K C) (p : ExcAt e C s.heap) (h : Q (some (.ref C)) { s with toks := s.toks + 1 }) :
    wpAny (model prog w) A (getAttr? (.ref e) "__class__") Q E s := by
  have La := p.ty (M := model prog w)
  have Lga := looks_findIn (M := model prog w) X T.ga
  have Lgh := looks_findIn (M := model prog w) X T.gh
  have f3 := F.attr_ValueError.ga.bind (.ref e)
  have hx2 : (Value.builtin "BaseException.__getattribute__" == Value.builtin "object.__getattribute__") = false := by decide +kernel
  obtain ⟨hh, g, dr, t, os⟩ := s
  unfold getAttr? getAttrBy? getAttrBy
  refine wpAny_bind (wpAny_mkText (wpAny_bind (wpAny_attempt (wpAny_holding (wpAny_bind (La.at (wpAny_bind (Lga.at ?_))))))))
  dsimp only
  rw [if_neg (by rw [hx2]; simp)]
  unfold getAttrByItsOwn hookBefore
  refine wpAny_bind (Lgh.at ?_)
  refine wpAny_bind (wpAny_attempt (wpAny_holding ?_))
  unfold callGetattribute boundAndCalled
  rw [if_neg (by simp)]
  rw [f3]
  refine wpAny_bind (wpAny_pure ?_)
  refine wpAny_call (codeAny_call_builtin F.attr_ValueError.ga.plain F.entry_bexc_ga (exc_ga_check X T p (exc_ga_body X T p ?_)))
  refine wpAny_pure (wpAny_pure ?_)
  exact h

theorem kitx_exc (T : ExcK K C) : KitX K (.ref e) (.ref C) (ExcAt e C) where
  ty := fun _ _ _ p => p.ty
  it := fun _ _ X _ => by
    have z0 := T.cl
    unfold clsIn at z0
    split at z0
    · next c' d' cd' sl' ho =>
      intro A' Q' E' s' k q
      unfold isType loadHead
      exact wpAny_bind (wpAny_loadPart (k _ _ (X _ _ ho)) (wpAny_pure q))
    · cases z0
  ne := fun h tp dd its n sl X htp => by
    have z0 := T.cl
    refine Bool.eq_false_iff.mpr fun q => ?_
    have eq : C = tp := Value.ref.inj (beq_iff_eq.mp q)
    subst eq
    unfold clsIn at z0
    split at z0
    · next c' d' cd' sl' ho =>
      have z := (X _ _ ho).symm.trans htp
      cases z
    · cases z0
  ca := fun X p k => exc_getclass X T p k
end

/-! a caught exception in the abstract heap -/
def excO (e C : Addr) : HO := .ext (ExcAt e C)

section
variable {X : Cx}
/-- isinstance(x, c): a value of a kind that TyOf knows, or a caught exception -/
inductive IsC : V → Value → Prop where
  | ty (n : String) : IsC (.ty n) (.type n)
  | ref (a : Addr) : IsC (.ref a) (.ref a)
def rIsi (K : PySem.W.Frag) : List V → Hp → VK → Prop := fun xs H Q => ∃ x y c b, xs = [x, y] ∧ IsC y c ∧ ((∃ t, TyOf K H x t ∧ PySem.W.kitOne K t c = some b) ∨ ∃ e C, x = .ref e ∧ H e = some (excO e C) ∧ ExcK K C ∧ PySem.W.kitOne K (.ref C) c = some b) ∧ Q (.bl b) H
theorem call_isinst : CallR X (.builtin "isinstance") (rIsi X.K) := by
  intro pins s σ H xs us Q I r h
  obtain ⟨x, y, c, b, rfl, ry, hh, q⟩ := h
  obtain ⟨u, v, rfl, rx, rv⟩ := vals2 r
  have ec : v = c := by
    cases ry with
    | ty n => exact rv
    | ref a => exact rv
  subst ec
  rcases hh with ⟨t, ty, e⟩ | ⟨ea, C, rfl, he, T, e⟩
  · exact isinst_ok I rx ty e fun tk => ⟨.bl b, H, I.tok tk, rfl, q⟩
  · cases (show u = Value.ref ea from rx)
    obtain ⟨p, _⟩ := (show ObjOk X.prog X.w H s.heap ea (excO ea C) from I.hok ea _ he)
    exact kia_one (kitx_exc T) I.kIn p e (fun z => nomatch z) fun tk => ⟨.bl b, H, I.tok tk, rfl, q⟩
end
end L2

set_option maxHeartbeats 4000000
namespace L2
open PySem PySem.Spec PyProof.Rows

/-! ### try: .. except C as n: .. -/




section
variable {X : Cx}

end
end L2

set_option maxHeartbeats 4000000
namespace L2
open PySem PySem.Spec PyProof.Rows

/-! ### [e for t in it if c]: the block's context -/
abbrev Cx.blk (X : Cx) (NB : List Str) (scope : Scope) (C : Addr) (s : Shared) (H : Hp) (fp : List Addr) (pn : List (Addr × Obj)) : Cx :=
  { X with N := NB, s₀ := s, H₀ := H, env := compEnv scope C X.env, outer := X.stack, ex := fp, fn := fun _ => false, pn := pn, xe := fun _ _ => False }

/-- the tests of a comprehension -/
def PTs (Y : Cx) (ifs : List Expr) (t : TT) : Prop :=
  ∀ (pins : List (Addr × Obj)) (s : Shared) (σ : St) (H : Hp) (Q : Bool → Hp → Prop), Inv Y pins σ H s → t σ H Q →
    wpAny (model Y.prog Y.w) Y.A (forIn ifs true fun c r => if r = true then do let ok ← isTrue c Y.env (eval c Y.env); pure (ForInStep.yield ok) else pure (ForInStep.yield r)) (TP Y pins σ Q) Y.xe s
def tYes : TT := fun _ H Q => Q true H
theorem pts_nil {Y : Cx} : PTs Y [] tYes := fun _ _ _ H _ I h => wpAny_tests_nil ⟨H, I, h⟩
theorem pts_one {Y : Cx} {c : Expr} {t : TT} (h : PT Y c t) : PTs Y [c] t := fun pins s σ H Q I hq => wpAny_tests_one (h pins s σ H Q I hq)

def tComp (nB : Nat) (wi : TI) (g : TG) (tc : TT) (te : TE) : TE := fun σ H Q => wi σ H fun J H1 => ∀ acc, H1 acc = none →
  ∃ W : Nat → Nat → List V → Hp → Prop, (∃ m, W 0 m [] (upd H1 acc (.lst []))) ∧ ∀ i m ys H, W i m ys H → H acc = some (.lst ys) ∧
    ((J.stop i H ∧ Q (.ref acc) H) ∨ (J.go i H ∧ ∀ x H', J.yld i H x H' → g x (List.replicate nB none) H' fun σ2 H2 => tc σ2 H2 fun b H3 =>
      if b = true then te σ2 H3 fun y H4 => H4 acc = some (.lst ys) ∧ ys.length < sizeLine ∧ ∃ m', m' < m ∧ W (i + 1) m' (ys ++ [y]) (upd H4 acc (.lst (ys ++ [y])))
      else ∃ m', m' < m ∧ W (i + 1) m' ys H3))

section
variable {X : Cx} {NB : List Str} {scope : Scope}
theorem blk_inv {pins : List (Addr × Obj)} {σ : St} {H : Hp} {s : Shared} {h4 : Heap} {tk : Nat} {fp : List Addr} (I : Inv X pins σ H s) (hk : scope.kind = .function) (hfree : ∀ x ∈ scope.names, x.2 ≠ .free) (hcell : ∀ x ∈ scope.names, x.2 ≠ .cell)
    (hf : ∀ b ∈ fp, FpOk X pins H b) (ho : ∀ b ∈ fp, b < s.heap.objs.size) {m : Str → Option Value} (hn : h4.Ns s.heap.objs.size m) (keep : ∀ b o, s.heap.get? b = some o → h4.get? b = some o) :
    Inv (X.blk NB scope s.heap.objs.size s H fp (X.pn ++ pins)) [] (List.replicate NB.length none) H { s with heap := h4, toks := tk } := by
  have stk : ∀ b, b ≠ X.env.locals → b ∉ X.fs → b ∉ frs X.stack := fun b h1 h2 z => (List.mem_cons.mp (I.stkSub b z)).elim h1 h2
  have nok : ∀ x k, scope.names.lookup x = some k → k ≠ .cell ∧ k ≠ .free := fun x k q => ⟨hcell (x, k) (PySem.mem_of_lookup q), hfree (x, k) (PySem.mem_of_lookup q)⟩
  refine ⟨⟨I.ok.mod, hk, I.ok.glob, I.ok.blt, Nat.le_refl _, fun x y c q => (nomatch q), fun x q => ?_, fun x c q => (nomatch q), I.ok.hd, I.ok.frames, .inl rfl, fun b hb => ⟨Nat.ne_of_lt (ho b hb), fun x c q => (nomatch q)⟩, I.bs, Nat.le_trans I.ok.bsz I.sz,
    fun b o q hb => ?_, fun b hb => stk b (hf b hb).2.1 (hf b hb).2.2.1, I.stack, I.stkFree⟩, rfl, I.bare, Un.kept keep, ⟨m, hn, fun i x v q1 q2 => ?_⟩, fun x c q => (nomatch q), I.hok.fresh (Nat.le_refl _), fun x c q => (nomatch q), fun p hp => ?_, I.hok.kept keep, ?_⟩
  · rcases q with q | q
    · exact absurd rfl (nok x _ q).1
    · exact absurd rfl (nok x _ q).2
  · rcases (hf b hb).2.2.2.1 with z | z
    · exact I.ok.noex b o q z
    · exact absurd (Nat.lt_of_lt_of_le (Heap.lt_size q) (Nat.le_trans I.ok.bsz z)) (Nat.lt_irrefl _)
  · rw [List.getElem?_replicate] at q2
    split at q2 <;> cases q2
  · have hp' : p ∈ X.pn ++ pins := by simpa using hp
    obtain ⟨q, n, ne, nf, d⟩ := I.pin p hp'
    exact ⟨keep _ _ q, n, Nat.ne_of_lt (Heap.lt_size q), stk _ ne nf, d⟩
  · rw [List.length_replicate]

theorem blk_back {pins : List (Addr × Obj)} {σ σ' : St} {H H' : Hp} {s s' : Shared} {h2 : Heap} {fp : List Addr} {pl : List (Addr × Obj)} (I : Inv X pins σ H s) (hf : ∀ b ∈ fp, FpOk X pins H b) (ho : ∀ b ∈ fp, b < s.heap.objs.size)
    (J : Inv (X.blk NB scope s.heap.objs.size s H fp (X.pn ++ pins)) pl σ' H' s') (hs : Heap.SameBut s.heap.objs.size s'.heap h2) : Inv X pins σ H' { s' with heap := h2 } := by
  have u := J.base
  have low : ∀ b o, s.heap.get? b = some o → b ≠ s.heap.objs.size := fun b o q => Nat.ne_of_lt (Heap.lt_size q)
  refine I.call' (s' := { s' with heap := h2 }) (ch := fp) J.os ⟨fun b o q n hb he => (hs.2 b (low b o q)).trans (u.keep b o q n hb he), fun b o q n hb he => ?_, u.free, fun b o q he => ?_, u.tups, u.frzs, u.tbls⟩ (fun b o q => ?_) J.bare fun b hb => ?_
  · obtain ⟨sl, z⟩ := u.slot b o q n hb he
    exact ⟨sl, (hs.2 b (low b o q)).trans z⟩
  · obtain ⟨o', z⟩ := u.there b o q he
    exact ⟨o', (hs.2 b (low b o q)).trans z⟩
  · refine (J.hok b o q).stay (fun c w' hc r => (hs.2 c ?_).trans r) (fun _ r => r) fun _ _ r => r
    have fr : H' s.heap.objs.size = none := J.free
    rintro rfl
    rcases hc with rfl | hc
    · rw [fr] at q; cases q
    · rw [fr] at hc; cases hc
  · obtain ⟨f0, f1, f2, f3, f4, f5⟩ := hf b hb
    exact ⟨f3, f1, f4, f5⟩

theorem pe_comp {elt tg iter : Expr} {ifs : List Expr} {pos : Pos} {wi : TI} {g : TG} {tc : TT} {te : TE} (hk : scope.kind = .function) (hfree : ∀ x ∈ scope.names, x.2 ≠ .free) (hcell : ∀ x ∈ scope.names, x.2 ≠ .cell)
    (hnames : ∀ x ∈ scope.names, x.2 = .local → scope.names.lookup x.1 = some .local) (hc : X.calm = true) (hi : PI X tg iter wi)
    (hg : ∀ C s H fp pn, PG (X.blk NB scope C s H fp pn) tg g) (ht : ∀ C s H fp pn, PTs (X.blk NB scope C s H fp pn) ifs tc) (he : ∀ C s H fp pn, PE (X.blk NB scope C s H fp pn) elt te)
    (hs : ∀ x, foldedSetIterable iter X.env x = pure x := by intro _; rfl) : PE X (.ListComp elt [⟨tg, iter, ifs, 0⟩] scope pos) (tComp NB.length wi g tc te) := by
  intro pins s σ H Q I h
  refine wpAny_ListComp hfree hk hnames (thn (hi pins s σ H _ I h) fun v s1 h1 => thn h1 fun itv s2 h2 => ?_) hs
  obtain ⟨it, fp, tn, J, H2, rfl, I2, T, st2, f2, h2⟩ := h2
  have lt2 : ∀ b ∈ fp, b < s2.heap.objs.size := fun b hb => by
    obtain ⟨o, q, _⟩ := T.obj 0 _ st2 b hb
    exact Heap.lt_size q
  refine wpAny_newObj_type ?_
  have hz : H2 s2.heap.objs.size = none := I2.hok.fresh (Nat.le_refl _)
  obtain ⟨W, ⟨m0, w0⟩, turn⟩ := h2 s2.heap.objs.size hz
  have I3 : Inv X pins σ (upd H2 s2.heap.objs.size (.lst [])) { s2 with heap := s2.heap.push { cls := .type "list", dict := none, data := .seq ([] : List Value).toArray } } :=
    I2.laid (t' := s2.toks) (fun b o q => Heap.get?_push_of_some _ q) (Nat.le_refl _) ⟨Nat.zero_le _, [], 0, .nil, Heap.get?_push_size _ rfl⟩
  generalize hs3 : ({ s2 with heap := s2.heap.push { cls := .type "list", dict := none, data := .seq ([] : List Value).toArray } } : Shared) = s3 at I3 ⊢
  have ups3 : ∀ b o, s2.heap.get? b = some o → s3.heap.get? b = some o := fun b o q => by rw [← hs3]; exact Heap.get?_push_of_some _ q
  have f3 : ∀ b ∈ fp, FpOk X pins (upd H2 s2.heap.objs.size (.lst [])) b := fun b hb => ⟨by rw [upd_ne (Nat.ne_of_lt (lt2 b hb))]; exact (f2 b hb).1, (f2 b hb).2⟩
  have lt3 : ∀ b ∈ fp, b < s3.heap.objs.size := fun b hb => by
    obtain ⟨o, q, _⟩ := T.obj 0 _ st2 b hb
    exact Heap.lt_size (ups3 b o q)
  refine wpAny_newFunctionEnv hcell (by intro y hy; simp at hy) (fun h4 hn4 hs4 => ?_) hk
  have keep4 : ∀ b o, s3.heap.get? b = some o → h4.get? b = some o := fun b o q => (hs4.2 b (Nat.ne_of_lt (Heap.lt_size q))).trans (Heap.get?_push_of_some _ q)
  have I4 := blk_inv (NB := NB) (tk := s3.toks + ([] : List (Str × Value)).length) I3 hk hfree hcell f3 lt3 hn4 keep4
  have st4 : tn 0 h4 := T.keep _ _ _ st2 fun b hb o q => keep4 b o (ups3 b o q)
  have fpY : ∀ {H' : Hp}, (∀ b ∈ fp, H' b = none) → ∀ b ∈ fp, FpOk (X.blk NB scope s3.heap.objs.size s3 (upd H2 s2.heap.objs.size (.lst [])) fp (X.pn ++ pins)) [] H' b := fun hn b hb => by
    obtain ⟨g0, g1, g2, g3, g4, g5⟩ := f3 b hb
    exact ⟨hn b hb, Nat.ne_of_lt (lt3 b hb), fun z => (List.mem_cons.mp (I3.stkSub b z)).elim g1 g2, .inl hb, fun x c q => (nomatch q), fun p hp => g5 p (by simpa using hp)⟩
  have loop : ∀ s5 : Shared, s5 = { s3 with heap := h4, toks := s3.toks + ([] : List (Str × Value)).length } → codeAny (model X.prog X.w) X.A (.compLoop (.ListComp elt [⟨tg, iter, ifs, 0⟩] scope pos) 0 (.ref it) (.ref s2.heap.objs.size) (compEnv scope s3.heap.objs.size X.env))
      (fun r s' => ∃ m, s'.heap.Ns s3.heap.objs.size m ∧ ∀ h', Heap.SameBut s3.heap.objs.size s'.heap h' → match r with
        | .ok _ => EP X pins σ Q (.ref s2.heap.objs.size) { s' with heap := h' }
        | .error x => wpAny (model X.prog X.w) X.A (passOn "comprehension.variables-let-go" x (compEnv scope s3.heap.objs.size X.env)) (EP X pins σ Q) X.xe { s' with heap := h' }) s5 := by
    rintro s5 rfl
    refine codeAny_loop rfl (fun n s' => ∃ i ys H', Inv (X.blk NB scope s3.heap.objs.size s3 (upd H2 s2.heap.objs.size (.lst [])) fp (X.pn ++ pins)) [] (List.replicate NB.length none) H' s' ∧ tn i s'.heap ∧ (∀ b ∈ fp, H' b = none) ∧ W i n ys H')
      (fun n s6 hI => ?_) m0 ⟨0, [], _, I4, st4, fun b hb => (f3 b hb).1, w0⟩
    obtain ⟨i, ys, H6, I6, st6, fr6, w6⟩ := hI
    show wpAny _ _ ((compTurn (.ListComp elt [⟨tg, iter, ifs, 0⟩] scope pos) 0 (.ref it) (.ref s2.heap.objs.size) (compEnv scope s3.heap.objs.size X.env)).onRaise (fun x => do noteFrame x (compEnv scope s3.heap.objs.size X.env); theTreesLotGoes x)) _ _ s6
    refine wpAny_noted ?_
    rw [compTurn_list]
    refine wpAny_bind (wpAny_standAt (wpAny_bind ?_))
    obtain ⟨hacc, alt⟩ := turn i n ys H6 w6
    rcases alt with ⟨stop, q⟩ | ⟨go, step⟩
    · refine thn (T.done (X.blk NB scope s3.heap.objs.size s3 (upd H2 s2.heap.objs.size (.lst [])) fp (X.pn ++ pins)) rfl rfl rfl hc i [] s6 _ H6 _ I6 (fpY fr6) st6 stop) fun r s7 ⟨hr, I7⟩ => ?_
      subst hr
      obtain ⟨m, hm, _⟩ := I7.loc
      exact wpAny_pure ⟨m, hm, fun h' hsb => ⟨.ref s2.heap.objs.size, H6, blk_back I3 f3 lt3 I7 hsb, rfl, q⟩⟩
    · refine thn (T.item (X.blk NB scope s3.heap.objs.size s3 (upd H2 s2.heap.objs.size (.lst [])) fp (X.pn ++ pins)) rfl rfl rfl hc i [] s6 _ H6 _ I6 (fpY fr6) st6 go) fun r s7 ⟨u, hr, h7⟩ => ?_
      subst hr
      refine wpAny_bind (thn h7 fun _ s8 ⟨x, H8, I8, r8, y8, st8, fr8⟩ => ?_)
      have I8' := I8.pinned (fpY fr8) (T.obj _ _ st8)
      have gp : ∀ {σ9 : St} {H9 : Hp} {s9 : Shared}, Inv (X.blk NB scope s3.heap.objs.size s3 (upd H2 s2.heap.objs.size (.lst [])) fp (X.pn ++ pins)) ([] ++ pinsAt fp s8.heap) σ9 H9 s9 → tn (i + 1) s9.heap ∧ ∀ b ∈ fp, H9 b = none := fun I9 =>
        ⟨T.keep _ _ _ st8 fun b hb o e => (I9.pin (b, o) (List.mem_append_right _ (List.mem_append_right _ (mem_pinsAt hb e)))).1, fun b hb => by
          obtain ⟨o, e, d⟩ := T.obj _ _ st8 b hb
          exact (I9.pin (b, o) (List.mem_append_right _ (List.mem_append_right _ (mem_pinsAt hb e)))).2.1⟩
      have wk : ∀ {σ9 : St} {H9 : Hp} {s9 : Shared}, Inv (X.blk NB scope s3.heap.objs.size s3 (upd H2 s2.heap.objs.size (.lst [])) fp (X.pn ++ pins)) ([] ++ pinsAt fp s8.heap) σ9 H9 s9 → Inv (X.blk NB scope s3.heap.objs.size s3 (upd H2 s2.heap.objs.size (.lst [])) fp (X.pn ++ pins)) [] (List.replicate NB.length none) H9 s9 := fun I9 =>
        I9.unpinned.weak (by rw [List.length_replicate, I9.len]) fun k v z => by
          rw [List.getElem?_replicate] at z
          split at z <;> cases z
      refine wpAny_bind (wpAny_mono (hg _ _ _ _ _ _ s8 _ H8 x u _ I8' r8 (step x H8 y8)) (fun _ s9 hq => ?_) fun _ _ z => z.elim)
      obtain ⟨σ9, H9, I9, q9⟩ := hq
      refine wpAny_bind (wpAny_mono (ht _ _ _ _ _ _ s9 σ9 H9 _ I9 q9) (fun ok s10 hq => ?_) fun _ _ z => z.elim)
      obtain ⟨H10, I10, q10⟩ := hq
      cases ok with
      | false =>
        rw [if_neg (by simp)] at q10
        obtain ⟨m', hm', w10⟩ := q10
        exact wpAny_pure ⟨rfl, m', hm', i + 1, ys, H10, wk I10, (gp I10).1, (gp I10).2, w10⟩
      | true =>
        rw [if_pos rfl] at q10
        refine wpAny_bind (wpAny_bind (wpAny_mono (he _ _ _ _ _ _ s10 σ9 H10 _ I10 q10) (fun y s11 hq => ?_) fun _ _ z => z.elim))
        obtain ⟨yv, H11, I11, ry, ha11, hl11, m', hm', w11⟩ := hq
        have mt := mt_append (X := X.blk NB scope s3.heap.objs.size s3 (upd H2 s2.heap.objs.size (.lst [])) fp (X.pn ++ pins)) ([] ++ pinsAt fp s8.heap) s11 σ9 H11 (.ref s2.heap.objs.size) [yv] (.ref s2.heap.objs.size) [y] (fun _ H' => W (i + 1) m' (ys ++ [yv]) H') I11 rfl (.cons ry .nil) ⟨_, ys, yv, rfl, rfl, ha11, hl11, w11⟩
        refine wpAny_bind (wpAny_mono mt (fun _ s12 hq => ?_) fun _ _ z => z.elim)
        obtain ⟨v12, H12, I12, _, w12⟩ := hq
        exact wpAny_pure (wpAny_pure ⟨rfl, m', hm', i + 1, _, H12, wk I12, (gp I12).1, (gp I12).2, w12⟩)
  exact codeAny_compStart_list (loop _ rfl) (T.self _ 0 _ _ _ st4 (loop _ rfl))
end
end L2

set_option maxHeartbeats 4000000
namespace L2
open PySem PySem.Spec PyProof.Rows

/-! ### == and != of things of any depth -/
mutual
inductive RdV (K : PySem.W.Frag) (H : Hp) : V → PyData → Prop where
  | non : RdV K H .non .none
  | bl (b : Bool) : RdV K H (.bl b) (.bool b)
  | int (i : Int) : RdV K H (.int i) (.int i)
  | str (x : Str) : RdV K H (.str x) (.str x)
  | lst {a : Addr} {xs : List V} {ds : List PyData} : SqL K H a xs → RdVs K H xs ds → RdV K H (.ref a) (.list ds)
  | tup {a : Addr} {xs : List V} {ds : List PyData} : SqT K H a xs → RdVs K H xs ds → RdV K H (.ref a) (.tuple ds)
inductive RdVs (K : PySem.W.Frag) (H : Hp) : List V → List PyData → Prop where
  | nil : RdVs K H [] []
  | cons {x : V} {d : PyData} {xs : List V} {ds : List PyData} : RdV K H x d → RdVs K H xs ds → RdVs K H (x :: xs) (d :: ds)
end

section
variable {X : Cx} {pins : List (Addr × Obj)} {σ : St} {H : Hp} {s : Shared}
mutual
theorem RdV.reads (I : Inv X pins σ H s) : ∀ {x : V} {d : PyData} {u : Value}, RdV X.K H x d → RelV x u → ∃ as, Reads s.heap u d as
  | _, _, _, .non, r => by cases (show _ = Value.none from r); exact ⟨_, .none⟩
  | _, _, _, .bl b, r => by cases (show _ = Value.bool b from r); exact ⟨_, .bool b⟩
  | _, _, _, .int i, r => by obtain ⟨t, q⟩ := (show ∃ t, _ = Value.int i t from r); cases q; exact ⟨_, .int i t⟩
  | _, _, _, .str x, r => by obtain ⟨t, q⟩ := (show ∃ t, _ = Value.str x t from r); cases q; exact ⟨_, .str x t⟩
  | _, _, _, @RdV.lst _ _ a xs ds hq hs, r => by
    cases (show _ = Value.ref a from r)
    obtain ⟨its, rv, p, _⟩ := I.list hq
    obtain ⟨as, ra⟩ := RdVs.reads I hs rv
    obtain ⟨o, ho, hc, n, hd⟩ := p.isList
    exact ⟨_, .list ho hc hd (by simpa using ra)⟩
  | _, _, _, @RdV.tup _ _ a xs ds hq hs, r => by
    cases (show _ = Value.ref a from r)
    obtain ⟨its, rv, p, _⟩ := I.tuple hq
    obtain ⟨as, ra⟩ := RdVs.reads I hs rv
    obtain ⟨o, ho, hc, n, hd⟩ := (show s.heap.IsTuple a its.toArray from p)
    exact ⟨_, .tuple ho hc hd (by simpa using ra)⟩
theorem RdVs.reads (I : Inv X pins σ H s) : ∀ {xs : List V} {ds : List PyData} {us : List Value}, RdVs X.K H xs ds → Vals xs us → ∃ as, ReadsAll s.heap us ds as
  | _, _, _, .nil, .nil => ⟨_, .nil⟩
  | _, _, _, .cons h hs, .cons r rs => by
    obtain ⟨as, ra⟩ := RdV.reads I h r
    obtain ⟨bs, rb⟩ := RdVs.reads I hs rs
    exact ⟨_, .cons ra rb⟩
end
end

section
variable {X : Cx}
def rEqD (K : PySem.W.Frag) : R2 := fun x y H Q => ∃ dx dy, RdV K H x dx ∧ RdV K H y dy ∧ SeqAt.shaped dx = true ∧ SeqAt.shaped dy = true ∧ Q (.bl (PyData.eqv dx dy)) H
def rNeD (K : PySem.W.Frag) : R2 := fun x y H Q => ∃ dx dy, RdV K H x dx ∧ RdV K H y dy ∧ SeqAt.shaped dx = true ∧ SeqAt.shaped dy = true ∧ Q (.bl (!PyData.eqv dx dy)) H
theorem op_eqD (hu : X.A.units + 64 < cLine) : OpR X (compareOp .Eq) (rEqD X.K) := by
  intro pins s σ H x y v u Q I rx ry h
  obtain ⟨dx, dy, hx, hy, sx, sy, q⟩ := h
  obtain ⟨as, ra⟩ := hx.reads I rx
  obtain ⟨bs, rb⟩ := hy.reads I ry
  exact SeqAt.compareEq_shaped ra rb sx sy hu ⟨.bl _, H, I, rfl, q⟩
theorem op_neD (hu : X.A.units + 64 < cLine) : OpR X (compareOp .NotEq) (rNeD X.K) := by
  intro pins s σ H x y v u Q I rx ry h
  obtain ⟨dx, dy, hx, hy, sx, sy, q⟩ := h
  obtain ⟨as, ra⟩ := hx.reads I rx
  obtain ⟨bs, rb⟩ := hy.reads I ry
  exact SeqAt.compareNe_shaped ra rb sx sy hu ⟨.bl _, H, I, rfl, q⟩
end
end L2

namespace PySem.SeqAt
open AutoSeq1 (wpAny_loadPart')
open MeetsSeq MeetsSeq2 MeetsSeq3
section
variable {A : Around} {s : Shared}
end
end PySem.SeqAt
namespace L2
open PySem PySem.Spec PyProof.Rows
section
variable {X : Cx}
end
end L2

namespace L2
open PySem PySem.Spec PyProof.Rows

/-! ### lists of pairs as tables -/
section
variable {κ : Type} [DecidableEq κ]



end


/-! ### a tracked dict, its keys ints and texts or tuples of these -/


section
variable {P : Program} {w : World} {H : Hp} {h : Heap} {a : Addr}
end



section
variable {X : Cx} {pins : List (Addr × Obj)} {σ : St} {H : Hp} {s : Shared} {a : Addr} {y v : V} {u r : Value} {o : Option V} {A : Around} {E : Value → Shared → Prop}


end

section
variable {X : Cx} {pins : List (Addr × Obj)} {σ : St} {H : Hp} {s : Shared} {a : Addr} {kvs : List (Key × V)} {k : Key} {u : Value} {A : Around} {E : Value → Shared → Prop}
end


/-! ### readings and rules -/



section
variable {X : Cx} {o i e value : Expr} {pos pos' tpos : Pos} {td ty tv : TE}
end


/-! ### displays -/
section
variable {X : Cx} {pos : Pos}
end




/-! ### methods -/


section
variable {X : Cx} {pins : List (Addr × Obj)} {σ : St} {H : Hp} {s : Shared} {a : Addr} {y d : V} {u r : Value} {o : Option V} {A : Around} {E : Value → Shared → Prop}
end

section
variable {X : Cx} {o e f : Expr} {apos cpos : Pos} {td ty tx : TE}
end

/-! ### dict(d): a copy -/
section
variable {X : Cx} {pins : List (Addr × Obj)} {σ : St} {H : Hp} {s : Shared} {a : Addr} {kvs : List (Key × V)} {A : Around} {E : Value → Shared → Prop}
end


section
variable {X : Cx} {pins : List (Addr × Obj)} {σ : St} {H : Hp} {s : Shared} {a : Addr} {y : V} {u : Value} {A : Around} {E : Value → Shared → Prop}
end
end L2

set_option maxHeartbeats 4000000
namespace L2
open PySem PySem.Spec PyProof.Rows

section
variable {X : Cx}
/-- a is not True, of bools -/
theorem op_isnotB : OpR X (compareOp .IsNot) (fun x y H Q => ∃ a b, x = .bl a ∧ y = .bl b ∧ Q (.bl (!(a == b))) H) := by
  intro pins s σ H x y v u Q I rx ry h
  obtain ⟨a, b, rfl, rfl, q⟩ := h
  cases (show v = Value.bool a from rx)
  cases (show u = Value.bool b from ry)
  refine wpAny_isNot_plain rfl ⟨.bl _, H, I, ?_, q⟩
  show Value.bool _ = Value.bool _
  cases a <;> cases b <;> rfl
/-- t + u, of any tuples -/
def rCatA : R2 := fun x y H Q => ∃ a b xs ys, x = .ref a ∧ y = .ref b ∧ H a = some (.tup xs) ∧ H b = some (.tup ys) ∧ xs.length + ys.length ≤ sizeLine ∧
  ∀ p H', Same H H' → H' p = some (.tup (xs ++ ys)) → Q (.ref p) H'
theorem same_upd {H : Hp} {p : Addr} {o : HO} (h : H p = none) : Same H (upd H p o) := fun b u q => by
  rw [upd_ne (ne_of_none q h)]
  exact q
theorem op_catA : OpR X (binaryOp .Add) rCatA := by
  intro pins s σ H x y v u Q I rx ry h
  obtain ⟨a, b, xs, ys, rfl, rfl, ha, hb, hz, q⟩ := h
  by_cases hx : xs = []
  · subst hx
    cases (show v = Value.ref a from rx)
    cases (show u = Value.ref b from ry)
    obtain ⟨its, r1, p1, _⟩ := I.tuple (SqT.of ha)
    obtain ⟨its2, r2, p2, _⟩ := I.tuple (SqT.of hb)
    cases r1
    obtain ⟨⟨cls, dd, data, sl⟩, ho, hc, n, hd⟩ := p1
    obtain ⟨⟨cls2, dd2, data2, sl2⟩, ho2, hc2, n2, hd2⟩ := p2
    simp only at hc hd hc2 hd2
    subst hc hd hc2 hd2
    exact concat_meets ⟨_, ho, rfl⟩ ⟨_, ho2, rfl⟩ noFill_tuple_add seq_tuple_add PySem.F.slot_tuple_add PySem.F.entry_tuple_add (PySem.F.args_tuple_add_2 _ _)
      (tuple_addW0 a b _ its2.toArray n n2 dd dd2 sl sl2 rfl) ⟨ho, ho2, ⟨.ref b, H, I, rfl, q b H (Same.refl H) (by simpa using hb)⟩⟩
  · refine op_catT pins s σ H _ _ v u Q I rx ry ⟨a, b, xs, ys, rfl, rfl, SqT.of ha, SqT.of hb, hx, hz, fun z => ?_, fun z p hp => ?_⟩
    · subst z
      exact q a H (Same.refl H) (by simpa using ha)
    · exact q p _ (same_upd hp) upd_same
theorem op_fdivB : OpR X (binaryOp .FloorDiv) (rI (fun _ j => 0 < j ∧ j < 2 ^ 64) fun i j => .int (i / j)) := opI fun i j _ _ _ _ _ hc q => by
  have e : i.fdiv j = i / j := Int.fdiv_eq_ediv_of_nonneg _ (Int.le_of_lt hc.1)
  rw [← e] at q
  refine floordiv_int (Int.ne_of_gt hc.1) q (.inl (PyProof.noPylong_of_log2 ?_))
  have h1 : j.natAbs < 2 ^ 64 := by omega
  have h2 : j.natAbs ≠ 0 := by omega
  have h3 : j.natAbs.log2 < 64 := (Nat.log2_lt h2).mpr h1
  omega
end
end L2

set_option maxHeartbeats 4000000
namespace HT
open PySem PyProof.Rows
section
variable {prog : Program} {w : World} {A : Around} {E : Value → Shared → Prop} {s : Shared}
end
end HT
namespace L2
open PySem PySem.Spec PyProof.Rows
section
variable {X : Cx}
end
end L2

set_option maxHeartbeats 4000000
namespace L2
open PySem PySem.Spec PyProof.Rows
/-! ### long displays: the same rules, behind a structure (the elaborator does not look into it) -/
end L2

set_option maxHeartbeats 4000000
namespace L2
open PySem PySem.Spec PyProof.Rows
section
variable {X : Cx}
end
end L2

set_option maxHeartbeats 4000000
namespace L2
open PySem PySem.Spec PyProof.Rows

/-! ### [e for t in it if c] with names of the def around it -/
abbrev Cx.blkF (X : Cx) (NB : List Str) (scope : Scope) (cl : List (Str × Addr)) (C : Addr) (s : Shared) (H : Hp) (fp : List Addr) (pn : List (Addr × Obj)) : Cx :=
  { X with N := NB, s₀ := s, H₀ := H, env := compEnvC scope cl C X.env, outer := X.stack, ex := fp, fn := fun _ => false, pn := pn, xe := fun _ _ => False }
/-- the block's state at the start of each turn: its own names bare, the others as around it -/
def bare0 (n : Nat) (js : List Nat) (σ : St) : St := List.replicate n none ++ js.map fun j => (σ[j]?).join
def tCompF (n : Nat) (js : List Nat) (wi : TI) (g : TG) (tc : TT) (te : TE) : TE := fun σ H Q => wi σ H fun J H1 => ∀ acc, H1 acc = none →
  ∃ W : Nat → Nat → List V → Hp → Prop, (∃ m, W 0 m [] (upd H1 acc (.lst []))) ∧ ∀ i m ys H, W i m ys H → H acc = some (.lst ys) ∧
    ((J.stop i H ∧ Q (.ref acc) H) ∨ (J.go i H ∧ ∀ x H', J.yld i H x H' → g x (bare0 n js σ) H' fun σ2 H2 => σ2.drop n = (bare0 n js σ).drop n ∧ tc σ2 H2 fun b H3 =>
      if b = true then te σ2 H3 fun y H4 => H4 acc = some (.lst ys) ∧ ys.length < sizeLine ∧ ∃ m', m' < m ∧ W (i + 1) m' (ys ++ [y]) (upd H4 acc (.lst (ys ++ [y])))
      else ∃ m', m' < m ∧ W (i + 1) m' ys H3))
/-- the names that the block takes from around it -/
structure Takes (X : Cx) (NB : List Str) (n : Nat) (js : List Nat) (scope : Scope) (cl : List (Str × Addr)) : Prop where
  clo : closureFor scope X.env = pure cl
  sub : ∀ x c, cl.lookup x = some c → X.env.cells.lookup x = some c
  has : ∀ x, ((relabel scope X.env).names.lookup x = some .cell ∨ (relabel scope X.env).names.lookup x = some .free) → (cl.lookup x).isSome = true
  len : NB.length = n + js.length
  nam : ∀ k j, js[k]? = some j → NB[n + k]? = X.N[j]?
  ck : ∀ x, Vis (relabel scope X.env) x → x ∈ NB.drop n → ((relabel scope X.env).names.lookup x = some .cell ∨ (relabel scope X.env).names.lookup x = some .free) ∧ (X.env.kindOf x = some .cell ∨ X.env.kindOf x = some .free) ∧ (cl.lookup x).isSome = true

section
variable {X : Cx} {NB : List Str} {n : Nat} {js : List Nat} {scope : Scope} {cl : List (Str × Addr)}
theorem bare0_len (T : Takes X NB n js scope cl) (σ : St) : (bare0 n js σ).length = NB.length := by
  unfold bare0
  rw [List.length_append, List.length_replicate, List.length_map, T.len]
theorem bare0_at {σ : St} {i : Nat} {v : V} (h : (bare0 n js σ)[i]? = some (some v)) : ∃ k j, i = n + k ∧ js[k]? = some j ∧ σ[j]? = some (some v) := by
  unfold bare0 at h
  rcases Nat.lt_or_ge i n with c | c
  · rw [List.getElem?_append_left (by rw [List.length_replicate]; exact c), List.getElem?_replicate, if_pos c] at h
    cases h
  · rw [List.getElem?_append_right (by rw [List.length_replicate]; exact c), List.length_replicate, List.getElem?_map] at h
    cases hj : js[i - n]? with
    | none => rw [hj] at h; cases h
    | some j =>
      rw [hj] at h
      have h : some ((σ[j]?).join) = some (some v) := h
      have h := Option.some.inj h
      refine ⟨i - n, j, by omega, hj, ?_⟩
      cases hs : σ[j]? with
      | none => rw [hs] at h; cases h
      | some o =>
        rw [hs] at h
        have h : o = some v := h
        rw [h]
theorem blkF_inv {pins : List (Addr × Obj)} {σ : St} {H : Hp} {s : Shared} {h4 : Heap} {tk : Nat} {fp : List Addr} (I : Inv X pins σ H s) (hk : scope.kind = .function) (T : Takes X NB n js scope cl)
    (hf : ∀ b ∈ fp, FpOk X pins H b) (ho : ∀ b ∈ fp, b < s.heap.objs.size) {m : Str → Option Value} (hn : h4.Ns s.heap.objs.size m) (keep : ∀ b o, s.heap.get? b = some o → h4.get? b = some o) :
    Inv (X.blkF NB scope cl s.heap.objs.size s H fp (X.pn ++ pins)) [] (bare0 n js σ) H { s with heap := h4, toks := tk } := by
  have stk : ∀ b, b ≠ X.env.locals → b ∉ X.fs → b ∉ frs X.stack := fun b h1 h2 z => (List.mem_cons.mp (I.stkSub b z)).elim h1 h2
  obtain ⟨m0, hn0, hl0⟩ := I.loc
  refine ⟨⟨I.ok.mod, hk, I.ok.glob, I.ok.blt, Nat.le_refl _, fun x y c q1 q2 => I.ok.inj x y c (T.sub x c q1) (T.sub y c q2), fun x q => Option.isSome_iff_exists.mp (T.has x q), fun x c q => (nomatch q), I.ok.hd, I.ok.frames, .inl rfl, fun b hb => ⟨Nat.ne_of_lt (ho b hb), fun x c q => (hf b hb).2.2.2.2.1 x c (T.sub x c q)⟩, I.bs, Nat.le_trans I.ok.bsz I.sz,
    fun b o q hb => ?_, fun b hb => stk b (hf b hb).2.1 (hf b hb).2.2.1, I.stack, I.stkFree⟩, rfl, I.bare, Un.kept keep, ⟨m, hn, fun i x v q1 q2 q3 => ?_⟩, fun x c q => ?_, I.hok.fresh (Nat.le_refl _), fun x c q => I.freeC x c (T.sub x c q), fun p hp => ?_, I.hok.kept keep, ?_⟩
  · rcases (hf b hb).2.2.2.1 with z | z
    · exact I.ok.noex b o q z
    · exact absurd (Nat.lt_of_lt_of_le (Heap.lt_size q) (Nat.le_trans I.ok.bsz z)) (Nat.lt_irrefl _)
  · obtain ⟨k, j, rfl, hj, hs⟩ := bare0_at q2
    have q1 : NB[n + k]? = some x := q1
    have hx : X.N[j]? = some x := by rw [← T.nam k j hj]; exact q1
    have hd : x ∈ NB.drop n := List.mem_of_getElem? (i := k) (by rw [List.getElem?_drop]; exact q1)
    obtain ⟨k1, k2, k3⟩ := T.ck x q3 hd
    obtain ⟨c, hc⟩ := Option.isSome_iff_exists.mp k3
    obtain ⟨u, ru, lu⟩ := hl0 j x v hx hs (k2.elim (fun z => .inr (.inl z)) fun z => .inr (.inr z))
    refine ⟨u, ru, .inr ⟨k1, c, hc, ?_⟩⟩
    rcases lu with ⟨z, _⟩ | ⟨_, c', hc', o, ho', hd'⟩
    · rcases k2 with w | w <;> (rw [w] at z; cases z)
    · have e : c' = c := Option.some.inj (hc'.symm.trans (T.sub x c hc))
      subst e
      exact ⟨o, keep _ _ ho', hd'⟩
  · obtain ⟨v, o, ho', hd'⟩ := I.cell x c (T.sub x c q)
    exact ⟨v, o, keep _ _ ho', hd'⟩
  · have hp' : p ∈ X.pn ++ pins := by simpa using hp
    obtain ⟨q, n, ne, nf, d⟩ := I.pin p hp'
    exact ⟨keep _ _ q, n, Nat.ne_of_lt (Heap.lt_size q), stk _ ne nf, d⟩
  · exact bare0_len T σ

theorem blkF_back {pins : List (Addr × Obj)} {σ σ' : St} {H H' : Hp} {s s' : Shared} {h2 : Heap} {fp : List Addr} {pl : List (Addr × Obj)} (I : Inv X pins σ H s) (hf : ∀ b ∈ fp, FpOk X pins H b) (ho : ∀ b ∈ fp, b < s.heap.objs.size)
    (J : Inv (X.blkF NB scope cl s.heap.objs.size s H fp (X.pn ++ pins)) pl σ' H' s') (hs : Heap.SameBut s.heap.objs.size s'.heap h2) : Inv X pins σ H' { s' with heap := h2 } := by
  have u := J.base
  have low : ∀ b o, s.heap.get? b = some o → b ≠ s.heap.objs.size := fun b o q => Nat.ne_of_lt (Heap.lt_size q)
  refine I.call' (s' := { s' with heap := h2 }) (ch := fp) J.os ⟨fun b o q n hb he => (hs.2 b (low b o q)).trans (u.keep b o q n hb he), fun b o q n hb he => ?_, u.free, fun b o q he => ?_, u.tups, u.frzs, u.tbls⟩ (fun b o q => ?_) J.bare fun b hb => ?_
  · obtain ⟨sl, z⟩ := u.slot b o q n hb he
    exact ⟨sl, (hs.2 b (low b o q)).trans z⟩
  · obtain ⟨o', z⟩ := u.there b o q he
    exact ⟨o', (hs.2 b (low b o q)).trans z⟩
  · refine (J.hok b o q).stay (fun c w' hc r => (hs.2 c ?_).trans r) (fun _ r => r) fun _ _ r => r
    have fr : H' s.heap.objs.size = none := J.free
    rintro rfl
    rcases hc with rfl | hc
    · rw [fr] at q; cases q
    · rw [fr] at hc; cases hc
  · obtain ⟨f0, f1, f2, f3, f4, f5⟩ := hf b hb
    exact ⟨f3, f1, f4, f5⟩

theorem pe_compF {elt tg iter : Expr} {ifs : List Expr} {pos : Pos} {wi : TI} {g : TG} {tc : TT} {te : TE} (hk : scope.kind = .function) (hcell : ∀ x ∈ scope.names, x.2 ≠ .cell)
    (hnames : ∀ x ∈ scope.names, x.2 = .local → scope.names.lookup x.1 = some .local) (hc : X.calm = true) (T : Takes X NB n js scope cl) (hi : PI X tg iter wi)
    (hg : ∀ C s H fp pn, PG (X.blkF NB scope cl C s H fp pn) tg g) (ht : ∀ C s H fp pn, PTs (X.blkF NB scope cl C s H fp pn) ifs tc) (he : ∀ C s H fp pn, PE (X.blkF NB scope cl C s H fp pn) elt te)
    (hs : ∀ x, foldedSetIterable iter X.env x = pure x := by intro _; rfl) : PE X (.ListComp elt [⟨tg, iter, ifs, 0⟩] scope pos) (tCompF n js wi g tc te) := by
  intro pins s σ H Q I h
  rw [eval_ListComp]
  refine wpAny_comprehension_free (use := none) rfl hs T.clo hk hnames (thn (hi pins s σ H _ I h) fun v s1 h1 => thn h1 fun itv s2 h2 => ?_)
  obtain ⟨it, fp, tn, J, H2, rfl, I2, U, st2, f2, h2⟩ := h2
  have lt2 : ∀ b ∈ fp, b < s2.heap.objs.size := fun b hb => by
    obtain ⟨o, q, _⟩ := U.obj 0 _ st2 b hb
    exact Heap.lt_size q
  refine wpAny_newObj_type ?_
  have hz : H2 s2.heap.objs.size = none := I2.hok.fresh (Nat.le_refl _)
  obtain ⟨W, ⟨m0, w0⟩, turn⟩ := h2 s2.heap.objs.size hz
  have I3 : Inv X pins σ (upd H2 s2.heap.objs.size (.lst [])) { s2 with heap := s2.heap.push { cls := .type "list", dict := none, data := .seq ([] : List Value).toArray } } :=
    I2.laid (t' := s2.toks) (fun b o q => Heap.get?_push_of_some _ q) (Nat.le_refl _) ⟨Nat.zero_le _, [], 0, .nil, Heap.get?_push_size _ rfl⟩
  generalize hs3 : ({ s2 with heap := s2.heap.push { cls := .type "list", dict := none, data := .seq ([] : List Value).toArray } } : Shared) = s3 at I3 ⊢
  have ups3 : ∀ b o, s2.heap.get? b = some o → s3.heap.get? b = some o := fun b o q => by rw [← hs3]; exact Heap.get?_push_of_some _ q
  have f3 : ∀ b ∈ fp, FpOk X pins (upd H2 s2.heap.objs.size (.lst [])) b := fun b hb => ⟨by rw [upd_ne (Nat.ne_of_lt (lt2 b hb))]; exact (f2 b hb).1, (f2 b hb).2⟩
  have lt3 : ∀ b ∈ fp, b < s3.heap.objs.size := fun b hb => by
    obtain ⟨o, q, _⟩ := U.obj 0 _ st2 b hb
    exact Heap.lt_size (ups3 b o q)
  refine wpAny_newFunctionEnv hcell (by intro y hy; simp at hy) (fun h4 hn4 hs4 => ?_) hk
  have keep4 : ∀ b o, s3.heap.get? b = some o → h4.get? b = some o := fun b o q => (hs4.2 b (Nat.ne_of_lt (Heap.lt_size q))).trans (Heap.get?_push_of_some _ q)
  have I4 := blkF_inv (tk := s3.toks + ([] : List (Str × Value)).length) I3 hk T f3 lt3 hn4 keep4
  have st4 : tn 0 h4 := U.keep _ _ _ st2 fun b hb o q => keep4 b o (ups3 b o q)
  have fpY : ∀ {H' : Hp}, (∀ b ∈ fp, H' b = none) → ∀ b ∈ fp, FpOk (X.blkF NB scope cl s3.heap.objs.size s3 (upd H2 s2.heap.objs.size (.lst [])) fp (X.pn ++ pins)) [] H' b := fun hn b hb => by
    obtain ⟨g0, g1, g2, g3, g4, g5⟩ := f3 b hb
    exact ⟨hn b hb, Nat.ne_of_lt (lt3 b hb), fun z => (List.mem_cons.mp (I3.stkSub b z)).elim g1 g2, .inl hb, fun x c q => g4 x c (T.sub x c q), fun p hp => g5 p (by simpa using hp)⟩
  have loop : ∀ s5 : Shared, s5 = { s3 with heap := h4, toks := s3.toks + ([] : List (Str × Value)).length } → codeAny (model X.prog X.w) X.A (.compLoop (.ListComp elt [⟨tg, iter, ifs, 0⟩] scope pos) 0 (.ref it) (.ref s2.heap.objs.size) (compEnvC scope cl s3.heap.objs.size X.env))
      (compPost (model X.prog X.w) X.A X.xe none (EP X pins σ Q) (.ref s2.heap.objs.size) s3.heap.objs.size) s5 := by
    rintro s5 rfl
    refine codeAny_loop rfl (fun k s' => ∃ i ys H', Inv (X.blkF NB scope cl s3.heap.objs.size s3 (upd H2 s2.heap.objs.size (.lst [])) fp (X.pn ++ pins)) [] (bare0 n js σ) H' s' ∧ tn i s'.heap ∧ (∀ b ∈ fp, H' b = none) ∧ W i k ys H')
      (fun k s6 hI => ?_) m0 ⟨0, [], _, I4, st4, fun b hb => (f3 b hb).1, w0⟩
    obtain ⟨i, ys, H6, I6, st6, fr6, w6⟩ := hI
    show wpAny _ _ ((compTurn (.ListComp elt [⟨tg, iter, ifs, 0⟩] scope pos) 0 (.ref it) (.ref s2.heap.objs.size) (compEnvC scope cl s3.heap.objs.size X.env)).onRaise (fun x => do noteFrame x (compEnvC scope cl s3.heap.objs.size X.env); theTreesLotGoes x)) _ _ s6
    refine wpAny_noted ?_
    rw [compTurn_list]
    refine wpAny_bind (wpAny_standAt (wpAny_bind ?_))
    obtain ⟨hacc, alt⟩ := turn i k ys H6 w6
    rcases alt with ⟨stop, q⟩ | ⟨go, step⟩
    · refine thn (U.done (X.blkF NB scope cl s3.heap.objs.size s3 (upd H2 s2.heap.objs.size (.lst [])) fp (X.pn ++ pins)) rfl rfl rfl hc i [] s6 _ H6 _ I6 (fpY fr6) st6 stop) fun r s7 ⟨hr, I7⟩ => ?_
      subst hr
      obtain ⟨m, hm, _⟩ := I7.loc
      exact wpAny_pure ⟨m, hm, fun h' hsb => ⟨.ref s2.heap.objs.size, H6, blkF_back I3 f3 lt3 I7 hsb, rfl, q⟩⟩
    · refine thn (U.item (X.blkF NB scope cl s3.heap.objs.size s3 (upd H2 s2.heap.objs.size (.lst [])) fp (X.pn ++ pins)) rfl rfl rfl hc i [] s6 _ H6 _ I6 (fpY fr6) st6 go) fun r s7 ⟨u, hr, h7⟩ => ?_
      subst hr
      refine wpAny_bind (thn h7 fun _ s8 ⟨x, H8, I8, r8, y8, st8, fr8⟩ => ?_)
      have I8' := I8.pinned (fpY fr8) (U.obj _ _ st8)
      have gp : ∀ {σ9 : St} {H9 : Hp} {s9 : Shared}, Inv (X.blkF NB scope cl s3.heap.objs.size s3 (upd H2 s2.heap.objs.size (.lst [])) fp (X.pn ++ pins)) ([] ++ pinsAt fp s8.heap) σ9 H9 s9 → tn (i + 1) s9.heap ∧ ∀ b ∈ fp, H9 b = none := fun I9 =>
        ⟨U.keep _ _ _ st8 fun b hb o e => (I9.pin (b, o) (List.mem_append_right _ (List.mem_append_right _ (mem_pinsAt hb e)))).1, fun b hb => by
          obtain ⟨o, e, d⟩ := U.obj _ _ st8 b hb
          exact (I9.pin (b, o) (List.mem_append_right _ (List.mem_append_right _ (mem_pinsAt hb e)))).2.1⟩
      have wk : ∀ {σ9 : St} {H9 : Hp} {s9 : Shared}, σ9.drop n = (bare0 n js σ).drop n → Inv (X.blkF NB scope cl s3.heap.objs.size s3 (upd H2 s2.heap.objs.size (.lst [])) fp (X.pn ++ pins)) ([] ++ pinsAt fp s8.heap) σ9 H9 s9 → Inv (X.blkF NB scope cl s3.heap.objs.size s3 (upd H2 s2.heap.objs.size (.lst [])) fp (X.pn ++ pins)) [] (bare0 n js σ) H9 s9 := fun {σ9 H9 s9} hd I9 =>
        I9.unpinned.weak (by rw [bare0_len T, I9.len]) fun k v z => by
          obtain ⟨k', j, rfl, _, _⟩ := bare0_at z
          have e := congrArg (fun l => l[k']?) hd
          simp only [List.getElem?_drop] at e
          rw [e]
          exact z
      refine wpAny_bind (wpAny_mono (hg _ _ _ _ _ _ s8 _ H8 x u _ I8' r8 (step x H8 y8)) (fun _ s9 hq => ?_) fun _ _ z => z.elim)
      obtain ⟨σ9, H9, I9, hd9, q9⟩ := hq
      refine wpAny_bind (wpAny_mono (ht _ _ _ _ _ _ s9 σ9 H9 _ I9 q9) (fun ok s10 hq => ?_) fun _ _ z => z.elim)
      obtain ⟨H10, I10, q10⟩ := hq
      cases ok with
      | false =>
        rw [if_neg (by simp)] at q10
        obtain ⟨m', hm', w10⟩ := q10
        exact wpAny_pure ⟨rfl, m', hm', i + 1, ys, H10, wk hd9 I10, (gp I10).1, (gp I10).2, w10⟩
      | true =>
        rw [if_pos rfl] at q10
        refine wpAny_bind (wpAny_bind (wpAny_mono (he _ _ _ _ _ _ s10 σ9 H10 _ I10 q10) (fun y s11 hq => ?_) fun _ _ z => z.elim))
        obtain ⟨yv, H11, I11, ry, ha11, hl11, m', hm', w11⟩ := hq
        have mt := mt_append (X := X.blkF NB scope cl s3.heap.objs.size s3 (upd H2 s2.heap.objs.size (.lst [])) fp (X.pn ++ pins)) ([] ++ pinsAt fp s8.heap) s11 σ9 H11 (.ref s2.heap.objs.size) [yv] (.ref s2.heap.objs.size) [y] (fun _ H' => W (i + 1) m' (ys ++ [yv]) H') I11 rfl (.cons ry .nil) ⟨_, ys, yv, rfl, rfl, ha11, hl11, w11⟩
        refine wpAny_bind (wpAny_mono mt (fun _ s12 hq => ?_) fun _ _ z => z.elim)
        obtain ⟨v12, H12, I12, _, w12⟩ := hq
        exact wpAny_pure (wpAny_pure ⟨rfl, m', hm', i + 1, _, H12, wk hd9 I12, (gp I12).1, (gp I12).2, w12⟩)
  exact codeAny_compStart_list (loop _ rfl) (U.self _ 0 _ _ _ st4 (loop _ rfl))

/-! ### a list or a tuple walked -/
def iSeq (K : PySem.W.Frag) (tl : TE) : TI := fun σ H R => tl σ H fun x H1 => ∃ a, x = .ref a ∧ (((∃ xs, SqL K H1 a xs) ∧ R (Itl K a) H1) ∨ ((∃ xs, SqT K H1 a xs) ∧ R (Itt K a) H1))
theorem pi_seq {tg l : Expr} {tl : TE} (hl : PE X l tl) : PI X tg l (iSeq X.K tl) := by
  intro pins s σ H R I h
  refine thn (hl pins s σ H _ I h) fun v s1 ⟨x, H1, I1, r1, q1⟩ => ?_
  obtain ⟨a, e, q1⟩ := q1
  subst e
  cases r1
  rcases q1 with ⟨⟨xs, hq⟩, q⟩ | ⟨⟨xs, hq⟩, q⟩
  · obtain ⟨its, rv, p, hz⟩ := I1.list hq
    refine wpAny_pyIter_list p.isList ?_
    refine ⟨s1.heap.objs.size, [s1.heap.objs.size], _, _, H1, rfl, I1.kept (t' := s1.toks) fun b o e => Heap.get?_push_of_some _ e, turn_list a _, ⟨_, Heap.get?_push_size _ rfl, rfl, rfl⟩, fun b hb => ?_, q⟩
    have e : b = s1.heap.objs.size := by simpa using hb
    subst e
    exact I1.fpOk (Nat.le_refl _) (I1.hok.fresh (Nat.le_refl _))
  · obtain ⟨its, rv, p, hz⟩ := I1.tuple hq
    refine wpAny_pyIter_tuple (show s1.heap.IsTuple a its.toArray from p) ?_
    refine ⟨s1.heap.objs.size, [s1.heap.objs.size], _, _, H1, rfl, I1.kept (t' := s1.toks) fun b o e => Heap.get?_push_of_some _ e, turn_tuple a _, ⟨_, Heap.get?_push_size _ rfl, rfl, rfl⟩, fun b hb => ?_, q⟩
    have e : b = s1.heap.objs.size := by simpa using hb
    subst e
    exact I1.fpOk (Nat.le_refl _) (I1.hok.fresh (Nat.le_refl _))

/-! ### str(x) of a number or a text; sep.join(list of texts) -/
end
end L2

set_option maxHeartbeats 4000000
namespace L2
open PySem PySem.Spec PyProof.Rows PySem.W

/-! ### the asking tree of a sort, run -/
def kRun {α : Type} (lt : Nat → Nat → Bool) : KasT α → α
  | .ret a => a
  | .ask i j k => kRun lt (k (lt i j))
def kOk {α : Type} (n : Nat) (P : α → Prop) : KasT α → Prop
  | .ret a => P a
  | .ask i j k => i < n ∧ j < n ∧ ∀ b, kOk n P (k b)
theorem kOk_bind {α β : Type} {n : Nat} {P : α → Prop} {R : β → Prop} {f : α → KasT β} : ∀ {t : KasT α}, kOk n P t → (∀ a, P a → kOk n R (f a)) → kOk n R (t.bind f)
  | .ret a, h, hf => hf a h
  | .ask i j k, ⟨h1, h2, h3⟩, hf => ⟨h1, h2, fun b => kOk_bind (h3 b) hf⟩
theorem kOk_run {α : Type} {n : Nat} {P : α → Prop} {lt : Nat → Nat → Bool} : ∀ {t : KasT α}, kOk n P t → P (kRun lt t)
  | .ret a, h => h
  | .ask i j k, ⟨h1, h2, h3⟩ => kOk_run (t := k (lt i j)) (h3 (lt i j))
theorem kRun_congr {α : Type} {n : Nat} {P : α → Prop} {lt lt' : Nat → Nat → Bool} (e : ∀ i j, i < n → j < n → lt i j = lt' i j) : ∀ {t : KasT α}, kOk n P t → kRun lt t = kRun lt' t
  | .ret a, h => rfl
  | .ask i j k, ⟨h1, h2, h3⟩ => by
    show kRun lt (k (lt i j)) = kRun lt' (k (lt' i j))
    rw [e i j h1 h2]
    exact kRun_congr e (h3 _)
theorem kasWp_run {α : Type} {n : Nat} {P : α → Prop} {cmp : Nat → Nat → (Bool → Shared → Prop) → Shared → Prop} {lt : Nat → Nat → Bool} {s : Shared} (hc : ∀ i j C, i < n → j < n → C (lt i j) s → cmp i j C s) :
    ∀ {t : KasT α} {C : α → Shared → Prop}, kOk n P t → C (kRun lt t) s → KasT.kasWp cmp t C s
  | .ret a, C, h, q => q
  | .ask i j k, C, ⟨h1, h2, h3⟩, q => hc i j _ h1 h2 (kasWp_run hc (h3 _) q)

/-- all entries below n -/
def Low (n : Nat) (p : Array Nat) : Prop := ∀ x ∈ p, x < n
theorem Low.get {n : Nat} {p : Array Nat} (h : Low n p) (h0 : 0 < n) (i : Nat) : p.getD i 0 < n := by
  unfold Array.getD
  split
  · exact h _ (Array.getElem_mem _)
  · exact h0
theorem Low.swap {n : Nat} {p : Array Nat} (h : Low n p) (i j : Nat) : Low n (p.swapIfInBounds i j) := by
  unfold Array.swapIfInBounds
  split
  · split
    · exact fun x hx => h x ((Array.swap_perm _ _).mem_iff.mp hx)
    · exact h
  · exact h
theorem Low.fold {n : Nat} (f g : Nat → Nat) : ∀ (l : List Nat) {p : Array Nat}, Low n p → Low n (l.foldl (fun a k => a.swapIfInBounds (f k) (g k)) p)
  | [], _, h => h
  | k :: l, _, h => Low.fold f g l (h.swap _ _)
theorem Low.rev {n : Nat} {p : Array Nat} (h : Low n p) (i j : Nat) : Low n (kas_rev p i j) := Low.fold (fun k => i + k) (fun k => j - 1 - k) _ h
theorem Low.bub {n : Nat} {p : Array Nat} (h : Low n p) (i j : Nat) : Low n (bubble p i j) := Low.fold (fun k => i - k) (fun k => i - k - 1) _ h
theorem ok_asc {n : Nat} (h0 : 0 < n) {p : Array Nat} (h : Low n p) : ∀ (f x : Nat), kOk n (fun _ => True) (kas_asc p f x)
  | 0, x => trivial
  | f + 1, x => by
    rw [kas_asc.eq_2]
    refine ⟨h.get h0 _, h.get h0 _, fun b => ?_⟩
    cases b
    · exact ok_asc h0 h f (x + 1)
    · exact trivial
theorem ok_desc {n : Nat} (h0 : 0 < n) : ∀ (f : Nat) {p : Array Nat} (a b : Nat), Low n p → kOk n (fun r => Low n r.1) (kas_desc f p a b)
  | 0, p, a, b, h => by
    rw [kas_desc.eq_1]
    exact h
  | f + 1, p, a, b, h => by
    rw [kas_desc.eq_2]
    refine ⟨h.get h0 _, h.get h0 _, fun c => ?_⟩
    cases c
    · refine ⟨h.get h0 _, h.get h0 _, fun d => ?_⟩
      cases d
      · exact ok_desc h0 f _ _ h
      · exact h
    · show kOk n _ (if b > 0 then kas_desc f (kas_rev p (a - (b + 1)) a) (a + 1) 0 else kas_desc f p (a + 1) 0)
      split
      · exact ok_desc h0 f _ _ (h.rev _ _)
      · exact ok_desc h0 f _ _ h
theorem ok_tail3 {n : Nat} (h0 : 0 < n) {p : Array Nat} (h : Low n p) (a b : Nat) : kOk n (fun r => Low n r.2) (kas_tail3 a b p) := by
  unfold kas_tail3
  exact kOk_bind (ok_asc h0 (h.rev _ _) _ _) fun m _ => h.rev _ _
theorem ok_descPart {n : Nat} (h0 : 0 < n) {p : Array Nat} (h : Low n p) (a b : Nat) : kOk n (fun r => Low n r.2) (kas_descPart a b p) := by
  unfold kas_descPart
  refine kOk_bind (ok_desc h0 _ _ _ h) fun r hr => ?_
  split
  · exact ok_tail3 h0 (hr.rev _ _) _ _
  · exact ok_tail3 h0 hr _ _
theorem ok_count {n : Nat} (h0 : 0 < n) {p : Array Nat} (h : Low n p) (a : Nat) : kOk n (fun r => Low n r.2) (kas_count a p) := by
  unfold kas_count
  refine kOk_bind (ok_asc h0 h _ _) fun m _ => ?_
  split
  · exact h
  · split
    · refine ⟨h.get h0 _, h.get h0 _, fun c => ?_⟩
      cases c
      · exact ok_descPart h0 (h.rev _ _) _ _
      · exact h
    · exact ok_descPart h0 h _ _
theorem ok_place {n : Nat} (h0 : 0 < n) {p : Array Nat} (h : Low n p) (k : Nat) : ∀ (f l r : Nat), kOk n (fun _ => True) (kas_place p k f l r)
  | 0, l, r => by
    rw [kas_place.eq_def]
    exact trivial
  | f + 1, l, r => by
    rw [kas_place.eq_def]
    show kOk n _ (if l ≥ r then _ else _)
    split
    · exact trivial
    · refine ⟨h.get h0 _, h.get h0 _, fun c => ?_⟩
      cases c
      · exact ok_place h0 h k f _ _
      · exact ok_place h0 h k f _ _
theorem ok_bin {n : Nat} (h0 : 0 < n) : ∀ (f : Nat) {p : Array Nat} (k : Nat), Low n p → kOk n (Low n) (kas_bin f p k)
  | 0, p, k, h => by
    rw [kas_bin.eq_1]
    exact h
  | f + 1, p, k, h => by
    rw [kas_bin.eq_2]
    exact kOk_bind (ok_place h0 h _ _ _ _) fun l _ => ok_bin h0 f _ (h.bub _ _)
theorem ok_sort {n : Nat} (h0 : 0 < n) : kOk n (Low n) (kas_sort n) := by
  unfold kas_sort
  have h : Low n (List.range n).toArray := fun x hx => List.mem_range.mp (by simpa using hx)
  refine kOk_bind (ok_count h0 h _) fun r hr => ?_
  split
  · exact ok_bin h0 _ _ hr
  · exact hr

/-! ### two things that are shown of one doing meet -/
open Classical in
theorem wp_meet {α : Type} {M : Model} {m : Sem α} {s : Shared} {Q1 Q2 : α → Prop} (h1 : ∀ A, wpAny M A m (fun a _ => Q1 a) (fun _ _ => False) s) (h2 : ∀ A, wpAny M A m (fun a _ => Q2 a) (fun _ _ => False) s) : ∃ a, Q1 a ∧ Q2 a := by
  refine Classical.byContradiction fun no => ?_
  let t : Sem PySem.Fin := m >>= fun a => pure (PySem.Fin.done (Flow.ret (Value.bool (decide (Q1 a)))))
  let c : Code := .builtin "boot" {}
  have go : ∀ (b : Bool) (Q : α → Prop), (∀ A, wpAny M A m (fun a _ => Q a) (fun _ _ => False) s) → (∀ a, Q a → decide (Q1 a) = b) → ∃ r s', Reach M [] s t c default [] s' (End.ret r) ∧ r = Except.ok (Flow.ret (Value.bool b)) := fun b Q h e => by
    refine (wp_iff_reach (M := M) (base := []) (c := c) t (fun r _ => r = Except.ok (Flow.ret (Value.bool b))) default s).mp ?_
    have hA : wpAny M { handled := (Ctx.of c []).handled, depth := frameCount (Ctx.of c []).below + (Ctx.of c []).code.weight, frames := none, guards := none, units := (Ctx.of c []).units } t (fun fin _ => fin = PySem.Fin.done (Flow.ret (Value.bool b))) (fun _ _ => False) s := by
      refine wpAny_bind (thn (h _) fun a s' ha => wpAny_pure ?_)
      rw [e a ha]
    have := hA (Ctx.of c []) default ⟨rfl, Nat.le_refl _, fun l z => (nomatch z), fun l z => (nomatch z), Nat.le_refl _⟩
    refine Sem.wp_mono M (Ctx.of c []) t ?_ ?_ default s this
    · intro fin p s' e
      subst e
      rfl
    · intro _ _ _ z
      exact z.elim
  obtain ⟨r1, s1, e1, f1⟩ := go true Q1 h1 fun a h => decide_eq_true h
  obtain ⟨r2, s2, e2, f2⟩ := go false Q2 h2 fun a h => decide_eq_false fun z => no ⟨a, z, h⟩
  obtain ⟨_, e⟩ := e1.det e2
  have e : r1 = r2 := by
    injection e
  rw [f1, f2] at e
  cases e

/-! ### the tree's answer, for numbers -/
theorem arr_map_toList {α β : Type} (f : α → β) (p : Array α) : (p.map f).toList = p.toList.map f := by simp
theorem tree_ints {prog : Program} {w : World} {s : Shared} (ks : List Int) (h2 : 2 ≤ ks.length) (h64 : ks.length < 64) :
    (kRun (fun i j => decide (ks.getD i 0 < ks.getD j 0)) (kas_sort ks.length)).toList.Perm (List.range ks.length) ∧
      ∀ i j, i ≤ j → j < ks.length → ks.getD ((kRun (fun i j => decide (ks.getD i 0 < ks.getD j 0)) (kas_sort ks.length)).getD i 0) 0 ≤ ks.getD ((kRun (fun i j => decide (ks.getD i 0 < ks.getD j 0)) (kas_sort ks.length)).getD j 0) 0 := by
  have h0 : 0 < ks.length := by omega
  have low : Low ks.length (kRun (fun i j => decide (ks.getD i 0 < ks.getD j 0)) (kas_sort ks.length)) := kOk_run (ok_sort h0)
  generalize hp : kRun (fun i j => decide (ks.getD i 0 < ks.getD j 0)) (kas_sort ks.length) = p at low ⊢
  let itL : List Keyed := (List.range ks.length).map fun i => (Value.int (ks.getD i 0) 0, Value.int (i : Nat) 0)
  let it : Array Keyed := itL.toArray
  have isz : it.size = ks.length := by simp [it, itL]
  have item : ∀ i, i < ks.length → kas_item it i = (Value.int (ks.getD i 0) 0, Value.int (i : Nat) 0) := fun i hi => by
    show it.getD i (Value.none, Value.none) = _
    simp [it, itL, Array.getD, hi]
  have st0 : Array.map (kas_item it) (List.range ks.length).toArray = it := by
    apply Array.ext
    · simp [isz]
    · intro i h1 h2
      have hi : i < ks.length := by simpa using h1
      simp only [Array.getElem_map, List.getElem_toArray, List.getElem_range]
      rw [item i hi]
      simp [it, itL]
  obtain ⟨r, ⟨q1, q2⟩, q3, q4⟩ := wp_meet (M := model prog w) (m := sortRuns'.run (kas_st oneType' it (List.range ks.length).toArray)) (s := s)
    (Q1 := fun r => (arrOf r.2).Perm it ∧ SortedTo (arrOf r.2) it.size) (Q2 := fun r => arrOf r.2 = Array.map (kas_item it) p ∧ p.size = ks.length)
    (fun A => by
      have := wpS_sortRuns (prog := prog) (w := w) (A := A) (E := fun _ _ => False) (s := s) (a₀ := it) (st := kas_st oneType' it (List.range ks.length).toArray) (Q := fun _ st' => (arrOf st').Perm it ∧ SortedTo (arrOf st') it.size)
        (fun x hx => by
          have hx : x ∈ itL := by simpa [it] using hx
          obtain ⟨i, _, rfl⟩ := List.mem_map.mp hx
          exact ⟨_, _, rfl⟩) ⟨by show (Array.map (kas_item it) (List.range ks.length).toArray).Perm it; rw [st0], rfl, rfl, rfl⟩ (by rw [isz]; exact h2) (by rw [isz]; exact h64) fun st' a1 a2 a3 => ⟨a1, a3⟩
      exact thn this fun r s' h => h.2)
    (fun A => by
      show kasC (model prog w) A (fun _ _ => False) sortRuns' (fun _ st' _ => arrOf st' = Array.map (kas_item it) p ∧ p.size = ks.length) (kas_st oneType' it (List.range ks.length).toArray) s
      refine kas_runs (G := fun p' _ => p' = p) h2 h64 (fun p' st' s' e1 e2 e3 e4 => by subst e4; exact ⟨e2, e1⟩) ?_
      refine kasWp_run (lt := fun i j => decide (ks.getD i 0 < ks.getD j 0)) (fun i j C hi hj q => ?_) (ok_sort h0) hp
      unfold kas_cmp
      rw [item i hi, item j hj]
      exact kat_lt_int q)
  rw [q3] at q1 q2
  have plow : ∀ x ∈ p.toList, x < ks.length := fun x hx => low x (by simpa using hx)
  constructor
  · have q1' : (p.toList.map (kas_item it)).Perm itL := by
      have := Array.perm_iff_toList_perm.mp q1
      rwa [arr_map_toList] at this
    have g := q1'.map fun x : Keyed => match x.2 with | .int i _ => i.toNat | _ => 0
    rw [List.map_map] at g
    have e1 : p.toList.map ((fun x : Keyed => match x.2 with | .int i _ => i.toNat | _ => 0) ∘ kas_item it) = p.toList := by
      refine (List.map_congr_left fun x hx => ?_).trans (List.map_id _)
      show (match (kas_item it x).2 with | .int i _ => i.toNat | _ => 0) = x
      rw [item x (plow x hx)]
      rfl
    have e2 : itL.map (fun x : Keyed => match x.2 with | .int i _ => i.toNat | _ => 0) = List.range ks.length := by
      show (List.map _ (List.map _ _)) = _
      rw [List.map_map]
      refine (List.map_congr_left fun x hx => ?_).trans (List.map_id _)
      rfl
    rw [e1, e2] at g
    exact g
  · intro i j hij hj
    have k := q2 i j hij (by rw [isz]; exact hj)
    have at_ : ∀ i, i < ks.length → PyProof.Rows.K (Array.map (kas_item it) p) i = ks.getD (p.getD i 0) 0 := fun i hi => by
      have hs : i < p.size := by rw [q4]; exact hi
      unfold PyProof.Rows.K
      have e : (Array.map (kas_item it) p)[i]? = some (kas_item it p[i]) := by
        rw [Array.getElem?_map, Array.getElem?_eq_getElem hs]
        rfl
      rw [e, item _ (low _ (Array.getElem_mem hs))]
      have : p.getD i 0 = p[i] := by simp [Array.getD, hs]
      rw [this]
      rfl
    rw [at_ i (by omega), at_ j hj] at k
    exact k
end L2

set_option maxHeartbeats 4000000
namespace L2
open PySem PySem.Spec PyProof.Rows PySem.W

/-! ### pairs of numbers in their order -/
def lexB (a b : Int × Int) : Bool := decide (a.1 < b.1 ∨ (a.1 = b.1 ∧ a.2 < b.2))
theorem cnt_lt {α : Type} (f g : α → Bool) (m : ∀ x, f x = true → g x = true) : ∀ {l : List α}, (∃ x ∈ l, g x = true ∧ f x = false) → l.countP f < l.countP g
  | y :: l, ⟨x, hx, h1, h2⟩ => by
    rw [List.countP_cons, List.countP_cons]
    have le : l.countP f ≤ l.countP g := List.countP_mono_left fun z _ hz => m z hz
    rcases List.mem_cons.mp hx with rfl | hx
    · rw [if_pos h1, if_neg (by rw [h2]; exact Bool.false_ne_true)]
      omega
    · have := cnt_lt f g m ⟨x, hx, h1, h2⟩
      by_cases a : f y = true
      · rw [if_pos a, if_pos (m y a)]
        omega
      · rw [if_neg a]
        omega
def rank (ks : List (Int × Int)) (i : Nat) : Int := (ks.countP fun k => lexB k (ks.getD i (0, 0)) : Nat)
theorem rank_lt {ks : List (Int × Int)} {i j : Nat} (hi : i < ks.length) : lexB (ks.getD i (0, 0)) (ks.getD j (0, 0)) = decide (rank ks i < rank ks j) := by
  unfold rank
  have mi : ks.getD i (0, 0) ∈ ks := by
    rw [List.getD_eq_getElem?_getD, List.getElem?_eq_getElem hi]
    exact List.getElem_mem hi
  generalize ks.getD i (0, 0) = a at mi ⊢
  generalize ks.getD j (0, 0) = b
  cases h : lexB a b with
  | true =>
    have h := of_decide_eq_true h
    have := cnt_lt (fun k => lexB k a) (fun k => lexB k b) (fun k hk => by
      have := of_decide_eq_true hk
      exact decide_eq_true (by omega)) ⟨a, mi, decide_eq_true h, decide_eq_false (by omega)⟩
    exact (decide_eq_true (by omega)).symm
  | false =>
    have h := of_decide_eq_false h
    have : (ks.countP fun k => lexB k b) ≤ ks.countP fun k => lexB k a := List.countP_mono_left fun k _ hk => by
      have := of_decide_eq_true hk
      exact decide_eq_true (by omega)
    exact (decide_eq_false (by omega)).symm
theorem tree_pairs {prog : Program} {w : World} {s : Shared} (ks : List (Int × Int)) (h2 : 2 ≤ ks.length) (h64 : ks.length < 64) :
    ∃ p : Array Nat, kRun (fun i j => lexB (ks.getD i (0, 0)) (ks.getD j (0, 0))) (kas_sort ks.length) = p ∧ p.toList.Perm (List.range ks.length) ∧ (p.toList.map fun i => ks.getD i (0, 0)).Perm ks ∧
      (p.toList.map fun i => ks.getD i (0, 0)).Pairwise fun a b => lexB b a = false := by
  let rs : List Int := (List.range ks.length).map (rank ks)
  have rl : rs.length = ks.length := by simp [rs]
  have ra : ∀ i, i < ks.length → rs.getD i 0 = rank ks i := fun i hi => by simp [rs, List.getD_eq_getElem?_getD, hi]
  obtain ⟨q1, q2⟩ := tree_ints (prog := prog) (w := w) (s := s) rs (by omega) (by omega)
  rw [rl] at q1 q2
  have e : kRun (fun i j => lexB (ks.getD i (0, 0)) (ks.getD j (0, 0))) (kas_sort ks.length) = kRun (fun i j => decide (rs.getD i 0 < rs.getD j 0)) (kas_sort ks.length) := by
    refine kRun_congr (fun i j hi hj => ?_) (ok_sort (n := ks.length) (by omega))
    rw [ra i hi, ra j hj]
    exact rank_lt hi
  generalize kRun (fun i j => decide (rs.getD i 0 < rs.getD j 0)) (kas_sort ks.length) = p at q1 q2 e
  refine ⟨p, e, q1, ?_, ?_⟩
  · have := q1.map fun i => ks.getD i (0, 0)
    have e2 : (List.range ks.length).map (fun i => ks.getD i (0, 0)) = ks := by
      apply List.ext_getElem
      · simp
      · intro i h1 h2
        simp [List.getD_eq_getElem?_getD, h2]
    rwa [e2] at this
  · have pl : p.toList.length = ks.length := by rw [q1.length_eq, List.length_range]
    have ps : p.size = ks.length := by rw [← pl]; simp
    rw [List.pairwise_iff_getElem]
    intro i j hi hj hij
    have hi' : i < ks.length := by rw [List.length_map, pl] at hi; exact hi
    have hj' : j < ks.length := by rw [List.length_map, pl] at hj; exact hj
    have k := q2 i j (by omega) hj'
    have low : ∀ x ∈ p.toList, x < ks.length := fun x hx => List.mem_range.mp (q1.mem_iff.mp hx)
    have g : ∀ i (h : i < p.toList.length), p.getD i 0 = p.toList[i] := fun i h => by
      have : i < p.size := by simpa using h
      simp [Array.getD, this]
    rw [g i (by omega), g j (by omega), ra _ (low _ (List.getElem_mem _)), ra _ (low _ (List.getElem_mem _))] at k
    rw [List.getElem_map, List.getElem_map, rank_lt (low _ (List.getElem_mem _))]
    exact decide_eq_false (by omega)
end L2

set_option maxHeartbeats 4000000
namespace L2
open PySem PySem.Spec PyProof.Rows PySem.W
section
variable {prog : Program} {w : World} {A : Around} {E : Value → Shared → Prop} {s : Shared}
theorem oneLt_int2 {a b : Int} {t u : Tok} {Q : Bool → Shared → Prop} (h : Q (decide (a < b)) s) : wpAny (model prog w) A (oneLt' false (Value.int a t) (Value.int b u)) Q E s := by
  rw [oneLt'_eq]
  show wpAny _ _ (compareOp .Lt (Value.int a t) (Value.int b u) >>= fun r => truthOfDropped r) _ _ _
  exact wpAny_bind (PySem.P.lt_int (wpAny_truthy_bool h))
/-- two tuples of two numbers -/
theorem lt_pair {x y : Addr} {ox oy : Obj} {a b a' b' : Int} {t1 t2 t3 t4 : Tok} {n m : Nat} {Q : Bool → Shared → Prop} (hx : s.heap.get? x = some ox) (dx : ox.data = .seq #[.int a t1, .int b t2] n) (hy : s.heap.get? y = some oy) (dy : oy.data = .seq #[.int a' t3, .int b' t4] m)
    (h : Q (lexB (a, b) (a', b')) s) : wpAny (model prog w) A (keyLt' (tuples' true) (.ref x) (.ref y)) Q E s := by
  refine kat_lt hx dx hy dy ?_
  show KatLex prog w A true _ Q [(.int a t1, .int a' t3), (.int b t2, .int b' t4)] 0 s
  refine kat_cons (wpAny_eqBool_int ?_)
  by_cases e : a = a'
  · subst e
    rw [show (a == a) = true by simp]
    refine kat_yes (kat_cons (wpAny_eqBool_int ?_))
    by_cases e2 : b = b'
    · subst e2
      rw [show (b == b) = true by simp]
      refine kat_yes (kat_nil ?_)
      have : lexB (a, b) (a, b) = false := decide_eq_false (by omega)
      rw [this] at h
      exact h
    · rw [show (b == b') = false by simpa using e2]
      refine kat_no (oneLt_int2 ?_)
      have : lexB (a, b) (a, b') = decide (b < b') := by
        show decide _ = decide _
        simp
      rw [this] at h
      exact h
  · rw [show (a == a') = false by simpa using e]
    refine kat_no (oneLt_int ?_)
    have : lexB (a, b) (a', b') = decide (a < a') := by
      show decide _ = decide _
      simp [e]
    rw [this] at h
    exact h
/-- list.sort of any things -/
theorem sortT {a : Addr} {vs : List Value} {n : Nat} {P : PySem.Fin → Shared → Prop} {G : Array Nat → Prop} (ho : s.heap.get? a = some (seqObj "list" vs.toArray n)) (h64 : vs.length < 64)
    (hs : 2 ≤ vs.length → ∀ s1 : Shared, (∀ b o, b ≠ a → s.heap.get? b = some o → s1.heap.get? b = some o) → wpAny (model prog w) A (keyKind' vs.toArray) (fun κ s2 => s2 = s1 ∧ KasT.kasWp (kas_cmp prog w A κ (pairsOf vs)) (kas_sort vs.length) (fun p s3 => s3 = s1 ∧ G p) s1) E s1)
    (hP : ∀ out : Array Value, (vs.length < 2 ∧ out = vs.toArray) ∨ (∃ p : Array Nat, G p ∧ p.size = vs.length ∧ out = p.map fun i => vs.getD i .none) → P (PySem.Fin.done (Flow.ret .none)) { s with heap := sortedHeap s.heap a vs out }) :
    wpAny (model prog w) A (Builtin.«list.sort» { pos := [Value.ref a] }) P E s := by
  have sl : sizeLine = 16777216 := sizeLine_eq
  have ha := Heap.lt_size ho
  rw [list_sort_plain]
  refine wpAny_bind (listItems_at ho rfl (wpAny_bind (listUpdate_at ho rfl ?_ (by rw [List.size_toArray]; omega) (by show 0 ≤ _; omega))))
  obtain ⟨e1, ho1⟩ : ∃ e1, (s.heap.update a (Obj.mapSeq fun _ => #[])).get? a = some (seqObj "list" #[] e1) := ⟨_, get?_update_seq ho fun _ => #[]⟩
  refine wpAny_bind (seqEpoch_at ho1 rfl (wpAny_bind (wpAny_newTuple (wpAny_bind (wpAny_newList (wpAny_holding ?_) (by show 0 ≤ _; omega))) (by show vs.toArray.toList.length ≤ _; simp; omega))))
  have ho6 : (((s.heap.update a (Obj.mapSeq fun _ => #[])).push (seqObj "tuple" vs.toArray 0)).push (seqObj "list" #[] 0)).get? a = some (seqObj "list" #[] e1) := by
    rw [Heap.get?_push_ne _ _ _ (by rw [size_push', Heap.size_update]; exact Nat.ne_of_lt (Nat.lt_succ_of_lt ha)), Heap.get?_push_ne _ _ _ (by rw [Heap.size_update]; exact Nat.ne_of_lt ha)]
    exact ho1
  have old : ∀ b o, b ≠ a → s.heap.get? b = some o → (((s.heap.update a (Obj.mapSeq fun _ => #[])).push (seqObj "tuple" vs.toArray 0)).push (seqObj "list" #[] 0)).get? b = some o := fun b o hb e => by
    have hl := Heap.lt_size e
    rw [Heap.get?_push_ne _ _ _ (by rw [size_push', Heap.size_update]; exact Nat.ne_of_lt (Nat.lt_succ_of_lt hl)), Heap.get?_push_ne _ _ _ (by rw [Heap.size_update]; exact Nat.ne_of_lt hl), Heap.get?_update_ne _ _ _ _ hb]
    exact e
  have sz : vs.toArray.size = vs.length := by simp
  show wpAny _ _ (if vs.toArray.size < 2 then _ else _) _ _ _
  by_cases h2 : vs.toArray.size < 2
  · rw [if_pos h2]
    refine wpAny_bind (wpAny_pure ?_)
    show wpAny _ _ ((if vs.toArray.size < 2 then pure () else sortRuns').run (SortSt.mk' general' (vs.toArray.zip vs.toArray) #[] 7 none) >>= _) _ _ _
    rw [if_pos h2]
    refine wpAny_bind (wpAny_pure ?_)
    have e : Array.map (fun x => x.2) (arrOf (SortSt.mk' general' (vs.toArray.zip vs.toArray) #[] 7 none)) = vs.toArray := by
      show Array.map (fun x => x.2) (vs.toArray.zip vs.toArray) = _
      apply Array.ext
      · simp
      · intro i a b
        simp
    refine wpAny_bind (seqEpoch_at ho6 rfl (wpAny_bind (listUpdate_at ho6 rfl ?_ (by show 0 ≤ _; omega) (by show (Array.map _ _).size ≤ _; rw [e]; omega))))
    show wpAny _ _ (if (e1 != e1) = true then _ else _) _ _ _
    rw [if_neg (by simp)]
    refine wpAny_pure ?_
    rw [e]
    exact hP _ (.inl ⟨by omega, rfl⟩)
  · rw [if_neg h2]
    refine wpAny_bind (thn (hs (by omega) _ old) fun κ s2 ⟨es, hk⟩ => ?_)
    subst es
    show wpAny _ _ ((if vs.toArray.size < 2 then pure () else sortRuns').run (SortSt.mk' κ (vs.toArray.zip vs.toArray) #[] 7 none) >>= _) _ _ _
    rw [if_neg h2]
    have st0 : Array.map (kas_item (pairsOf vs)) (List.range vs.length).toArray = vs.toArray.zip vs.toArray := by
      apply Array.ext
      · simp
      · intro i a b
        have hi : i < vs.length := by simpa using a
        simp only [Array.getElem_map, List.getElem_toArray, List.getElem_range]
        show (pairsOf vs).getD i (.none, .none) = _
        have : i < (pairsOf vs).size := by rw [pairsOf_size]; exact hi
        simp [Array.getD, this, pairsOf, hi]
    rw [← st0]
    refine wpAny_bind ?_
    have go : kasC (model prog w) A E sortRuns' (fun _ st' s' => s' = _ ∧ failedOf st' = none ∧ ∃ p : Array Nat, G p ∧ p.size = vs.length ∧ arrOf st' = Array.map (kas_item (pairsOf vs)) p) (kas_st κ (pairsOf vs) (List.range vs.length).toArray) _ :=
      kas_runs (by omega) h64 (fun p' st' s' z1 z2 z3 z4 => ⟨z4.1, z3, p', z4.2, z1, z2⟩) hk
    refine thn go fun r s' ⟨es, hf, p, hg, hps, ha'⟩ => ?_
    obtain ⟨u, st'⟩ := r
    subst es
    have e : Array.map (fun x => x.2) (arrOf st') = p.map fun i => vs.getD i .none := by
      have ha' : arrOf st' = Array.map (kas_item (pairsOf vs)) p := ha'
      rw [ha', Array.map_map]
      congr 1
      funext i
      show (kas_item (vs.toArray.zip vs.toArray) i).2 = _
      rw [kat_item rfl]
    refine wpAny_bind (seqEpoch_at ho6 rfl (wpAny_bind (listUpdate_at ho6 rfl ?_ (by show 0 ≤ _; omega) (by show (Array.map _ _).size ≤ _; rw [e, Array.size_map]; omega))))
    have hf : failedOf st' = none := hf
    rw [hf]
    show wpAny _ _ (if (e1 != e1) = true then _ else _) _ _ _
    rw [if_neg (by simp)]
    refine wpAny_pure ?_
    rw [e]
    exact hP _ (.inr ⟨p, hg, hps, rfl⟩)
end
end L2

set_option maxHeartbeats 4000000
namespace L2
open PySem PySem.Spec PyProof.Rows PySem.W
section
variable {prog : Program} {w : World} {A : Around} {E : Value → Shared → Prop} {s : Shared}
theorem sortedT {l : Addr} {vs : List Value} {Q : Value → Shared → Prop} {G : Array Nat → Prop} (hl : s.heap.IsList l vs.toArray) (h64 : vs.length < 64)
    (hs : 2 ≤ vs.length → ∀ s1 : Shared, (∀ b o, s.heap.get? b = some o → s1.heap.get? b = some o) → wpAny (model prog w) A.in1.in1 (keyKind' vs.toArray) (fun κ s2 => s2 = s1 ∧ KasT.kasWp (kas_cmp prog w A.in1.in1 κ (pairsOf vs)) (kas_sort vs.length) (fun p s3 => s3 = s1 ∧ G p) s1) E s1)
    (h : ∀ out : Array Value, (vs.length < 2 ∧ out = vs.toArray) ∨ (∃ p : Array Nat, G p ∧ p.size = vs.length ∧ out = p.map fun i => vs.getD i .none) → Q (.ref (s.heap.objs.size + 1)) { s with heap := sortedAll s.heap vs out }) :
    wpAny (model prog w) A (call (.builtin "sorted") [.ref l]) Q E s := by
  have sl : sizeLine = 16777216 := sizeLine_eq
  refine Calls.call_function_entry kind_sorted plain_sorted entry_sorted (args_sorted1 _) ?_
  have hsz : ((s.heap.push (seqObj "list" #[] 0)).update s.heap.objs.size (Obj.mapSeq fun x => x ++ vs.toArray)).objs.size = s.heap.objs.size + 1 := by
    rw [Heap.size_update, size_push']
  have hoL : (((s.heap.push (seqObj "list" #[] 0)).update s.heap.objs.size (Obj.mapSeq fun x => x ++ vs.toArray)).push (seqObj "list" vs.toArray 0)).get? (s.heap.objs.size + 1) = some (seqObj "list" vs.toArray 0) := by
    rw [← hsz]
    exact Heap.get?_push_size _ rfl
  show wpAny _ _ (pure _ >>= _) _ _ _
  refine wpAny_bind (wpAny_pure (wpAny_bind (collect_list hl (wpAny_bind (wpAny_newList ?_ (by omega))) (by omega))))
  show wpAny _ _ (do let _ ← holding [Value.ref ((s.heap.push (seqObj "list" #[] 0)).update s.heap.objs.size (Obj.mapSeq fun x => x ++ vs.toArray)).objs.size] (call (.builtin "list.sort") [Value.ref ((s.heap.push (seqObj "list" #[] 0)).update s.heap.objs.size (Obj.mapSeq fun x => x ++ vs.toArray)).objs.size] []); ret (Value.ref ((s.heap.push (seqObj "list" #[] 0)).update s.heap.objs.size (Obj.mapSeq fun x => x ++ vs.toArray)).objs.size)) _ _ _
  rw [hsz]
  refine wpAny_bind (wpAny_holding (wpAny_call_entry slot_list_sort ⟨_, hoL, rfl⟩ entry_list_sort ?_ (args_list_sort _)))
  refine sortT (G := G) hoL h64 (fun h2 s1 k => hs h2 s1 fun b o e => k b o ?_ ?_) fun out ho => ?_
  · exact Nat.ne_of_lt (Nat.lt_succ_of_lt (Heap.lt_size e))
  · have lt := Heap.lt_size e
    rw [Heap.get?_push_ne _ _ _ (by rw [hsz]; exact Nat.ne_of_lt (Nat.lt_succ_of_lt lt)), Heap.get?_update_ne _ _ _ _ (Nat.ne_of_lt lt), Heap.get?_push_ne _ _ _ (Nat.ne_of_lt lt)]
    exact e
  · exact ⟨.none, rfl, wpAny_pure ⟨_, rfl, h out ho⟩⟩
end
/-- a value that is a tuple of two numbers -/
def PairOf (H : Hp) (v : V) (k : Int × Int) : Prop := ∃ b, v = .ref b ∧ H b = some (.tup [.int k.1, .int k.2])
theorem pairs_at {α β : Type} {F : α → β → Prop} : ∀ {xs : List α} {ys : List β} {d : α} {e : β}, Paired F xs ys → ∀ {i : Nat}, i < xs.length → F (xs.getD i d) (ys.getD i e)
  | _, _, _, _, .nil, i, h => absurd h (Nat.not_lt_zero _)
  | _, _, _, _, .cons r t, 0, _ => r
  | _, _, _, _, .cons r t, i + 1, h => pairs_at t (i := i) (Nat.lt_of_succ_lt_succ h)
theorem paired_of_map {α β γ : Type} {F : β → γ → Prop} (f : α → β) (g : α → γ) : ∀ {l : List α}, (∀ i ∈ l, F (f i) (g i)) → Paired F (l.map f) (l.map g)
  | [], _ => .nil
  | a :: l, h => .cons (h a (List.mem_cons_self ..)) (paired_of_map f g fun i hi => h i (List.mem_cons_of_mem _ hi))
section
variable {X : Cx}
def rSorted (K : PySem.W.Frag) : List V → Hp → VK → Prop := fun xs H Q => ∃ a ys ks, xs = [.ref a] ∧ SqL K H a ys ∧ Paired (PairOf H) ys ks ∧ ys.length < 64 ∧
  ∀ l zs ks', H l = none → Paired (PairOf H) zs ks' → ks'.Perm ks → ks'.Pairwise (fun a b => lexB b a = false) → Q (.ref l) (upd H l (.lst zs))
theorem call_sorted : CallR X (.builtin "sorted") (rSorted X.K) := by
  intro pins s σ H xs us Q I r h
  obtain ⟨a, ys, ks, rfl, hq, hp, h64, q⟩ := h
  obtain ⟨u, rfl, rx⟩ := vals1 r
  cases rx
  obtain ⟨its, r', pl, hz⟩ := I.list hq
  have hlen : ys.length = its.length := r'.length
  have klen : ys.length = ks.length := hp.length
  have sl : sizeLine = 16777216 := sizeLine_eq
  -- each item: a tuple of two numbers
  have item : ∀ i, i < ks.length → ∃ b o t1 t2 n, ys.getD i .non = .ref b ∧ its.getD i .none = .ref b ∧ s.heap.get? b = some o ∧ o.cls = .type "tuple" ∧ o.data = .seq #[.int (ks.getD i (0, 0)).1 t1, .int (ks.getD i (0, 0)).2 t2] n := fun i hi => by
    obtain ⟨b, e1, e2⟩ := pairs_at (d := .non) (e := ((0, 0) : Int × Int)) hp (i := i) (by omega)
    have rv := pairs_at (d := V.non) (e := Value.none) r' (i := i) (by omega)
    rw [e1] at rv
    have rv : its.getD i .none = .ref b := rv
    obtain ⟨is, rs, ⟨o, ho, hc, n, hd⟩, _⟩ := I.tuple (SqT.of (K := X.K) e2)
    obtain ⟨u1, u2, rfl, ⟨t1, rfl⟩, ⟨t2, rfl⟩⟩ := vals2 rs
    exact ⟨b, o, t1, t2, n, e1, rv, ho, hc, hd⟩
  refine sortedT (G := fun p => (p.toList.map fun i => ks.getD i (0, 0)).Perm ks ∧ (p.toList.map fun i => ks.getD i (0, 0)).Pairwise (fun a b => lexB b a = false) ∧ p.toList.Perm (List.range ks.length)) pl.isList (by omega) (fun h2 s1 keep => ?_) (fun out ho => ?_)
  · obtain ⟨p, e, q1, q2, q3⟩ := tree_pairs (prog := X.prog) (w := X.w) (s := s) ks (by omega) (by omega)
    have fs : ∃ fs : List Value, KatTups s1.heap its fs ∧ 0 < fs.length ∧ ∀ v ∈ fs, Looks (model X.prog X.w) s1.heap (typeOf v) (.type "int") := by
      have all : ∀ (vs : List Value), (∀ v ∈ vs, ∃ (b : Addr) (o : Obj) (x y : Int) (t1 t2 : Tok) (n : Nat), v = .ref b ∧ s.heap.get? b = some o ∧ o.cls = .type "tuple" ∧ o.data = .seq #[.int x t1, .int y t2] n) → ∃ fs : List Value, KatTups s1.heap vs fs ∧ fs.length = vs.length ∧ ∀ v ∈ fs, Looks (model X.prog X.w) s1.heap (typeOf v) (.type "int") := by
        intro vs
        induction vs with
        | nil => exact fun _ => ⟨[], trivial, rfl, fun v hv => absurd hv (by simp)⟩
        | cons v vs ih =>
          intro hv
          obtain ⟨fs, f1, f2, f3⟩ := ih fun v' h' => hv v' (List.mem_cons_of_mem _ h')
          obtain ⟨b, o, x, y, t1, t2, n, e1, e2, e3, e4⟩ := hv v (List.mem_cons_self ..)
          refine ⟨.int x t1 :: fs, ⟨⟨b, o, _, n, e1, keep _ _ e2, e3, e4, rfl⟩, f1⟩, by rw [List.length_cons, List.length_cons, f2], fun v' h' => ?_⟩
          rcases List.mem_cons.mp h' with rfl | h'
          · exact Looks.of_pure rfl
          · exact f3 v' h'
      obtain ⟨fs, f1, f2, f3⟩ := all its fun v hv => by
        obtain ⟨i, hi, rfl⟩ := List.getElem_of_mem hv
        obtain ⟨b, o, t1, t2, n, z1, z2, z3, z4, z5⟩ := item i (by omega)
        refine ⟨b, o, _, _, t1, t2, n, ?_, z3, z4, z5⟩
        rw [← z2, List.getD_eq_getElem?_getD, List.getElem?_eq_getElem hi]
        rfl
      exact ⟨fs, f1, by omega, f3⟩
    obtain ⟨fs, f1, f2, f3⟩ := fs
    refine kat_kind f1 f2 f3 (by decide) ⟨rfl, ?_⟩
    rw [show its.length = ks.length by omega]
    refine kasWp_run (lt := fun i j => lexB (ks.getD i (0, 0)) (ks.getD j (0, 0))) (fun i j C hi hj hC => ?_) (ok_sort (n := ks.length) (by omega)) ⟨rfl, ?_⟩
    · obtain ⟨b, o, t1, t2, n, z1, z2, z3, z4, z5⟩ := item i hi
      obtain ⟨b', o', t1', t2', n', z1', z2', z3', z4', z5'⟩ := item j hj
      unfold kas_cmp
      show wpAny _ _ (keyLt' _ (kas_item (its.toArray.zip its.toArray) i).1 (kas_item (its.toArray.zip its.toArray) j).1) _ _ _
      rw [kat_item rfl, kat_item rfl]
      show wpAny _ _ (keyLt' _ (its.getD i .none) (its.getD j .none)) _ _ _
      rw [z2, z2']
      exact lt_pair (keep _ _ z3) z5 (keep _ _ z3') z5' hC
    · rw [e]
      exact ⟨q2, q3, q1⟩
  · have fr : H (s.heap.objs.size + 1) = none := I.hok.fresh (Nat.le_succ _)
    have fin : ∀ (zs : List V) (ks' : List (Int × Int)) (os : List Value), out = os.toArray → Vals zs os → zs.length ≤ 64 → Paired (PairOf H) zs ks' → ks'.Perm ks → ks'.Pairwise (fun a b => lexB b a = false) → EP X pins σ Q (.ref (s.heap.objs.size + 1)) { s with heap := sortedAll s.heap its out } := fun zs ks' os e1 e2 e3 e4 e5 e6 => by
      obtain ⟨c, hat⟩ := sortedAll_at s.heap its out
      have I1 : Inv X pins σ (upd H (s.heap.objs.size + 1) (.lst zs)) { s with heap := sortedAll s.heap its out } :=
        I.laid (t' := s.toks) (fun b o e => sortedAll_old e) (Nat.le_succ _) (show ObjOk X.prog X.w _ _ _ (.lst zs) from ⟨by omega, os, c, e2, by rw [hat, e1]⟩)
      exact ⟨.ref _, _, I1, rfl, q _ zs ks' fr e4 e5 e6⟩
    rcases ho with ⟨h2, rfl⟩ | ⟨p, ⟨g1, g2, g3⟩, g4, rfl⟩
    · refine fin ys ks its rfl r' (by omega) hp (List.Perm.refl _) ?_
      match ks, klen with
      | [], _ => exact List.Pairwise.nil
      | [k], _ => exact List.pairwise_singleton _ _
      | k :: k' :: r, z => simp at z; omega
    · have low : ∀ i ∈ p.toList, i < ks.length := fun i hi => List.mem_range.mp (g3.mem_iff.mp hi)
      refine fin (p.toList.map fun i => ys.getD i .non) (p.toList.map fun i => ks.getD i (0, 0)) (p.toList.map fun i => its.getD i .none) ?_ ?_ ?_ ?_ g1 g2
      · apply Array.ext'
        simp
      · exact paired_of_map _ _ fun i hi => pairs_at r' (by have := low i hi; omega)
      · rw [List.length_map, g3.length_eq, List.length_range]
        omega
      · exact paired_of_map _ _ fun i hi => pairs_at hp (by have := low i hi; omega)
end
end L2

set_option maxHeartbeats 4000000
namespace L2
open PySem PySem.Spec PyProof.Rows PySem.W
theorem ints_toks : ∀ {ns : List Int} {us : List Value}, Vals (ns.map V.int) us → ∃ xs : List (Int × Tok), us = xs.map (fun p => Value.int p.1 p.2) ∧ xs.map (fun p => p.1) = ns
  | [], _, .nil => ⟨[], rfl, rfl⟩
  | n :: ns, _, .cons ⟨t, e⟩ r => by
    obtain ⟨xs, e1, e2⟩ := ints_toks r
    refine ⟨(n, t) :: xs, ?_, ?_⟩
    · rw [List.map_cons, ← e1, e]
    · rw [List.map_cons, e2]
theorem pre_sum (xs : List (Int × Tok)) : ∀ k, k ≤ xs.length → preSum (numAt xs.toArray) k = ((xs.take k).map (fun p => p.1)).sum
  | 0, _ => rfl
  | k + 1, h => by
    have i := pre_sum xs k (by omega)
    show preSum (numAt xs.toArray) k + numAt xs.toArray k = _
    rw [i, List.take_add_one, List.getElem?_eq_getElem (by omega), List.map_append, List.sum_append]
    congr 1
    have : numAt xs.toArray k = (xs[k]'(by omega)).1 := by
      unfold numAt
      simp [show k < xs.length by omega]
    rw [this]
    simp
section
variable {X : Cx}
theorem call_sum (hc : X.calm = true) : CallR X (.builtin "sum") (fun xs H Q => ∃ (a : Addr) (ns : List Int), xs = [.ref a] ∧ SqL X.K H a (ns.map V.int) ∧ Q (.int ns.sum) H) := by
  intro pins s σ H xs us Q I r h
  obtain ⟨a, ns, rfl, hq, q⟩ := h
  obtain ⟨u, rfl, rx⟩ := vals1 r
  cases rx
  obtain ⟨its, r', pl, hz⟩ := I.list hq
  obtain ⟨xs, e1, e2⟩ := ints_toks r'
  have hl : s.heap.IsList a (intItems xs.toArray) := by
    have e : intItems xs.toArray = its.toArray := by
      rw [e1]
      unfold intItems
      simp
    rw [e]
    exact pl.isList
  refine sum_intListG (I.ok.hd hc) hl fun h' tk t' kp => ⟨.int _, H, I.kept kp, ⟨_, rfl⟩, ?_⟩
  have e : preSum (numAt xs.toArray) xs.toArray.size = ns.sum := by
    rw [List.size_toArray, pre_sum xs xs.length (Nat.le_refl _), List.take_length, e2]
  rw [e]
  exact q
end
end L2

set_option maxHeartbeats 4000000
namespace L2
open PySem PySem.Spec PyProof.Rows PySem.W
section
variable {prog : Program} {w : World} {A : Around} {E : Value → Shared → Prop}
end
section
variable {X : Cx} {pos : Pos}
end
end L2

set_option maxHeartbeats 4000000
namespace L2
open PySem PySem.Spec PyProof.Rows PySem.W
section
variable {X : Cx}
/-- behind a call that keeps every object but the frame's own, and the frame's names -/
theorem Inv.byNews {pins : List (Addr × Obj)} {σ : St} {H : Hp} {s : Shared} {h' : Heap} {tk : Nat} {m : Str → Option Value} (I : Inv X pins σ H s) (hn : s.heap.Ns X.env.locals m) (F : Fr X.base X.env.locals h' m) (N : News X.base X.env.locals h' (allNews X.base s.heap X.env.locals)) :
    Inv X pins σ H { s with heap := h', toks := tk } := by
  have keep : ∀ b o, b ≠ X.env.locals → s.heap.get? b = some o → h'.get? b = some o := fun b o hb e => by
    cases z : X.base.get? b with
    | some o' =>
      have := I.bk b o' z
      rw [e] at this
      cases this
      exact F.keep b o z
    | none => exact (N (b, o) (mem_allNews hb z e)).1
  refine I.step (g' := s.gens) (d' := s.drawn) (ch := []) (fun _ z => nomatch z) (fun b o hb _ _ e _ => keep b o hb e) (fun b o hb _ _ e _ => ⟨o.slots, keep b o hb e⟩) (fun b o _ e n => n) (fun b o _ e => ?_) (fun _ _ e => e) (fun _ _ _ e => e) (fun b ps e => ⟨#[], by simpa using e⟩) (fun m' hm => ?_) (fun b o q => ?_) I.bare
  · by_cases hb : b = X.env.locals
    · subst hb
      obtain ⟨o', _, _, z, _⟩ := F.ns
      exact ⟨o', z⟩
    · exact ⟨o, keep b o hb e⟩
  · have : m' = m := funext fun x => hm.agree hn x
    subst this
    exact F.ns
  · refine (I.hok b o q).stay (fun c w' hc r => keep c w' ?_ r) (fun _ r => r) fun _ _ r => r
    rintro rfl
    rcases hc with hc | hc
    · rw [← hc, I.free] at q; cases q
    · rw [I.free] at hc; cases hc
theorem bools_are : ∀ {bs : List Bool} {us : List Value}, Vals (bs.map V.bl) us → LSm.BoolsAre us bs
  | [], _, .nil => .nil
  | b :: bs, _, .cons e r => by
    cases (show _ = Value.bool b from e)
    exact .cons b (bools_are r)
theorem call_any (hc : X.calm = true) : CallR X (.builtin "any") (fun xs H Q => ∃ (a : Addr) (bs : List Bool), xs = [.ref a] ∧ SqL X.K H a (bs.map V.bl) ∧ Q (.bl (bs.any id)) H) := by
  intro pins s σ H xs us Q I r h
  obtain ⟨a, bs, rfl, hq, q⟩ := h
  obtain ⟨u, rfl, rx⟩ := vals1 r
  cases rx
  obtain ⟨its, r', pl, hz⟩ := I.list hq
  obtain ⟨m, F⟩ := I.fr
  exact LSm.any_bools F news_all (I.ok.hd hc) pl.isList (bools_are r') fun h' tk F' N' => ⟨.bl _, H, I.byNews F.ns F' N', rfl, q⟩
theorem call_all (hc : X.calm = true) : CallR X (.builtin "all") (fun xs H Q => ∃ (a : Addr) (bs : List Bool), xs = [.ref a] ∧ SqL X.K H a (bs.map V.bl) ∧ Q (.bl (bs.all id)) H) := by
  intro pins s σ H xs us Q I r h
  obtain ⟨a, bs, rfl, hq, q⟩ := h
  obtain ⟨u, rfl, rx⟩ := vals1 r
  cases rx
  obtain ⟨its, r', pl, hz⟩ := I.list hq
  obtain ⟨m, F⟩ := I.fr
  exact LSm.all_bools F news_all (I.ok.hd hc) pl.isList (bools_are r') fun h' tk F' N' => ⟨.bl _, H, I.byNews F.ns F' N', rfl, q⟩
end
end L2

set_option maxHeartbeats 4000000
namespace L2
open PySem PySem.Spec PyProof.Rows PySem.W
section
variable {X : Cx}
theorem ints_are : ∀ {ns : List Int} {us : List Value}, Vals (ns.map V.int) us → IntsAre us ns
  | [], _, .nil => .nil
  | n :: ns, _, .cons ⟨t, e⟩ r => by
    subst e
    exact .cons n t (ints_are r)
end
end L2

set_option maxHeartbeats 4000000
namespace L2
open PySem PySem.Spec PyProof.Rows PySem.W
/-! ### texts: <=, split -/
section
variable {X : Cx}
end
end L2

set_option maxHeartbeats 4000000
namespace L2
open PySem PySem.Spec PyProof.Rows PySem.W
section
variable {prog : Program} {w : World} {A : Around} {E : Value → Shared → Prop} {s : Shared}
end
end L2

set_option maxHeartbeats 4000000
namespace L2
open PySem PySem.Spec PyProof.Rows PySem.W
section
variable {prog : Program} {w : World} {A : Around} {E : Value → Shared → Prop} {s : Shared}
end
end L2

set_option maxHeartbeats 4000000
namespace L2
open PySem PySem.Spec PyProof.Rows PySem.W
section
variable {prog : Program} {w : World} {A : Around} {E : Value → Shared → Prop} {s : Shared}
end
section
variable {X : Cx}
end
end L2

set_option maxHeartbeats 4000000
namespace L2
open PySem PySem.Spec PyProof.Rows
section
variable {X : Cx}
end
end L2

set_option maxHeartbeats 4000000
namespace L2
open PySem PySem.Spec PyProof.Rows
section
variable {X : Cx}
end
end L2

set_option maxHeartbeats 4000000
namespace L2
open PySem PySem.Spec PyProof.Rows
section
variable {X : Cx}
end
end L2

set_option maxHeartbeats 4000000
namespace L2
open PySem PySem.Spec PyProof.Rows
section
variable {X : Cx} {NB : List Str} {n : Nat} {js : List Nat} {scope : Scope} {cl : List (Str × Addr)}
end
end L2

set_option maxHeartbeats 4000000
namespace L2
open PySem PySem.Spec PyProof.Rows PySem.W
theorem paired_of_get {α β : Type} {F : α → β → Prop} : ∀ {xs : List α} {ys : List β}, xs.length = ys.length → (∀ (j : Nat) x y, xs[j]? = some x → ys[j]? = some y → F x y) → Paired F xs ys
  | [], [], _, _ => .nil
  | [], _ :: _, h, _ => by simp at h
  | _ :: _, [], h, _ => by simp at h
  | a :: xs, b :: ys, h, f => .cons (f 0 a b rfl rfl) (paired_of_get (by simpa using h) fun j x y e1 e2 => f (j + 1) x y (by simpa using e1) (by simpa using e2))
section
variable {X : Cx}
/-- range(a, b) as a thing -/
def rRng : List V → Hp → VK → Prop := fun xs H Q => ∃ i j : Int, xs = [.int i, .int j] ∧ ∀ r, H r = none → Q (.ref r) (upd H r (.rng i j))
theorem call_rng : CallR X (.type "range") rRng := by
  intro pins s σ H xs us Q I r h
  obtain ⟨i, j, rfl, q⟩ := h
  obtain ⟨u, v, rfl, ⟨t, rfl⟩, ⟨t', rfl⟩⟩ := vals2 r
  refine call_range_2 ?_
  refine ⟨.ref s.heap.objs.size, _, I.laid (o := .rng i j) (t' := s.toks + 1) (fun b o e => Heap.get?_push_of_some _ e) (Nat.le_refl _) ⟨t, t', s.toks, Heap.get?_push_size _ rfl⟩, rfl, q _ (I.hok.fresh (Nat.le_refl _))⟩
def rngV (lo : Int) (n : Nat) : List V := (List.range n).map fun (k : Nat) => V.int (lo + (k : Int))
theorem rngV_len (lo : Int) (n : Nat) : (rngV lo n).length = n := by
  unfold rngV
  rw [List.length_map, List.length_range]
/-- list(r), r a range -/
def rListR : List V → Hp → VK → Prop := fun xs H Q => ∃ (p : Addr) (lo hi : Int), xs = [.ref p] ∧ H p = some (.rng lo hi) ∧ (-(2 ^ 62) ≤ lo ∧ lo < 2 ^ 62 ∧ -(2 ^ 62) ≤ hi ∧ hi < 2 ^ 62) ∧ hi - lo ≤ 1000 ∧ ∀ l, H l = none → Q (.ref l) (upd H l (.lst (rngV lo (hi - lo).toNat)))
theorem call_listR (hc : X.calm = true) : CallR X (.type "list") rListR := by
  intro pins s σ H xs us Q I r h
  obtain ⟨p, lo, hi, rfl, hp, ⟨b1, b2, b3, b4⟩, b5, q⟩ := h
  obtain ⟨u, rfl, rx⟩ := vals1 r
  cases rx
  obtain ⟨t, t', t'', e⟩ := (show ObjOk X.prog X.w H s.heap p (.rng lo hi) from I.hok p _ hp)
  have hn : Builtin.Range.rangeSize lo hi 1 = (((hi - lo).toNat : Nat) : Int) := by rw [rangeSize_one]; split <;> omega
  refine call_list_range (I.ok.hd hc) e (small_one b1 b2 b3 b4) hn (by omega) fun h' tk acc' c' kp e' ⟨hs, hv⟩ => ?_
  refine ⟨.ref s.heap.objs.size, _, I.laid (o := .lst (rngV lo (hi - lo).toNat)) (t' := tk) kp (Nat.le_refl _) ?_, rfl, q _ (I.hok.fresh (Nat.le_refl _))⟩
  have sl : sizeLine = 16777216 := sizeLine_eq
  refine ⟨by rw [rngV_len]; omega, acc'.toList, c', ?_, by simpa using e'⟩
  refine paired_of_get (by rw [rngV_len]; simp [hs]) fun j x y hx hy => ?_
  unfold rngV at hx
  rw [List.getElem?_map] at hx
  have hj : j < (hi - lo).toNat := by
    have := (List.getElem?_eq_some_iff.mp hy).1
    simp only [Array.length_toList] at this
    omega
  rw [List.getElem?_range hj] at hx
  cases hx
  obtain ⟨tk, rfl⟩ := hv j y (by simpa using hy)
  exact ⟨tk, by rw [Int.mul_one]⟩
end
end L2

set_option maxHeartbeats 4000000
namespace L2
open PySem PySem.Spec PyProof.Rows PySem.W
section
variable {X : Cx}
end
end L2

set_option maxHeartbeats 4000000
namespace L2
open PySem PySem.Spec PyProof.Rows PySem.W Builtin
section
variable {K : Frag} {x C : Addr} {prog : Program} {w : World} {A : Around} {E : Value → Shared → Prop} {s : Shared}
end
section
variable {X : Cx}
end
end L2

set_option maxHeartbeats 4000000
namespace L2
open PySem PySem.Spec PyProof.Rows PySem.W
section
variable {X : Cx}
end
end L2

set_option maxHeartbeats 4000000
namespace L2
open PySem PySem.Spec PyProof.Rows PySem.W
section
variable {X : Cx} {tg : Expr}
end
end L2

set_option maxHeartbeats 4000000
namespace L2
open PySem PySem.Spec PyProof.Rows PySem.W
section
variable {prog : Program} {w : World} {A : Around} {E : Value → Shared → Prop} {s : Shared}
end
end L2

set_option maxHeartbeats 4000000
namespace L2
open PySem PySem.Spec PyProof.Rows PySem.W
section
variable {prog : Program} {w : World} {A : Around} {E : Value → Shared → Prop} {s : Shared}
end
section
variable {X : Cx}
end
end L2

set_option maxHeartbeats 4000000
namespace L2
open PySem PySem.Spec PyProof.Rows PySem.W
section
variable {prog : Program} {w : World} {A : Around} {E : Value → Shared → Prop} {s : Shared}
end
end L2

set_option maxHeartbeats 4000000
namespace L2
open PySem PySem.Spec PyProof.Rows PySem.W
section
variable {prog : Program} {w : World} {A : Around} {E : Value → Shared → Prop}
end
end L2

set_option maxHeartbeats 4000000
namespace L2
open PySem PySem.Spec PyProof.Rows PySem.W
section
variable {X : Cx}
end
end L2

set_option maxHeartbeats 4000000
namespace L2
open PySem PySem.Spec PyProof.Rows PySem.W
/-! ### texts: x[a:b], startswith, int(x), for c in x -/
section
variable {X : Cx}
end
end L2

set_option maxHeartbeats 4000000
namespace L2
open PySem PySem.Spec PyProof.Rows PySem.W
section
variable {X : Cx}
end
end L2

set_option maxHeartbeats 4000000
namespace L2
open PySem PySem.Spec PyProof.Rows PySem.W
section
variable {X : Cx} {e : Expr} {apos cpos p : Pos} {ty : TE}
end
end L2

set_option maxHeartbeats 4000000
/-! ### sorts of any size: the search by leaps -/
namespace Sr
open PySem PyProof.Rows
def gallopP : Bool → Keyed → Array Keyed → Nat → Nat → Nat → StateT SortSt Sem (Option Nat) := sortPriv% PySem.Builtin.gallop
def askP (left : Bool) (key : Keyed) (arr : Array Keyed) (base : Nat) (i : Nat) : StateT SortSt Sem (Option Bool) := do
  let x ← elem' arr (base + i)
  if left then lt' x key else return (← lt' key x).map (!·)
theorem gallopP_eq (left : Bool) (key : Keyed) (arr : Array Keyed) (base n hint : Nat) : gallopP left key arr base n hint = (do
    let mut u := 0
    let mut v := 1
    let mut lo := 0
    let mut hi := 0
    let some r0 ← askP left key arr base hint | return none
    if r0 then
      let mx := n - hint
      for _ in [0:n] do
        if v ≥ mx then break
        let some mo ← askP left key arr base (hint + v) | return none
        if !mo then break
        u := v
        v := 2 * v + 1
      lo := hint + u + 1
      hi := hint + min v mx
    else
      let mx := hint + 1
      for _ in [0:n] do
        if v ≥ mx then break
        let some mo ← askP left key arr base (hint - v) | return none
        if mo then break
        u := v
        v := 2 * v + 1
      lo := hint + 1 - min v mx
      hi := hint - u
    for _ in [0:n] do
      if lo ≥ hi then break
      let m := lo + (hi - lo) / 2
      let some mo ← askP left key arr base m | return none
      if mo then lo := m + 1 else hi := m
    return some hi) := rfl
section
variable {M : Model} {A : Around} {E : Value → Shared → Prop} {s : Shared} {st : SortSt}
theorem wpS_gallop {left : Bool} {key : Keyed} {arr : Array Keyed} {base n hint : Nat} {p : Nat → Bool} {Q : Option Nat → SortSt → Prop}
    (hb : ∀ i, i < n → ∀ R : Option Bool → SortSt → Prop, R (some (p i)) st → wpS M A E s (askP left key arr base i) R st)
    (hm : ∀ i j, i ≤ j → j < n → p j = true → p i = true) (hh : hint < n)
    (h : ∀ k, k ≤ n → (∀ i, i < k → p i = true) → (∀ i, k ≤ i → i < n → p i = false) → Q (some k) st) :
    wpS M A E s (gallopP left key arr base n hint) Q st := by
  rw [gallopP_eq]
  refine wpS_bind (hb hint hh _ ?_)
  dsimp only
  cases e0 : p hint with
  | true =>
    rw [if_pos rfl]
    refine wpS_bind (wpS_mono (wpS_forRange (I := fun x c st' => st' = st ∧ ∃ u v, c = (none, u, v) ∧ u < v ∧ x + 1 ≤ v ∧ u < n - hint ∧ p (hint + u) = true)
      (Q := fun c st' => st' = st ∧ ∃ u v, c = (none, u, v) ∧ u < v ∧ u < n - hint ∧ p (hint + u) = true ∧ (v < n - hint → p (hint + v) = false)) ?step ?fin ⟨rfl, 0, 1, rfl, by omega, by omega, by omega, e0⟩) ?post)
    case fin =>
      rintro c st' ⟨rfl, u, v, rfl, a1, a2, a3, a4⟩
      exact ⟨rfl, u, v, rfl, a1, a3, a4, fun z => by omega⟩
    case step =>
      rintro x c st' _ hx ⟨rfl, u, v, rfl, a1, a2, a3, a4⟩
      dsimp only
      by_cases hge : v ≥ n - hint
      · rw [if_pos hge]
        exact wpS_pure ⟨rfl, u, v, rfl, a1, a3, a4, fun z => by omega⟩
      · rw [if_neg hge]
        refine wpS_bind (hb _ (by omega) _ ?_)
        dsimp only
        cases e : p (hint + v) with
        | true =>
          rw [if_neg (by simp)]
          exact wpS_pure ⟨rfl, v, 2 * v + 1, rfl, by omega, by omega, by omega, e⟩
        | false =>
          rw [if_pos (by simp)]
          exact wpS_pure ⟨rfl, u, v, rfl, a1, a3, a4, fun _ => e⟩
    case post =>
      rintro c st' ⟨rfl, u, v, rfl, a1, a3, a4, a5⟩
      have hB : ∀ i, hint + min v (n - hint) ≤ i → i < n → p i = false := fun i i1 i2 => by
        cases z : p i with
        | false => rfl
        | true =>
          have := a5 (by omega)
          rw [hm (hint + v) i (by omega) i2 z] at this
          cases this
      dsimp only
      refine wpS_bind (wpS_mono (wpS_forRange (I := fun x c st'' => st'' = st' ∧ ∃ lo hi, c = (none, lo, hi) ∧ lo ≤ hi ∧ hi ≤ n ∧ hi - lo ≤ n - x ∧ (∀ i, i < lo → p i = true) ∧ ∀ i, hi ≤ i → i < n → p i = false)
        (Q := fun c st'' => st'' = st' ∧ ∃ k, c = (none, k, k) ∧ k ≤ n ∧ (∀ i, i < k → p i = true) ∧ ∀ i, k ≤ i → i < n → p i = false) ?stepB ?finB ⟨rfl, hint + u + 1, hint + min v (n - hint), rfl, by omega, by omega, by omega, fun i hi => hm i (hint + u) (by omega) (by omega) a4, hB⟩) ?postB)
      case finB =>
        rintro c st'' ⟨rfl, lo, hi, rfl, a1, a2, a3, a4, a5⟩
        have : lo = hi := by omega
        subst this
        exact ⟨rfl, lo, rfl, a2, a4, a5⟩
      case stepB =>
        rintro x c st'' _ hx ⟨rfl, lo, hi, rfl, a1, a2, a3, a4, a5⟩
        dsimp only
        by_cases hge : lo ≥ hi
        · rw [if_pos hge]
          have : lo = hi := by omega
          subst this
          exact wpS_pure ⟨rfl, lo, rfl, a2, a4, a5⟩
        · rw [if_neg hge]
          refine wpS_bind (hb _ (by omega) _ ?_)
          dsimp only
          cases e : p (lo + (hi - lo) / 2) with
          | true =>
            rw [if_pos rfl]
            exact wpS_pure ⟨rfl, _, hi, rfl, by omega, a2, by omega, fun i hi' => hm i _ (by omega) (by omega) e, a5⟩
          | false =>
            rw [if_neg (by simp)]
            refine wpS_pure ⟨rfl, lo, _, rfl, by omega, by omega, by omega, a4, fun i i1 i2 => ?_⟩
            cases z : p i with
            | false => rfl
            | true => rw [hm _ i i1 i2 z] at e; cases e
      case postB =>
        rintro c st'' ⟨rfl, k, rfl, k1, k2, k3⟩
        exact wpS_pure (h k k1 k2 k3)
  | false =>
    rw [if_neg (by simp)]
    refine wpS_bind (wpS_mono (wpS_forRange (I := fun x c st' => st' = st ∧ ∃ u v, c = (none, u, v) ∧ u < v ∧ x + 1 ≤ v ∧ u < hint + 1 ∧ p (hint - u) = false)
      (Q := fun c st' => st' = st ∧ ∃ u v, c = (none, u, v) ∧ u < v ∧ u < hint + 1 ∧ p (hint - u) = false ∧ (v < hint + 1 → p (hint - v) = true)) ?step ?fin ⟨rfl, 0, 1, rfl, by omega, by omega, by omega, e0⟩) ?post)
    case fin =>
      rintro c st' ⟨rfl, u, v, rfl, a1, a2, a3, a4⟩
      exact ⟨rfl, u, v, rfl, a1, a3, a4, fun z => by omega⟩
    case step =>
      rintro x c st' _ hx ⟨rfl, u, v, rfl, a1, a2, a3, a4⟩
      dsimp only
      by_cases hge : v ≥ hint + 1
      · rw [if_pos hge]
        exact wpS_pure ⟨rfl, u, v, rfl, a1, a3, a4, fun z => by omega⟩
      · rw [if_neg hge]
        refine wpS_bind (hb _ (by omega) _ ?_)
        dsimp only
        cases e : p (hint - v) with
        | false =>
          rw [if_neg (by simp)]
          exact wpS_pure ⟨rfl, v, 2 * v + 1, rfl, by omega, by omega, by omega, e⟩
        | true =>
          rw [if_pos (by simp)]
          exact wpS_pure ⟨rfl, u, v, rfl, a1, a3, a4, fun _ => e⟩
    case post =>
      rintro c st' ⟨rfl, u, v, rfl, a1, a3, a4, a5⟩
      have hB : ∀ i, hint - u ≤ i → i < n → p i = false := fun i i1 i2 => by
        cases z : p i with
        | false => rfl
        | true =>
          rw [hm (hint - u) i (by omega) i2 z] at a4
          cases a4
      dsimp only
      refine wpS_bind (wpS_mono (wpS_forRange (I := fun x c st'' => st'' = st' ∧ ∃ lo hi, c = (none, lo, hi) ∧ lo ≤ hi ∧ hi ≤ n ∧ hi - lo ≤ n - x ∧ (∀ i, i < lo → p i = true) ∧ ∀ i, hi ≤ i → i < n → p i = false)
        (Q := fun c st'' => st'' = st' ∧ ∃ k, c = (none, k, k) ∧ k ≤ n ∧ (∀ i, i < k → p i = true) ∧ ∀ i, k ≤ i → i < n → p i = false) ?stepB ?finB ⟨rfl, hint + 1 - min v (hint + 1), hint - u, rfl, by omega, by omega, by omega, fun i hi => hm i (hint - v) (by omega) (by omega) (a5 (by omega)), hB⟩) ?postB)
      case finB =>
        rintro c st'' ⟨rfl, lo, hi, rfl, a1, a2, a3, a4, a5⟩
        have : lo = hi := by omega
        subst this
        exact ⟨rfl, lo, rfl, a2, a4, a5⟩
      case stepB =>
        rintro x c st'' _ hx ⟨rfl, lo, hi, rfl, a1, a2, a3, a4, a5⟩
        dsimp only
        by_cases hge : lo ≥ hi
        · rw [if_pos hge]
          have : lo = hi := by omega
          subst this
          exact wpS_pure ⟨rfl, lo, rfl, a2, a4, a5⟩
        · rw [if_neg hge]
          refine wpS_bind (hb _ (by omega) _ ?_)
          dsimp only
          cases e : p (lo + (hi - lo) / 2) with
          | true =>
            rw [if_pos rfl]
            exact wpS_pure ⟨rfl, _, hi, rfl, by omega, a2, by omega, fun i hi' => hm i _ (by omega) (by omega) e, a5⟩
          | false =>
            rw [if_neg (by simp)]
            refine wpS_pure ⟨rfl, lo, _, rfl, by omega, by omega, by omega, a4, fun i i1 i2 => ?_⟩
            cases z : p i with
            | false => rfl
            | true => rw [hm _ i i1 i2 z] at e; cases e
      case postB =>
        rintro c st'' ⟨rfl, k, rfl, k1, k2, k3⟩
        exact wpS_pure (h k k1 k2 k3)
end
end Sr

set_option maxHeartbeats 4000000
/-! ### sorts of any size: runs that rise or fall, and what is put in its place one by one -/
namespace Sr
open PySem PyProof.Rows
/-- what is asked of a comparison: it tells the order of ranks -/
structure Cmp (prog : Program) (w : World) (A : Around) (E : Value → Shared → Prop) (s : Shared) (κ : SortKind) (a₀ : Array Keyed) (rk : Keyed → Int) : Prop where
  lt : ∀ {x y : Keyed} {st : SortSt} {Q : Option Bool → SortSt → Prop}, x ∈ a₀.toList → y ∈ a₀.toList → kindOf st = κ → Q (some (decide (rk x < rk y))) st → wpS (model prog w) A E s (lt' x y) Q st
structure SB (κ : SortKind) (a₀ : Array Keyed) (st : SortSt) : Prop where
  perm : (arrOf st).Perm a₀
  kind : kindOf st = κ
  failed : failedOf st = none
theorem SB.size {κ : SortKind} {a₀ : Array Keyed} {st : SortSt} (h : SB κ a₀ st) : (arrOf st).size = a₀.size := h.perm.size_eq
theorem SB.put {κ : SortKind} {a₀ : Array Keyed} {st : SortSt} (h : SB κ a₀ st) {xs : Array Keyed} (hp : xs.Perm (arrOf st)) : SB κ a₀ (setArr st xs) := ⟨hp.trans h.perm, h.kind, h.failed⟩
theorem SB.at {κ : SortKind} {a₀ : Array Keyed} {st : SortSt} (h : SB κ a₀ st) {i : Nat} (hi : i < a₀.size) : ∃ p, (arrOf st)[i]? = some p ∧ p ∈ a₀.toList := by
  have hi' : i < (arrOf st).size := by rw [h.size]; exact hi
  exact ⟨_, getElem?_pos _ i hi', (Array.perm_iff_toList_perm.mp h.perm).mem_iff.mp (by simp)⟩
def R (rk : Keyed → Int) (xs : Array Keyed) (i : Nat) : Int := match xs[i]? with
  | some p => rk p
  | none => 0
def Seg (rk : Keyed → Int) (xs : Array Keyed) (lo hi : Nat) : Prop := ∀ i j, lo ≤ i → i ≤ j → j < hi → R rk xs i ≤ R rk xs j
def Fall (rk : Keyed → Int) (xs : Array Keyed) (lo hi : Nat) : Prop := ∀ i j, lo ≤ i → i ≤ j → j < hi → R rk xs j ≤ R rk xs i
def Like (lo : Nat) (xs ys : Array Keyed) : Prop := ∀ k, k < lo → xs[k]? = ys[k]?
theorem Like.refl {lo : Nat} {xs : Array Keyed} : Like lo xs xs := fun _ _ => rfl
theorem Like.trans {lo : Nat} {xs ys zs : Array Keyed} (h : Like lo xs ys) (k : Like lo ys zs) : Like lo xs zs := fun i hi => (h i hi).trans (k i hi)
theorem R_congr {rk : Keyed → Int} {xs ys : Array Keyed} {i j : Nat} (h : xs[i]? = ys[j]?) : R rk xs i = R rk ys j := by unfold R; rw [h]
theorem R_at {rk : Keyed → Int} {xs : Array Keyed} {i : Nat} {p : Keyed} (h : xs[i]? = some p) : R rk xs i = rk p := by unfold R; rw [h]
theorem R_bubble {rk : Keyed → Int} {xs : Array Keyed} {src d : Nat} (hs : src < xs.size) (hd : d ≤ src) (k : Nat) :
    R rk (bubble xs src d) k = if k = src - d then R rk xs src else if src - d < k ∧ k ≤ src then R rk xs (k - 1) else R rk xs k := by
  have e := getElem?_bubble hs d hd k
  by_cases h1 : k = src - d
  · rw [if_pos h1] at e ⊢; exact R_congr e
  · rw [if_neg h1] at e ⊢
    by_cases h2 : src - d < k ∧ k ≤ src
    · rw [if_pos h2] at e ⊢; exact R_congr e
    · rw [if_neg h2] at e ⊢; exact R_congr e
theorem R_mirror {rk : Keyed → Int} {xs : Array Keyed} {i j : Nat} (hj : j ≤ xs.size) (k : Nat) :
    R rk (mirror xs i j ((j - i) / 2)) k = if i ≤ k ∧ k < j then R rk xs (i + j - 1 - k) else R rk xs k := by
  have e := getElem?_mirror_all (i := i) hj k
  by_cases h1 : i ≤ k ∧ k < j
  · rw [if_pos h1] at e ⊢; exact R_congr e
  · rw [if_neg h1] at e ⊢; exact R_congr e
theorem R_mirror_equal {rk : Keyed → Int} {xs : Array Keyed} {i j : Nat} (hj : j ≤ xs.size) (heq : ∀ k, i ≤ k → k < j → R rk xs k = R rk xs (j - 1)) (k : Nat) :
    R rk (mirror xs i j ((j - i) / 2)) k = R rk xs k := by
  rw [R_mirror hj]
  split
  · rw [heq _ (by omega) (by omega), heq k (by omega) (by omega)]
  · rfl
theorem like_mirror {xs : Array Keyed} {lo i j : Nat} (hj : j ≤ xs.size) (hi : lo ≤ i) : Like lo (mirror xs i j ((j - i) / 2)) xs := fun k hk => by
  rw [getElem?_mirror_all hj, if_neg (by omega)]
theorem like_bubble {xs : Array Keyed} {lo src d : Nat} (hs : src < xs.size) (hd : lo + d ≤ src) : Like lo (bubble xs src d) xs := fun k hk => by
  rw [getElem?_bubble hs d (by omega), if_neg (by omega), if_neg (by omega)]
section
variable {prog : Program} {w : World} {A : Around} {E : Value → Shared → Prop} {s : Shared} {κ : SortKind} {a₀ : Array Keyed} {rk : Keyed → Int}
theorem wpS_elem {st : SortSt} {xs : Array Keyed} {i : Nat} {p : Keyed} {Q : Keyed → SortSt → Prop} (e : xs[i]? = some p) (h : Q p st) : wpS (model prog w) A E s (elem' xs i) Q st := by
  rw [elem'_eq, e]
  exact wpS_pure h
theorem wpS_ask {st : SortSt} {i j : Nat} {Q : Option Bool → SortSt → Prop} (C : Cmp prog w A E s κ a₀ rk) (hB : SB κ a₀ st) (hi : i < a₀.size) (hj : j < a₀.size)
    (h : Q (some (decide (R rk (arrOf st) i < R rk (arrOf st) j))) st) : wpS (model prog w) A E s (ltAt' i j) Q st := by
  obtain ⟨p, e1, m1⟩ := hB.at hi
  obtain ⟨q, e2, m2⟩ := hB.at hj
  rw [ltAt'_eq]
  refine wpS_bind (wpS_get ?_)
  refine wpS_bind (wpS_elem e1 (wpS_bind (wpS_elem e2 ?_)))
  refine C.lt m1 m2 hB.kind ?_
  rw [R_at e1, R_at e2] at h
  exact h
abbrev AS := Option (Option Nat) × Nat
abbrev DS := Option (Option Nat) × Nat × Nat
def ascL (lo a m : Nat) : StateT SortSt Sem AS :=
  forIn [a:m] ((none, a) : AS) fun _ c => do
    let x ← ltAt' (lo + c.2) (lo + c.2 - 1)
    match x with
    | some b => if b = true then pure (ForInStep.done (none, c.2)) else pure (ForInStep.yield (none, c.2 + 1))
    | _ => pure (ForInStep.done (some none, c.2))
def endL (lo n m : Nat) : StateT SortSt Sem (Option Nat) := do
  reverseSlice' lo (lo + n)
  let c ← ascL lo n m
  match c.1 with
  | some r => pure r
  | none => pure (some c.2)
def descL (lo n m : Nat) : StateT SortSt Sem DS :=
  forIn [n:m] ((none, n, 0) : DS) fun _ c => do
    let x ← ltAt' (lo + c.2.1) (lo + c.2.1 - 1)
    match x with
    | some b =>
      if b = true then
        if c.2.2 > 0 then do
          reverseSlice' (lo + c.2.1 - (c.2.2 + 1)) (lo + c.2.1)
          pure (ForInStep.yield (none, c.2.1 + 1, 0))
        else pure (ForInStep.yield (none, c.2.1 + 1, 0))
      else do
        let x ← ltAt' (lo + c.2.1 - 1) (lo + c.2.1)
        match x with
        | some d => if d = true then pure (ForInStep.done (none, c.2.1, c.2.2)) else pure (ForInStep.yield (none, c.2.1 + 1, c.2.2 + 1))
        | _ => pure (ForInStep.done (some none, c.2.1, c.2.2))
    | _ => pure (ForInStep.done (some none, c.2.1, c.2.2))
def fallL (lo n m : Nat) : StateT SortSt Sem (Option Nat) := do
  liftM (rule "list.sort.descending-run")
  let c ← descL lo (n + 1) m
  match c.1 with
  | some r => pure r
  | none =>
    if c.2.2 > 0 then do
      reverseSlice' (lo + c.2.1 - (c.2.2 + 1)) (lo + c.2.1)
      endL lo c.2.1 m
    else endL lo c.2.1 m
theorem countL_eq (lo m : Nat) : countRun' lo m = (do
    let c ← ascL lo 1 m
    match c.1 with
    | some r => pure r
    | none =>
      if (c.2 == m) = true then pure (some c.2)
      else if c.2 > 1 then do
        let x ← ltAt' lo (lo + c.2 - 1)
        match x with
        | some b => if b = true then pure (some c.2) else do
            reverseSlice' lo (lo + c.2)
            fallL lo c.2 m
        | _ => pure none
      else fallL lo c.2 m) := by
  rw [countRun'_eq]
  unfold fallL endL descL ascL
  dsimp only
  congr 1
  funext c
  obtain ⟨r, n⟩ := c
  cases r with
  | some r => rfl
  | none =>
    dsimp only
    split
    · rfl
    · split
      · congr 1
        funext x
        cases x with
        | none => rfl
        | some b =>
          dsimp only
          split
          · rfl
          · congr 1
            funext _r
            congr 1
            funext _u
            congr 1
            congr 1
            funext s2
            obtain ⟨r2, n2, q2⟩ := s2
            cases r2 with
            | some r2 => rfl
            | none =>
              dsimp only
              split
              · congr 1
                funext _v
                congr 1
                funext _w
                congr 1
                funext s3
                obtain ⟨r3, n3⟩ := s3
                cases r3 <;> rfl
              · congr 1
                funext _w
                congr 1
                funext s3
                obtain ⟨r3, n3⟩ := s3
                cases r3 <;> rfl
      · congr 1
        funext _u
        congr 1
        congr 1
        funext s2
        obtain ⟨r2, n2, q2⟩ := s2
        cases r2 with
        | some r2 => rfl
        | none =>
          dsimp only
          split
          · congr 1
            funext _v
            congr 1
            funext _w
            congr 1
            funext s3
            obtain ⟨r3, n3⟩ := s3
            cases r3 <;> rfl
          · congr 1
            funext _w
            congr 1
            funext s3
            obtain ⟨r3, n3⟩ := s3
            cases r3 <;> rfl
/-- what the steps of a run keep -/
structure Keep (κ : SortKind) (a₀ : Array Keyed) (lo : Nat) (st₀ st : SortSt) : Prop extends SB κ a₀ st where
  like : Like lo (arrOf st) (arrOf st₀)
  pend : pendingOf st = pendingOf st₀
theorem Keep.put {lo : Nat} {st₀ st : SortSt} (h : Keep κ a₀ lo st₀ st) {xs : Array Keyed} (hp : xs.Perm (arrOf st)) (hl : Like lo xs (arrOf st)) : Keep κ a₀ lo st₀ (setArr st xs) :=
  ⟨h.toSB.put hp, hl.trans h.like, h.pend⟩
variable {st₀ : SortSt} {lo : Nat}
theorem wpS_ascL {st : SortSt} {a m : Nat} {Q : AS → SortSt → Prop} (C : Cmp prog w A E s κ a₀ rk) (hn : lo + m ≤ a₀.size) (ha : 1 ≤ a) (han : a ≤ m) (hB : SB κ a₀ st)
    (hs : Seg rk (arrOf st) lo (lo + a))
    (h : ∀ n, a ≤ n → n ≤ m → Seg rk (arrOf st) lo (lo + n) → (n = m ∨ R rk (arrOf st) (lo + n) < R rk (arrOf st) (lo + n - 1)) → Q (none, n) st) :
    wpS (model prog w) A E s (ascL lo a m) Q st := by
  unfold ascL
  refine wpS_forRange (I := fun x c st' => st' = st ∧ c = (none, x) ∧ Seg rk (arrOf st) lo (lo + x)) ?step ?fin ⟨rfl, rfl, hs⟩
  case fin =>
    rintro c st' ⟨rfl, rfl, hs'⟩
    rw [show max a m = m by omega] at hs' ⊢
    exact h m han (Nat.le_refl _) hs' (.inl rfl)
  case step =>
    rintro x c st' hax hxn ⟨rfl, rfl, hs'⟩
    dsimp only
    refine wpS_bind (wpS_ask C hB (by omega) (by omega) ?_)
    by_cases hless : R rk (arrOf st') (lo + x) < R rk (arrOf st') (lo + x - 1)
    · simp only [hless, decide_true, if_true]
      exact wpS_pure (h x hax (by omega) hs' (.inr hless))
    · simp only [hless, decide_false, Bool.false_eq_true, if_false]
      refine wpS_pure ⟨rfl, rfl, fun i j hl hij hj => ?_⟩
      by_cases hjx : j < lo + x
      · exact hs' i j hl hij hjx
      · have hj' : j = lo + x := by omega
        subst hj'
        by_cases hi' : i = lo + x
        · subst hi'; exact Int.le_refl _
        · exact Int.le_trans (hs' i (lo + x - 1) hl (by omega) (by omega)) (Int.not_lt.mp hless)
theorem wpS_endL {st : SortSt} {n m : Nat} {Q : Option Nat → SortSt → Prop} (C : Cmp prog w A E s κ a₀ rk) (hn : lo + m ≤ a₀.size) (h1 : 1 ≤ n) (hnn : n ≤ m) (hB : Keep κ a₀ lo st₀ st)
    (hs : Fall rk (arrOf st) lo (lo + n)) (h : ∀ k st', Keep κ a₀ lo st₀ st' → 1 ≤ k → k ≤ m → Seg rk (arrOf st') lo (lo + k) → Q (some k) st') :
    wpS (model prog w) A E s (endL lo n m) Q st := by
  unfold endL
  have hsz : lo + n ≤ (arrOf st).size := by rw [hB.size]; omega
  refine wpS_bind (wpS_reverse ?_)
  have hB' : Keep κ a₀ lo st₀ (setArr st (mirror (arrOf st) lo (lo + n) ((lo + n - lo) / 2))) := hB.put (mirror_perm _ _ _ _) (like_mirror hsz (Nat.le_refl _))
  refine wpS_bind (wpS_ascL C hn h1 hnn hB'.toSB ?_ fun k hm1 hm2 hsm _ => wpS_pure (h k _ hB' (by omega) hm2 hsm))
  intro i j hl hij hj
  show R rk (mirror (arrOf st) lo (lo + n) ((lo + n - lo) / 2)) i ≤ R rk (mirror (arrOf st) lo (lo + n) ((lo + n - lo) / 2)) j
  rw [R_mirror hsz, R_mirror hsz, if_pos (by omega), if_pos (by omega)]
  exact hs _ _ (by omega) (by omega) (by omega)
theorem wpS_descL {st : SortSt} {n m : Nat} {Q : DS → SortSt → Prop} (C : Cmp prog w A E s κ a₀ rk) (hn : lo + m ≤ a₀.size) (h1 : 1 ≤ n) (hnn : n ≤ m) (hB : Keep κ a₀ lo st₀ st)
    (hs : Fall rk (arrOf st) lo (lo + n))
    (h : ∀ k q st', Keep κ a₀ lo st₀ st' → n ≤ k → k ≤ m → Fall rk (arrOf st') lo (lo + k) → q + 1 ≤ k → (∀ i, lo + k - (q + 1) ≤ i → i < lo + k → R rk (arrOf st') i = R rk (arrOf st') (lo + k - 1)) → Q (none, k, q) st') :
    wpS (model prog w) A E s (descL lo n m) Q st := by
  unfold descL
  refine wpS_forRange (I := fun x c st' => ∃ q, c = (none, x, q) ∧ Keep κ a₀ lo st₀ st' ∧ Fall rk (arrOf st') lo (lo + x) ∧ q + 1 ≤ x ∧
      (∀ i, lo + x - (q + 1) ≤ i → i < lo + x → R rk (arrOf st') i = R rk (arrOf st') (lo + x - 1))) ?step ?fin ⟨0, rfl, hB, hs, by omega, fun i h1 h2 => by congr 1; omega⟩
  case fin =>
    rintro c st' ⟨q, rfl, hB', hs', hq, he⟩
    rw [show max n m = m by omega] at hs' hq he ⊢
    exact h m q st' hB' hnn (Nat.le_refl _) hs' hq he
  case step =>
    rintro x c st' hax hxn ⟨q, rfl, hB', hs', hq, he⟩
    dsimp only
    have hsz : lo + x ≤ (arrOf st').size := by rw [hB'.size]; omega
    refine wpS_bind (wpS_ask C hB'.toSB (by omega) (by omega) ?_)
    by_cases hless : R rk (arrOf st') (lo + x) < R rk (arrOf st') (lo + x - 1)
    · simp only [hless, decide_true, if_true]
      have step1 : ∀ xs : Array Keyed, (∀ k, R rk xs k = R rk (arrOf st') k) → Fall rk xs lo (lo + (x + 1)) := by
        intro xs hk i j hl hij hj
        rw [hk, hk]
        by_cases hjx : j < lo + x
        · exact hs' i j hl hij hjx
        · have hj' : j = lo + x := by omega
          subst hj'
          by_cases hi' : i = lo + x
          · subst hi'; exact Int.le_refl _
          · exact Int.le_trans (Int.le_of_lt hless) (hs' i (lo + x - 1) hl (by omega) (by omega))
      by_cases hneq : q > 0
      · rw [if_pos hneq]
        refine wpS_bind (wpS_reverse (wpS_pure ⟨0, rfl, hB'.put (mirror_perm _ _ _ _) (like_mirror hsz (by omega)), step1 _ (R_mirror_equal hsz he), by omega, fun i h1 h2 => by congr 1; omega⟩))
      · rw [if_neg hneq]
        exact wpS_pure ⟨0, rfl, hB', step1 _ (fun _ => rfl), by omega, fun i h1 h2 => by congr 1; omega⟩
    · simp only [hless, decide_false, Bool.false_eq_true, if_false]
      refine wpS_bind (wpS_ask C hB'.toSB (by omega) (by omega) ?_)
      by_cases hlarger : R rk (arrOf st') (lo + x - 1) < R rk (arrOf st') (lo + x)
      · simp only [hlarger, decide_true, if_true]
        exact wpS_pure (h x q st' hB' hax (by omega) hs' hq he)
      · simp only [hlarger, decide_false, Bool.false_eq_true, if_false]
        have heqx : R rk (arrOf st') (lo + x) = R rk (arrOf st') (lo + x - 1) := by omega
        refine wpS_pure ⟨q + 1, rfl, hB', fun i j hl hij hj => ?_, by omega, fun i h1 h2 => ?_⟩
        · by_cases hjx : j < lo + x
          · exact hs' i j hl hij hjx
          · have hj' : j = lo + x := by omega
            subst hj'
            by_cases hi' : i = lo + x
            · subst hi'; exact Int.le_refl _
            · rw [heqx]; exact hs' i (lo + x - 1) hl (by omega) (by omega)
        · rw [show lo + (x + 1) - 1 = lo + x by omega]
          by_cases hix : i = lo + x
          · subst hix; rfl
          · rw [heqx]; exact he i (by omega) (by omega)
theorem wpS_fallL {st : SortSt} {n m : Nat} {Q : Option Nat → SortSt → Prop} (C : Cmp prog w A E s κ a₀ rk) (hn : lo + m ≤ a₀.size) (hnn : n + 1 ≤ m) (hB : Keep κ a₀ lo st₀ st)
    (hs : Fall rk (arrOf st) lo (lo + (n + 1))) (h : ∀ k st', Keep κ a₀ lo st₀ st' → 1 ≤ k → k ≤ m → Seg rk (arrOf st') lo (lo + k) → Q (some k) st') :
    wpS (model prog w) A E s (fallL lo n m) Q st := by
  unfold fallL
  refine wpS_bind (wpS_lift (wpAny_rule ⟨rfl, ?_⟩))
  refine wpS_bind (wpS_descL C hn (by omega) hnn hB hs fun k q st' hB' hm1 hm2 hs' hq he => ?_)
  dsimp only
  have hsz : lo + k ≤ (arrOf st').size := by rw [hB'.size]; omega
  by_cases hneq : q > 0
  · rw [if_pos hneq]
    refine wpS_bind (wpS_reverse (wpS_endL C hn (by omega) hm2 (hB'.put (mirror_perm _ _ _ _) (like_mirror hsz (by omega))) ?_ h))
    intro i j hl hij hj
    show R rk (mirror (arrOf st') _ _ _) j ≤ R rk (mirror (arrOf st') _ _ _) i
    rw [R_mirror_equal hsz he, R_mirror_equal hsz he]
    exact hs' i j hl hij hj
  · rw [if_neg hneq]
    exact wpS_endL C hn (by omega) hm2 hB' hs' h
theorem wpS_count {st : SortSt} {m : Nat} {Q : Option Nat → SortSt → Prop} (C : Cmp prog w A E s κ a₀ rk) (hn : lo + m ≤ a₀.size) (h1 : 1 ≤ m) (hB : Keep κ a₀ lo st₀ st)
    (h : ∀ k st', Keep κ a₀ lo st₀ st' → 1 ≤ k → k ≤ m → Seg rk (arrOf st') lo (lo + k) → Q (some k) st') :
    wpS (model prog w) A E s (countRun' lo m) Q st := by
  rw [countL_eq]
  refine wpS_bind (wpS_ascL C hn (Nat.le_refl 1) h1 hB.toSB (fun i j hl hij hj => by
    have : i = j := by omega
    subst this; exact Int.le_refl _) fun n hn1 hn2 hsn hor => ?_)
  dsimp only
  by_cases hnn : n = m
  · rw [if_pos (by simpa using hnn)]
    exact wpS_pure (h n st hB hn1 hn2 hsn)
  · rw [if_neg (by simpa using hnn)]
    have hlt : R rk (arrOf st) (lo + n) < R rk (arrOf st) (lo + n - 1) := hor.resolve_left hnn
    by_cases hgt : n > 1
    · rw [if_pos hgt]
      refine wpS_bind (wpS_ask C hB.toSB (by omega) (by omega) ?_)
      by_cases hrose : R rk (arrOf st) lo < R rk (arrOf st) (lo + n - 1)
      · simp only [hrose, decide_true, if_true]
        exact wpS_pure (h n st hB hn1 hn2 hsn)
      · simp only [hrose, decide_false, Bool.false_eq_true, if_false]
        have hsz : lo + n ≤ (arrOf st).size := by rw [hB.size]; omega
        have hall : ∀ k, lo ≤ k → k < lo + n → R rk (arrOf st) k = R rk (arrOf st) (lo + n - 1) := by
          intro k hl hk
          have a1 := hsn lo k (by omega) hl hk
          have a2 := hsn k (lo + n - 1) hl (by omega) (by omega)
          omega
        refine wpS_bind (wpS_reverse (wpS_fallL C hn (by omega) (hB.put (mirror_perm _ _ _ _) (like_mirror hsz (Nat.le_refl _))) ?_ h))
        intro i j hl hij hj
        show R rk (mirror (arrOf st) _ _ _) j ≤ R rk (mirror (arrOf st) _ _ _) i
        rw [R_mirror_equal hsz hall, R_mirror_equal hsz hall]
        by_cases hjn : j < lo + n
        · rw [hall i hl (by omega), hall j (by omega) hjn]; exact Int.le_refl _
        · have hj' : j = lo + n := by omega
          subst hj'
          by_cases hi' : i = lo + n
          · subst hi'; exact Int.le_refl _
          · rw [hall i hl (by omega)]; exact Int.le_of_lt hlt
    · rw [if_neg hgt]
      have hn1' : n = 1 := by omega
      subst hn1'
      refine wpS_fallL C hn (by omega) hB ?_ h
      intro i j hl hij hj
      by_cases hi' : i = j
      · subst hi'; exact Int.le_refl _
      · have hi0 : i = lo := by omega
        have hj1 : j = lo + 1 := by omega
        subst hi0; subst hj1
        exact Int.le_of_lt hlt
theorem wpS_insert {st : SortSt} {n ok : Nat} {Q : Bool → SortSt → Prop} (C : Cmp prog w A E s κ a₀ rk) (hn : lo + n ≤ a₀.size) (hok : ok ≤ n) (hB : Keep κ a₀ lo st₀ st) (hs : Seg rk (arrOf st) lo (lo + ok))
    (h : ∀ st', Keep κ a₀ lo st₀ st' → Seg rk (arrOf st') lo (lo + n) → Q true st') : wpS (model prog w) A E s (binarySort' lo n ok) Q st := by
  rw [binarySort'_eq]
  refine wpS_bind (wpS_mono (wpS_forRange (I := fun k c st' => c = (none, ()) ∧ Keep κ a₀ lo st₀ st' ∧ Seg rk (arrOf st') lo (lo + min k n))
    (Q := fun c st' => c = (none, ()) ∧ Keep κ a₀ lo st₀ st' ∧ Seg rk (arrOf st') lo (lo + n)) ?step ?fin ?init) ?post)
  case post =>
    rintro c st' ⟨rfl, hB', hs'⟩
    exact wpS_pure (h st' hB' hs')
  case init =>
    refine ⟨rfl, hB, fun i j hl hij hj => ?_⟩
    by_cases h1 : ok = 0
    · have : i = j := by omega
      subst this; exact Int.le_refl _
    · exact hs i j hl hij (by omega)
  case fin =>
    rintro c st' ⟨hc, hB', hs'⟩
    refine ⟨hc, hB', ?_⟩
    rwa [show min (max (max ok 1) n) n = n by omega] at hs'
  case step =>
    rintro k c st' hak hkn ⟨rfl, hB', hs'⟩
    rw [show min k n = k by omega] at hs'
    have hk : lo + k < a₀.size := by omega
    refine wpS_bind (wpS_mono (wpS_forRange (I := fun x c st'' => st'' = st' ∧ ∃ l r, c = (none, l, r) ∧ l ≤ r ∧ r ≤ k ∧ r - l ≤ k - x ∧
        (∀ i, lo ≤ i → i < lo + l → R rk (arrOf st') i ≤ R rk (arrOf st') (lo + k)) ∧ (∀ i, lo + r ≤ i → i < lo + k → R rk (arrOf st') (lo + k) < R rk (arrOf st') i))
      (Q := fun c st'' => st'' = st' ∧ ∃ l r, c = (none, l, r) ∧ l ≤ k ∧
        (∀ i, lo ≤ i → i < lo + l → R rk (arrOf st') i ≤ R rk (arrOf st') (lo + k)) ∧ (∀ i, lo + l ≤ i → i < lo + k → R rk (arrOf st') (lo + k) < R rk (arrOf st') i)) ?istep ?ifin ?iinit) ?ipost)
    case iinit => exact ⟨rfl, 0, k, rfl, by omega, by omega, by omega, fun i _ hi => by omega, fun i h1 h2 => by omega⟩
    case ifin =>
      rintro c st'' ⟨rfl, l, r, rfl, hlr, hrk, hm, hlo, hhi⟩
      have : l = r := by omega
      subst this
      exact ⟨rfl, l, l, rfl, hrk, hlo, hhi⟩
    case istep =>
      rintro x c st'' _ hxk ⟨rfl, l, r, rfl, hlr, hrk, hm, hlo, hhi⟩
      dsimp only
      by_cases hge : l ≥ r
      · rw [if_pos hge]
        have : l = r := by omega
        subst this
        exact wpS_pure ⟨rfl, l, l, rfl, hrk, hlo, hhi⟩
      · rw [if_neg hge]
        refine wpS_bind (wpS_ask C hB'.toSB hk (by omega) ?_)
        by_cases hless : R rk (arrOf st'') (lo + k) < R rk (arrOf st'') (lo + (l + r) / 2)
        · simp only [hless, decide_true, if_true]
          refine wpS_pure ⟨rfl, l, (l + r) / 2, rfl, by omega, by omega, by omega, hlo, fun i h1 h2 => ?_⟩
          exact Int.lt_of_lt_of_le hless (hs' _ _ (by omega) h1 h2)
        · simp only [hless, decide_false, Bool.false_eq_true, if_false]
          refine wpS_pure ⟨rfl, (l + r) / 2 + 1, r, rfl, by omega, by omega, by omega, fun i h0 h1 => ?_, hhi⟩
          exact Int.le_trans (hs' i (lo + (l + r) / 2) h0 (by omega) (by omega)) (Int.not_lt.mp hless)
    case ipost =>
      rintro c st'' ⟨rfl, l, r, rfl, hlk, hlo, hhi⟩
      show wpS _ _ _ _ (do moveDown' (lo + k) (lo + l); pure (ForInStep.yield (none, ()))) _ _
      have hks : lo + k < (arrOf st'').size := by rw [hB'.size]; exact hk
      rw [moveDown'_eq]
      refine wpS_bind (wpS_modify (wpS_pure ⟨rfl, hB'.put (bubble_perm _ _ _) (like_bubble hks (by omega)), ?_⟩))
      rw [show min (k + 1) n = k + 1 by omega]
      intro i j hl hij hj
      show R rk (bubble (arrOf st'') (lo + k) (lo + k - (lo + l))) i ≤ R rk (bubble (arrOf st'') (lo + k) (lo + k - (lo + l))) j
      rw [R_bubble hks (by omega), R_bubble hks (by omega), show lo + k - (lo + k - (lo + l)) = lo + l by omega]
      repeat' split
      all_goals first
        | (exfalso; omega)
        | exact Int.le_refl _
        | exact hlo _ (by omega) (by omega)
        | exact Int.le_of_lt (hhi _ (by omega) (by omega))
        | exact hs' _ _ (by omega) (by omega) (by omega)
end
end Sr

set_option maxHeartbeats 4000000
/-! ### sorts of any size: two runs made one, from below -/
namespace Sr
open PySem PyProof.Rows
theorem ext_all {α : Type} {a : Array α} {i : Nat} : (a.extract i a.size).toList = a.toList.drop i := by
  rw [Array.toList_extract, List.extract_eq_take_drop, List.take_of_length_le]
  rw [List.length_drop]; simp
theorem ext_part {α : Type} {a : Array α} {i k : Nat} : (a.extract i (i + k)).toList = (a.toList.drop i).take k := by
  rw [Array.toList_extract, List.extract_eq_take_drop]
  congr 1; omega
def Srt (rk : Keyed → Int) (l : List Keyed) : Prop := l.Pairwise fun x y => rk x ≤ rk y
/-- between two steps of a merging from below -/
structure Mg (rk : Keyed → Int) (a b : List Keyed) (o : List Keyed) (i j : Nat) : Prop where
  perm : (o ++ (a.drop i ++ b.drop j)).Perm (a ++ b)
  srt : Srt rk o
  la : ∀ x ∈ o, ∀ y ∈ a.drop i, rk x ≤ rk y
  lb : ∀ x ∈ o, ∀ y ∈ b.drop j, rk x ≤ rk y
theorem Mg.len {rk : Keyed → Int} {a b o : List Keyed} {i j : Nat} (h : Mg rk a b o i j) : o.length + ((a.length - i) + (b.length - j)) = a.length + b.length := by
  have := h.perm.length_eq
  simpa using this
theorem Srt.app {rk : Keyed → Int} {x y : List Keyed} (h : Srt rk x) (k : Srt rk y) (l : ∀ u ∈ x, ∀ v ∈ y, rk u ≤ rk v) : Srt rk (x ++ y) :=
  List.pairwise_append.mpr ⟨h, k, l⟩
theorem Srt.drop {rk : Keyed → Int} {x : List Keyed} {i : Nat} (h : Srt rk x) : Srt rk (x.drop i) := h.sublist (List.drop_sublist _ _)
theorem Srt.take {rk : Keyed → Int} {x : List Keyed} {i : Nat} (h : Srt rk x) : Srt rk (x.take i) := h.sublist (List.take_sublist _ _)
/-- some of a's are next -/
theorem Mg.takeA {rk : Keyed → Int} {a b o : List Keyed} {i j k : Nat} (h : Mg rk a b o i j) (ha : Srt rk a) (hk : ∀ x ∈ (a.drop i).take k, ∀ y ∈ b.drop j, rk x ≤ rk y) : Mg rk a b (o ++ (a.drop i).take k) (i + k) j := by
  have e : a.drop i = (a.drop i).take k ++ a.drop (i + k) := by
    rw [← List.drop_drop]; exact (List.take_append_drop k _).symm
  have hs : Srt rk ((a.drop i).take k ++ a.drop (i + k)) := e ▸ ha.drop
  have m1 : ∀ x ∈ (a.drop i).take k, x ∈ a.drop i := fun x hx => List.mem_of_mem_take hx
  have m2 : ∀ x ∈ a.drop (i + k), x ∈ a.drop i := fun x hx => by rw [e]; exact List.mem_append_right _ hx
  refine ⟨?_, h.srt.app ha.drop.take fun u hu v hv => h.la u hu v (m1 v hv), fun x hx y hy => ?_, fun x hx y hy => ?_⟩
  · refine List.Perm.trans (List.Perm.of_eq ?_) h.perm
    conv => rhs; rw [e]
    simp [List.append_assoc]
  · rcases List.mem_append.mp hx with hx | hx
    · exact h.la x hx y (m2 y hy)
    · exact (List.pairwise_append.mp hs).2.2 x hx y hy
  · rcases List.mem_append.mp hx with hx | hx
    · exact h.lb x hx y hy
    · exact hk x hx y hy
theorem Mg.takeB {rk : Keyed → Int} {a b o : List Keyed} {i j k : Nat} (h : Mg rk a b o i j) (hb : Srt rk b) (hk : ∀ x ∈ (b.drop j).take k, ∀ y ∈ a.drop i, rk x ≤ rk y) : Mg rk a b (o ++ (b.drop j).take k) i (j + k) := by
  have e : b.drop j = (b.drop j).take k ++ b.drop (j + k) := by
    rw [← List.drop_drop]; exact (List.take_append_drop k _).symm
  have hs : Srt rk ((b.drop j).take k ++ b.drop (j + k)) := e ▸ hb.drop
  have m1 : ∀ x ∈ (b.drop j).take k, x ∈ b.drop j := fun x hx => List.mem_of_mem_take hx
  have m2 : ∀ x ∈ b.drop (j + k), x ∈ b.drop j := fun x hx => by rw [e]; exact List.mem_append_right _ hx
  refine ⟨?_, h.srt.app hb.drop.take fun u hu v hv => h.lb u hu v (m1 v hv), fun x hx y hy => ?_, fun x hx y hy => ?_⟩
  · refine List.Perm.trans ?_ h.perm
    conv => rhs; rw [e]
    have : (a.drop i ++ ((b.drop j).take k ++ b.drop (j + k))).Perm ((b.drop j).take k ++ (a.drop i ++ b.drop (j + k))) := by
      rw [← List.append_assoc, ← List.append_assoc]
      exact List.perm_append_comm.append_right _
    rw [List.append_assoc]
    exact (this.symm).append_left _
  · rcases List.mem_append.mp hx with hx | hx
    · exact h.la x hx y hy
    · exact hk x hx y hy
  · rcases List.mem_append.mp hx with hx | hx
    · exact h.lb x hx y (m2 y hy)
    · exact (List.pairwise_append.mp hs).2.2 x hx y hy
theorem take_one {α : Type} {l : List α} {i : Nat} {x : α} (h : l[i]? = some x) : (l.drop i).take 1 = [x] := by
  have hi : i < l.length := by
    rcases Nat.lt_or_ge i l.length with z | z
    · exact z
    · rw [List.getElem?_eq_none z] at h; cases h
  rw [List.drop_eq_getElem_cons hi]
  rw [List.getElem?_eq_getElem hi] at h
  cases h
  rfl
theorem Mg.pushA {rk : Keyed → Int} {a b o : List Keyed} {i j : Nat} {x : Keyed} (h : Mg rk a b o i j) (ha : Srt rk a) (e : a[i]? = some x) (hk : ∀ y ∈ b.drop j, rk x ≤ rk y) : Mg rk a b (o ++ [x]) (i + 1) j := by
  have := h.takeA (k := 1) ha (by rw [take_one e]; intro u hu; cases List.mem_singleton.mp hu; exact hk)
  rwa [take_one e] at this
theorem Mg.pushB {rk : Keyed → Int} {a b o : List Keyed} {i j : Nat} {x : Keyed} (h : Mg rk a b o i j) (hb : Srt rk b) (e : b[j]? = some x) (hk : ∀ y ∈ a.drop i, rk x ≤ rk y) : Mg rk a b (o ++ [x]) i (j + 1) := by
  have := h.takeB (k := 1) hb (by rw [take_one e]; intro u hu; cases List.mem_singleton.mp hu; exact hk)
  rwa [take_one e] at this
/-- what a merging tells -/
def Whole (rk : Keyed → Int) (a b : List Keyed) (r : Array Keyed) : Prop := r.toList.Perm (a ++ b) ∧ Srt rk r.toList
theorem Mg.doneB {rk : Keyed → Int} {a b : Array Keyed} {o : Array Keyed} {i j : Nat} (h : Mg rk a.toList b.toList o.toList i j) (ha : Srt rk a.toList) (e : b.size ≤ j) : Whole rk a.toList b.toList (o ++ a.extract i a.size ++ b.extract j b.size) := by
  have z : b.toList.drop j = [] := List.drop_eq_nil_of_le (by simpa using e)
  have eq : (o ++ a.extract i a.size ++ b.extract j b.size).toList = o.toList ++ a.toList.drop i := by
    rw [Array.toList_append, Array.toList_append, ext_all, ext_all, z, List.append_nil]
  refine ⟨?_, ?_⟩
  · rw [eq]
    have := h.perm
    rwa [z, List.append_nil] at this
  · rw [eq]; exact h.srt.app ha.drop h.la
theorem Mg.doneA {rk : Keyed → Int} {a b : Array Keyed} {o : Array Keyed} {i j : Nat} (h : Mg rk a.toList b.toList o.toList i j) (hb : Srt rk b.toList) (e : a.size ≤ i) : Whole rk a.toList b.toList (o ++ a.extract i a.size ++ b.extract j b.size) := by
  have z : a.toList.drop i = [] := List.drop_eq_nil_of_le (by simpa using e)
  have eq : (o ++ a.extract i a.size ++ b.extract j b.size).toList = o.toList ++ b.toList.drop j := by
    rw [Array.toList_append, Array.toList_append, ext_all, ext_all, z, List.append_nil]
  refine ⟨?_, ?_⟩
  · rw [eq]
    have := h.perm
    rwa [z, List.nil_append] at this
  · rw [eq]; exact h.srt.app hb.drop h.lb
theorem Mg.lastA {rk : Keyed → Int} {a b : Array Keyed} {o : Array Keyed} {i j : Nat} (h : Mg rk a.toList b.toList o.toList i j) (ha : Srt rk a.toList) (hb : Srt rk b.toList) (e : i + 1 = a.size) (hl : ∀ y ∈ b.toList, ∀ x, a.toList[a.size - 1]? = some x → rk y ≤ rk x) : Whole rk a.toList b.toList (o ++ b.extract j b.size ++ a.extract i a.size) := by
  have eq : (o ++ b.extract j b.size ++ a.extract i a.size).toList = o.toList ++ (b.toList.drop j ++ a.toList.drop i) := by
    rw [Array.toList_append, Array.toList_append, ext_all, ext_all, List.append_assoc]
  refine ⟨?_, ?_⟩
  · rw [eq]
    exact (List.perm_append_comm.append_left _).trans h.perm
  · rw [eq]
    refine h.srt.app (hb.drop.app ha.drop fun u hu v hv => ?_) fun u hu v hv => ?_
    · have hi : i < a.toList.length := by simp; omega
      have e1 : a.toList.drop i = [a.toList[i]] := by
        rw [List.drop_eq_getElem_cons hi, List.drop_eq_nil_of_le (by simp; omega)]
      rw [e1] at hv
      cases List.mem_singleton.mp hv
      refine hl u (List.mem_of_mem_drop hu) _ ?_
      rw [show a.size - 1 = i by omega, List.getElem?_eq_getElem hi]
    · rcases List.mem_append.mp hv with hv | hv
      · exact h.lb u hu v hv
      · exact h.la u hu v hv
/-- the state, but for its leap -/
structure Sg (st₀ st : SortSt) : Prop where
  kind : kindOf st = kindOf st₀
  arr : arrOf st = arrOf st₀
  pend : pendingOf st = pendingOf st₀
  failed : failedOf st = failedOf st₀
theorem Sg.refl {st : SortSt} : Sg st st := ⟨rfl, rfl, rfl, rfl⟩
def leapP : Nat → StateT SortSt Sem Unit := sortPriv% PySem.Builtin.setMinGallop
theorem leapP_eq (g : Nat) : leapP g = modify fun t => SortSt.mk' (kindOf t) (arrOf t) (pendingOf t) g (failedOf t) := rfl
section
variable {prog : Program} {w : World} {A : Around} {E : Value → Shared → Prop} {s : Shared} {κ : SortKind} {a₀ : Array Keyed} {rk : Keyed → Int}
theorem wpS_leap {st st₀ : SortSt} {g : Nat} {Q : Unit → SortSt → Prop} (hS : Sg st₀ st) (h : ∀ st', Sg st₀ st' → Q () st') : wpS (model prog w) A E s (leapP g) Q st := by
  rw [leapP_eq]
  exact wpS_modify (h _ ⟨hS.kind, hS.arr, hS.pend, hS.failed⟩)
/-- a leap to the right end of what is not above a key -/
theorem wpS_galR {st : SortSt} {key : Keyed} {arr : Array Keyed} {base n hint : Nat} {Q : Option Nat → SortSt → Prop} (C : Cmp prog w A E s κ a₀ rk) (hκ : kindOf st = κ) (hk : key ∈ a₀.toList) (hm : ∀ x ∈ arr.toList, x ∈ a₀.toList)
    (hs : Srt rk ((arr.toList.drop base).take n)) (hn : base + n ≤ arr.size) (hh : hint < n)
    (h : ∀ k, k ≤ n → (∀ x ∈ (arr.toList.drop base).take k, rk x ≤ rk key) → (∀ i x, k ≤ i → i < n → arr.toList[base + i]? = some x → rk key < rk x) → Q (some k) st) :
    wpS (model prog w) A E s (gallopP false key arr base n hint) Q st := by
  have get : ∀ i, i < n → ∃ x, arr[base + i]? = some x ∧ x ∈ a₀.toList ∧ ((arr.toList.drop base).take n)[i]? = some x := fun i hi => by
    have z : base + i < arr.size := by omega
    refine ⟨arr[base + i], Array.getElem?_eq_getElem z, hm _ (by simp), ?_⟩
    rw [List.getElem?_take_of_lt hi, List.getElem?_drop]
    simp [z]
  refine wpS_gallop (p := fun i => !decide (rk key < R rk arr (base + i))) (fun i hi Q h => ?_) (fun i j hij hj e => ?_) hh fun k k1 k2 k3 => h k k1 (fun x hx => ?_) fun i x i1 i2 e => ?_
  · obtain ⟨x, e, m, _⟩ := get i hi
    unfold askP
    refine wpS_bind (wpS_elem e ?_)
    rw [if_neg (by simp)]
    refine wpS_bind (C.lt hk m hκ (wpS_pure ?_))
    rw [R_at e] at h
    exact h
  · obtain ⟨x, e1, _, f1⟩ := get i (by omega)
    obtain ⟨y, e2, _, f2⟩ := get j hj
    try dsimp only at e ⊢
    rw [R_at e2] at e
    rw [R_at e1]
    simp only [Bool.not_eq_true', decide_eq_false_iff_not, Int.not_lt] at e ⊢
    rcases Nat.eq_or_lt_of_le hij with z | z
    · subst z; rw [e1] at e2; cases e2; exact e
    · refine Int.le_trans ?_ e
      obtain ⟨l1, g1⟩ := List.getElem?_eq_some_iff.mp f1
      obtain ⟨l2, g2⟩ := List.getElem?_eq_some_iff.mp f2
      rw [← g1, ← g2]
      exact List.pairwise_iff_getElem.mp hs i j l1 l2 z
  · obtain ⟨i, hi, rfl⟩ := List.getElem_of_mem hx
    have hi' : i < k := by
      have := hi; simp at this; omega
    obtain ⟨y, e2, _, _⟩ := get i (by omega)
    have := k2 i hi'
    try dsimp only at this
    rw [R_at e2] at this
    simp only [Bool.not_eq_true', decide_eq_false_iff_not, Int.not_lt] at this
    have e3 : ((arr.toList.drop base).take k)[i]? = some y := by
      rw [List.getElem?_take_of_lt hi', List.getElem?_drop]
      simpa using e2
    rw [List.getElem?_eq_getElem hi] at e3
    cases e3
    exact this
  · have := k3 i i1 i2
    try dsimp only at this
    rw [R_at (show arr[base + i]? = some x by simpa using e)] at this
    simpa using this
/-- .. of what is below it -/
theorem wpS_galL {st : SortSt} {key : Keyed} {arr : Array Keyed} {base n hint : Nat} {Q : Option Nat → SortSt → Prop} (C : Cmp prog w A E s κ a₀ rk) (hκ : kindOf st = κ) (hk : key ∈ a₀.toList) (hm : ∀ x ∈ arr.toList, x ∈ a₀.toList)
    (hs : Srt rk ((arr.toList.drop base).take n)) (hn : base + n ≤ arr.size) (hh : hint < n)
    (h : ∀ k, k ≤ n → (∀ x ∈ (arr.toList.drop base).take k, rk x < rk key) → (∀ i x, k ≤ i → i < n → arr.toList[base + i]? = some x → rk key ≤ rk x) → Q (some k) st) :
    wpS (model prog w) A E s (gallopP true key arr base n hint) Q st := by
  have get : ∀ i, i < n → ∃ x, arr[base + i]? = some x ∧ x ∈ a₀.toList ∧ ((arr.toList.drop base).take n)[i]? = some x := fun i hi => by
    have z : base + i < arr.size := by omega
    refine ⟨arr[base + i], Array.getElem?_eq_getElem z, hm _ (by simp), ?_⟩
    rw [List.getElem?_take_of_lt hi, List.getElem?_drop]
    simp [z]
  refine wpS_gallop (p := fun i => decide (R rk arr (base + i) < rk key)) (fun i hi Q h => ?_) (fun i j hij hj e => ?_) hh fun k k1 k2 k3 => h k k1 (fun x hx => ?_) fun i x i1 i2 e => ?_
  · obtain ⟨x, e, m, _⟩ := get i hi
    unfold askP
    refine wpS_bind (wpS_elem e ?_)
    rw [if_pos rfl]
    refine C.lt m hk hκ ?_
    rw [R_at e] at h
    exact h
  · obtain ⟨x, e1, _, f1⟩ := get i (by omega)
    obtain ⟨y, e2, _, f2⟩ := get j hj
    try dsimp only at e ⊢
    rw [R_at e2] at e
    rw [R_at e1]
    simp only [decide_eq_true_eq] at e ⊢
    rcases Nat.eq_or_lt_of_le hij with z | z
    · subst z; rw [e1] at e2; cases e2; exact e
    · refine Int.lt_of_le_of_lt ?_ e
      obtain ⟨l1, g1⟩ := List.getElem?_eq_some_iff.mp f1
      obtain ⟨l2, g2⟩ := List.getElem?_eq_some_iff.mp f2
      rw [← g1, ← g2]
      exact List.pairwise_iff_getElem.mp hs i j l1 l2 z
  · obtain ⟨i, hi, rfl⟩ := List.getElem_of_mem hx
    have hi' : i < k := by
      have := hi; simp at this; omega
    obtain ⟨y, e2, _, _⟩ := get i (by omega)
    have := k2 i hi'
    try dsimp only at this
    rw [R_at e2] at this
    simp only [decide_eq_true_eq] at this
    have e3 : ((arr.toList.drop base).take k)[i]? = some y := by
      rw [List.getElem?_take_of_lt hi', List.getElem?_drop]
      simpa using e2
    rw [List.getElem?_eq_getElem hi] at e3
    cases e3
    exact this
  · have := k3 i i1 i2
    try dsimp only at this
    rw [R_at (show arr[base + i]? = some x by simpa using e)] at this
    simpa using this
end
end Sr

set_option maxHeartbeats 4000000
namespace Sr
open PySem PyProof.Rows
def lowP : Array Keyed → Array Keyed → StateT SortSt Sem (Array Keyed) := sortPriv% PySem.Builtin.mergeLo
theorem lowP_eq (x y : Array Keyed) : lowP x y = (do
    rule "list.sort.merge-lo"
    let tot := x.size + y.size
    let dn (o : Array Keyed) (i j : Nat) := o ++ x.extract i x.size ++ y.extract j y.size
    let lst (o : Array Keyed) (i j : Nat) := o ++ y.extract j y.size ++ x.extract i x.size
    let mut o : Array Keyed := #[← elem' y 0]
    let mut i := 0
    let mut j := 1
    if j == y.size then return dn o i j
    if i + 1 == x.size then return lst o i j
    let mut g := gallopOf (← get)
    for _ in [0:tot] do
      let mut c := 0
      let mut d := 0
      for _ in [0:tot] do
        let some bw ← lt' (← elem' y j) (← elem' x i) | return dn o i j
        if bw then
          o := o.push (← elem' y j); j := j + 1; d := d + 1; c := 0
          if j == y.size then return dn o i j
          if d ≥ g then break
        else
          o := o.push (← elem' x i); i := i + 1; c := c + 1; d := 0
          if i + 1 == x.size then return lst o i j
          if c ≥ g then break
      rule "list.sort.gallop"
      g := g + 1
      for _ in [0:tot] do
        if g > 1 then g := g - 1
        leapP g
        let some k ← gallopP false (← elem' y j) x i (x.size - i) 0 | return dn o i j
        c := k
        if k > 0 then
          o := o ++ x.extract i (i + k); i := i + k
          if i + 1 == x.size then return lst o i j
          if i == x.size then return dn o i j
        o := o.push (← elem' y j); j := j + 1
        if j == y.size then return dn o i j
        let some k ← gallopP true (← elem' x i) y j (y.size - j) 0 | return dn o i j
        d := k
        if k > 0 then
          o := o ++ y.extract j (j + k); j := j + k
          if j == y.size then return dn o i j
        o := o.push (← elem' x i); i := i + 1
        if i + 1 == x.size then return lst o i j
        if c < 7 && d < 7 then break
      g := g + 1
      leapP g
    unsupported "internal:list.sort.merge-bound") := rfl
section
variable {prog : Program} {w : World} {A : Around} {E : Value → Shared → Prop} {s : Shared} {κ : SortKind} {a₀ : Array Keyed} {rk : Keyed → Int}
theorem drop_get {l : List Keyed} {i : Nat} {y : Keyed} (h : y ∈ l.drop i) : ∃ k, i ≤ k ∧ l[k]? = some y := by
  obtain ⟨n, hn, e⟩ := List.getElem_of_mem h
  refine ⟨i + n, by omega, ?_⟩
  rw [← List.getElem?_drop, List.getElem?_eq_getElem hn, e]
theorem srt_first {l : List Keyed} {i : Nat} {x : Keyed} (hs : Srt rk l) (e : l[i]? = some x) : ∀ y ∈ l.drop i, rk x ≤ rk y := fun y hy => by
  obtain ⟨k, hk, ek⟩ := drop_get hy
  obtain ⟨h1, g1⟩ := List.getElem?_eq_some_iff.mp e
  obtain ⟨h2, g2⟩ := List.getElem?_eq_some_iff.mp ek
  rcases Nat.eq_or_lt_of_le hk with z | z
  · subst z; rw [e] at ek; cases ek; exact Int.le_refl _
  · rw [← g1, ← g2]; exact List.pairwise_iff_getElem.mp hs i k h1 h2 z
theorem getA {x : Array Keyed} {i : Nat} (h : i < x.size) : ∃ p, x[i]? = some p ∧ x.toList[i]? = some p ∧ p ∈ x.toList := ⟨x[i], Array.getElem?_eq_getElem h, by simp [h], by simp⟩
/-- one more, whichever is first -/
theorem wpS_low {st : SortSt} {x y : Array Keyed} {Q : Array Keyed → SortSt → Prop} (C : Cmp prog w A E s κ a₀ rk) (hκ : kindOf st = κ)
    (mx : ∀ p ∈ x.toList, p ∈ a₀.toList) (my : ∀ p ∈ y.toList, p ∈ a₀.toList) (sx : Srt rk x.toList) (sy : Srt rk y.toList) (hx : 1 ≤ x.size) (hy : 1 ≤ y.size)
    (hf : ∀ p, y.toList[0]? = some p → ∀ q ∈ x.toList, rk p ≤ rk q) (hl : ∀ p ∈ y.toList, ∀ q, x.toList[x.size - 1]? = some q → rk p ≤ rk q)
    (h : ∀ r st', Whole rk x.toList y.toList r → Sg st st' → Q r st') : wpS (model prog w) A E s (lowP x y) Q st := by
  rw [lowP_eq]
  refine wpS_bind (wpS_lift (wpAny_rule ⟨rfl, ?_⟩))
  dsimp only
  obtain ⟨y0, e0, f0, _⟩ := getA (x := y) (i := 0) (by omega)
  refine wpS_bind (wpS_elem e0 ?_)
  have M0 : Mg rk x.toList y.toList (#[y0] : Array Keyed).toList 0 1 := by
    have z : Mg rk x.toList y.toList [] 0 0 := ⟨by simp, List.Pairwise.nil, fun _ h => (nomatch h), fun _ h => (nomatch h)⟩
    exact z.pushB sy f0 (by rw [List.drop_zero]; exact hf y0 f0)
  by_cases c1 : (1 == y.size) = true
  · rw [if_pos c1]
    exact wpS_pure (h _ _ (M0.doneB sx (by have := beq_iff_eq.mp c1; omega)) Sg.refl)
  rw [if_neg c1]
  have c1' : 1 < y.size := by
    have : ¬ 1 = y.size := fun z => c1 (beq_iff_eq.mpr z)
    omega
  by_cases c2 : (0 + 1 == x.size) = true
  · rw [if_pos c2]
    exact wpS_pure (h _ _ (M0.lastA sx sy (beq_iff_eq.mp c2) hl) Sg.refl)
  rw [if_neg c2]
  have c2' : 0 + 1 < x.size := by
    have : ¬ 0 + 1 = x.size := fun z => c2 (beq_iff_eq.mpr z)
    omega
  refine wpS_bind (wpS_get ?_)
  refine wpS_bind (wpS_mono (wpS_forRange
    (I := fun n c st' => Sg st st' ∧ ∃ (o : Array Keyed) (i j g : Nat), c = (none, o, i, j, g) ∧ Mg rk x.toList y.toList o.toList i j ∧ i + 1 < x.size ∧ j < y.size ∧ n + 1 ≤ o.size)
    (Q := fun c st' => Sg st st' ∧ ∃ (r : Array Keyed) (z : Array Keyed × Nat × Nat × Nat), c = (some r, z) ∧ Whole rk x.toList y.toList r) ?step ?fin ⟨Sg.refl, #[y0], 0, 1, _, rfl, M0, c2', c1', by simp⟩) ?post)
  case fin =>
    rintro c st' ⟨hS, o, i, j, g, rfl, m, h1, h2, h3⟩
    have := m.len
    simp at this
    omega
  case post =>
    rintro c st' ⟨hS, r, z, rfl, hr⟩
    exact wpS_pure (h r st' hr hS)
  case step =>
    rintro n c st' _ hn ⟨hS, o, i, j, g, rfl, m, h1, h2, h3⟩
    dsimp only
    refine wpS_bind (wpS_mono (wpS_forRange
      (I := fun n' c st'' => st'' = st' ∧ ∃ (o' : Array Keyed) (i j a b : Nat), c = (none, o', i, j, a, b) ∧ Mg rk x.toList y.toList o'.toList i j ∧ i + 1 < x.size ∧ j < y.size ∧ o.size + n' ≤ o'.size)
      (Q := fun c st'' => st'' = st' ∧ ((∃ (r : Array Keyed) (z : Array Keyed × Nat × Nat × Nat × Nat), c = (some r, z) ∧ Whole rk x.toList y.toList r) ∨
        ∃ (o' : Array Keyed) (i j a b : Nat), c = (none, o', i, j, a, b) ∧ Mg rk x.toList y.toList o'.toList i j ∧ i + 1 < x.size ∧ j < y.size ∧ o.size + 1 ≤ o'.size)) ?step1 ?fin1 ⟨rfl, o, i, j, _, _, rfl, m, h1, h2, Nat.le_refl _⟩) ?post1)
    case fin1 =>
      rintro c st'' ⟨rfl, o', i, j, a, b, rfl, m, h1, h2, h3⟩
      exact ⟨rfl, .inr ⟨o', i, j, a, b, rfl, m, h1, h2, by omega⟩⟩
    case step1 =>
      rintro n' c st'' _ hn' ⟨rfl, o', i, j, a, b, rfl, m, h1, h2, h3⟩
      dsimp only
      obtain ⟨p, ep, fp, gp⟩ := getA (x := y) h2
      obtain ⟨q, eq, fq, gq⟩ := getA (x := x) (i := i) (by omega)
      refine wpS_bind (wpS_elem ep (wpS_bind (wpS_elem eq (wpS_bind (C.lt (my p gp) (mx q gq) (hS.kind.trans hκ) ?_)))))
      dsimp only
      by_cases hw : rk p < rk q
      · rw [if_pos (decide_eq_true hw)]
        refine wpS_bind (wpS_elem ep ?_)
        have m' : Mg rk x.toList y.toList (o'.push p).toList i (j + 1) := by
          rw [Array.toList_push]
          exact m.pushB sy fp fun z hz => Int.le_trans (Int.le_of_lt hw) (srt_first sx fq z hz)
        by_cases d1 : (j + 1 == y.size) = true
        · rw [if_pos d1]
          exact wpS_pure ⟨rfl, .inl ⟨_, _, rfl, m'.doneB sx (by have := beq_iff_eq.mp d1; omega)⟩⟩
        · rw [if_neg d1]
          have d1' : j + 1 < y.size := by
            have : ¬ j + 1 = y.size := fun z => d1 (beq_iff_eq.mpr z)
            omega
          by_cases d2 : b + 1 ≥ g
          · rw [if_pos d2]
            exact wpS_pure ⟨rfl, .inr ⟨_, _, _, _, _, rfl, m', h1, d1', by simp; omega⟩⟩
          · rw [if_neg d2]
            exact wpS_pure ⟨rfl, _, _, _, _, _, rfl, m', h1, d1', by simp; omega⟩
      · rw [if_neg (by simpa using hw)]
        refine wpS_bind (wpS_elem eq ?_)
        have m' : Mg rk x.toList y.toList (o'.push q).toList (i + 1) j := by
          rw [Array.toList_push]
          exact m.pushA sx fq fun z hz => Int.le_trans (Int.not_lt.mp hw) (srt_first sy fp z hz)
        by_cases d1 : (i + 1 + 1 == x.size) = true
        · rw [if_pos d1]
          exact wpS_pure ⟨rfl, .inl ⟨_, _, rfl, m'.lastA sx sy (beq_iff_eq.mp d1) hl⟩⟩
        · rw [if_neg d1]
          have d1' : i + 1 + 1 < x.size := by
            have : ¬ i + 1 + 1 = x.size := fun z => d1 (beq_iff_eq.mpr z)
            omega
          by_cases d2 : a + 1 ≥ g
          · rw [if_pos d2]
            exact wpS_pure ⟨rfl, .inr ⟨_, _, _, _, _, rfl, m', d1', h2, by simp; omega⟩⟩
          · rw [if_neg d2]
            exact wpS_pure ⟨rfl, _, _, _, _, _, rfl, m', d1', h2, by simp; omega⟩
    case post1 =>
      rintro c st'' ⟨rfl, ⟨r, z, rfl, hr⟩ | ⟨o', i, j, a, b, rfl, m, h1, h2, h3'⟩⟩
      · exact wpS_pure ⟨hS, r, _, rfl, hr⟩
      · dsimp only
        refine wpS_bind (wpS_lift (wpAny_rule ⟨rfl, ?_⟩))
        refine wpS_bind (wpS_mono (wpS_forRange
          (I := fun n' c st2 => Sg st st2 ∧ ∃ (o2 : Array Keyed) (i j g a b : Nat), c = (none, o2, i, j, g, a, b) ∧ Mg rk x.toList y.toList o2.toList i j ∧ i + 1 < x.size ∧ j < y.size ∧ o'.size ≤ o2.size)
          (Q := fun c st2 => Sg st st2 ∧ ((∃ (r : Array Keyed) (z : Array Keyed × Nat × Nat × Nat × Nat × Nat), c = (some r, z) ∧ Whole rk x.toList y.toList r) ∨
            ∃ (o2 : Array Keyed) (i j g a b : Nat), c = (none, o2, i, j, g, a, b) ∧ Mg rk x.toList y.toList o2.toList i j ∧ i + 1 < x.size ∧ j < y.size ∧ o'.size ≤ o2.size)) ?step2 ?fin2 ⟨hS, o', i, j, _, _, _, rfl, m, h1, h2, Nat.le_refl _⟩) ?post2)
        case fin2 =>
          rintro c st2 ⟨hS, o2, i, j, g, a, b, rfl, m, h1, h2, h3⟩
          exact ⟨hS, .inr ⟨o2, i, j, g, a, b, rfl, m, h1, h2, h3⟩⟩
        case post2 =>
          rintro c st2 ⟨hS2, ⟨r, z, rfl, hr⟩ | ⟨o2, i, j, g, a, b, rfl, m, h1, h2, h4⟩⟩
          · exact wpS_pure ⟨hS2, r, _, rfl, hr⟩
          · dsimp only
            exact wpS_bind (wpS_leap hS2 fun st3 hS3 => wpS_pure ⟨hS3, o2, i, j, _, rfl, m, h1, h2, by omega⟩)
        case step2 =>
          rintro n' c st2 _ hn' ⟨hS2, o2, i, j, g, a, b, rfl, m, h1, h2, h3⟩
          dsimp only
          obtain ⟨p, ep, fp, gp⟩ := getA (x := y) h2
          by_cases hg : g > 1
          rw [if_pos hg]
          rotate_left
          rw [if_neg hg]
          all_goals
            refine wpS_bind (wpS_leap hS2 fun st3 hS3 => ?_)
            refine wpS_bind (wpS_elem ep ?_)
            refine wpS_bind (wpS_galR C (hS3.kind.trans hκ) (my p gp) mx sx.drop.take (by omega) (by omega) fun k k1 k2 k3 => ?_)
            dsimp only
            have m1 : Mg rk x.toList y.toList (o2 ++ x.extract i (i + k)).toList (i + k) j := by
              rw [Array.toList_append, ext_part]
              exact m.takeA sx fun u hu v hv => Int.le_trans (k2 u hu) (srt_first sy fp v hv)
            have low : ∀ v ∈ x.toList.drop (i + k), rk p ≤ rk v := fun v hv => by
              obtain ⟨t, t1, t2⟩ := drop_get hv
              have t3 := (List.getElem?_eq_some_iff.mp t2).1
              simp at t3
              exact Int.le_of_lt (k3 (t - i) v (by omega) (by omega) (by rw [show i + (t - i) = t by omega]; exact t2))
            by_cases hk : k > 0
            · rw [if_pos hk]
              by_cases d1 : (i + k + 1 == x.size) = true
              · rw [if_pos d1]
                exact wpS_pure ⟨hS3, .inl ⟨_, _, rfl, m1.lastA sx sy (beq_iff_eq.mp d1) hl⟩⟩
              rw [if_neg d1]
              by_cases d2 : (i + k == x.size) = true
              · rw [if_pos d2]
                exact wpS_pure ⟨hS3, .inl ⟨_, _, rfl, m1.doneA sy (Nat.le_of_eq (beq_iff_eq.mp d2).symm)⟩⟩
              rw [if_neg d2]
              have d3 : i + k + 1 < x.size := by
                have z1 : ¬ i + k + 1 = x.size := fun z => d1 (beq_iff_eq.mpr z)
                have z2 : ¬ i + k = x.size := fun z => d2 (beq_iff_eq.mpr z)
                omega
              refine wpS_bind (wpS_elem ep ?_)
              have m2 : Mg rk x.toList y.toList ((o2 ++ x.extract i (i + k)).push p).toList (i + k) (j + 1) := by
                rw [Array.toList_push]
                exact m1.pushB sy fp low
              by_cases d4 : (j + 1 == y.size) = true
              · rw [if_pos d4]
                exact wpS_pure ⟨hS3, .inl ⟨_, _, rfl, m2.doneB sx (Nat.le_of_eq (beq_iff_eq.mp d4).symm)⟩⟩
              rw [if_neg d4]
              have d5 : j + 1 < y.size := by
                have : ¬ j + 1 = y.size := fun z => d4 (beq_iff_eq.mpr z)
                omega
              obtain ⟨q, eq, fq, gq⟩ := getA (x := x) (i := i + k) (by omega)
              refine wpS_bind (wpS_elem eq ?_)
              refine wpS_bind (wpS_galL C (hS3.kind.trans hκ) (mx q gq) my sy.drop.take (by omega) (by omega) fun l l1 l2 l3 => ?_)
              dsimp only
              have m3 : Mg rk x.toList y.toList ((o2 ++ x.extract i (i + k)).push p ++ y.extract (j + 1) (j + 1 + l)).toList (i + k) (j + 1 + l) := by
                rw [Array.toList_append, ext_part]
                exact m2.takeB sy fun u hu v hv => Int.le_trans (Int.le_of_lt (l2 u hu)) (srt_first sx fq v hv)
              have low2 : ∀ v ∈ y.toList.drop (j + 1 + l), rk q ≤ rk v := fun v hv => by
                obtain ⟨t, t1, t2⟩ := drop_get hv
                have t3 := (List.getElem?_eq_some_iff.mp t2).1
                simp at t3
                exact l3 (t - (j + 1)) v (by omega) (by omega) (by rw [show j + 1 + (t - (j + 1)) = t by omega]; exact t2)
              by_cases hl0 : l > 0
              · rw [if_pos hl0]
                by_cases d8 : (j + 1 + l == y.size) = true
                · rw [if_pos d8]
                  exact wpS_pure ⟨hS3, .inl ⟨_, _, rfl, m3.doneB sx (Nat.le_of_eq (beq_iff_eq.mp d8).symm)⟩⟩
                rw [if_neg d8]
                have d9 : j + 1 + l < y.size := by
                  have : ¬ j + 1 + l = y.size := fun z => d8 (beq_iff_eq.mpr z)
                  omega
                refine wpS_bind (wpS_elem eq ?_)
                have m4 : Mg rk x.toList y.toList (((o2 ++ x.extract i (i + k)).push p ++ y.extract (j + 1) (j + 1 + l)).push q).toList (i + k + 1) (j + 1 + l) := by
                  rw [Array.toList_push]
                  exact m3.pushA sx fq low2
                by_cases d6 : (i + k + 1 + 1 == x.size) = true
                · rw [if_pos d6]
                  exact wpS_pure ⟨hS3, .inl ⟨_, _, rfl, m4.lastA sx sy (beq_iff_eq.mp d6) hl⟩⟩
                rw [if_neg d6]
                have d7 : i + k + 1 + 1 < x.size := by
                  have : ¬ i + k + 1 + 1 = x.size := fun z => d6 (beq_iff_eq.mpr z)
                  omega
                split
                · exact wpS_pure ⟨hS3, .inr ⟨_, _, _, _, _, _, rfl, m4, d7, d9, by simp; omega⟩⟩
                · exact wpS_pure ⟨hS3, _, _, _, _, _, _, rfl, m4, d7, d9, by simp; omega⟩
              · rw [if_neg hl0]
                have l0 : l = 0 := by omega
                subst l0
                refine wpS_bind (wpS_elem eq ?_)
                have m4 : Mg rk x.toList y.toList (((o2 ++ x.extract i (i + k)).push p).push q).toList (i + k + 1) (j + 1) := by
                  rw [Array.toList_push]
                  exact m2.pushA sx fq low2
                by_cases d6 : (i + k + 1 + 1 == x.size) = true
                · rw [if_pos d6]
                  exact wpS_pure ⟨hS3, .inl ⟨_, _, rfl, m4.lastA sx sy (beq_iff_eq.mp d6) hl⟩⟩
                rw [if_neg d6]
                have d7 : i + k + 1 + 1 < x.size := by
                  have : ¬ i + k + 1 + 1 = x.size := fun z => d6 (beq_iff_eq.mpr z)
                  omega
                split
                · exact wpS_pure ⟨hS3, .inr ⟨_, _, _, _, _, _, rfl, m4, d7, d5, by simp; omega⟩⟩
                · exact wpS_pure ⟨hS3, _, _, _, _, _, _, rfl, m4, d7, d5, by simp; omega⟩
            · rw [if_neg hk]
              have k0 : k = 0 := by omega
              subst k0
              have m1' : Mg rk x.toList y.toList o2.toList i j := m
              refine wpS_bind (wpS_elem ep ?_)
              have m2 : Mg rk x.toList y.toList ((o2).push p).toList (i) (j + 1) := by
                rw [Array.toList_push]
                exact m1'.pushB sy fp low
              by_cases d4 : (j + 1 == y.size) = true
              · rw [if_pos d4]
                exact wpS_pure ⟨hS3, .inl ⟨_, _, rfl, m2.doneB sx (Nat.le_of_eq (beq_iff_eq.mp d4).symm)⟩⟩
              rw [if_neg d4]
              have d5 : j + 1 < y.size := by
                have : ¬ j + 1 = y.size := fun z => d4 (beq_iff_eq.mpr z)
                omega
              obtain ⟨q, eq, fq, gq⟩ := getA (x := x) (i := i) (by omega)
              refine wpS_bind (wpS_elem eq ?_)
              refine wpS_bind (wpS_galL C (hS3.kind.trans hκ) (mx q gq) my sy.drop.take (by omega) (by omega) fun l l1 l2 l3 => ?_)
              dsimp only
              have m3 : Mg rk x.toList y.toList ((o2).push p ++ y.extract (j + 1) (j + 1 + l)).toList (i) (j + 1 + l) := by
                rw [Array.toList_append, ext_part]
                exact m2.takeB sy fun u hu v hv => Int.le_trans (Int.le_of_lt (l2 u hu)) (srt_first sx fq v hv)
              have low2 : ∀ v ∈ y.toList.drop (j + 1 + l), rk q ≤ rk v := fun v hv => by
                obtain ⟨t, t1, t2⟩ := drop_get hv
                have t3 := (List.getElem?_eq_some_iff.mp t2).1
                simp at t3
                exact l3 (t - (j + 1)) v (by omega) (by omega) (by rw [show j + 1 + (t - (j + 1)) = t by omega]; exact t2)
              by_cases hl0 : l > 0
              · rw [if_pos hl0]
                by_cases d8 : (j + 1 + l == y.size) = true
                · rw [if_pos d8]
                  exact wpS_pure ⟨hS3, .inl ⟨_, _, rfl, m3.doneB sx (Nat.le_of_eq (beq_iff_eq.mp d8).symm)⟩⟩
                rw [if_neg d8]
                have d9 : j + 1 + l < y.size := by
                  have : ¬ j + 1 + l = y.size := fun z => d8 (beq_iff_eq.mpr z)
                  omega
                refine wpS_bind (wpS_elem eq ?_)
                have m4 : Mg rk x.toList y.toList (((o2).push p ++ y.extract (j + 1) (j + 1 + l)).push q).toList (i + 1) (j + 1 + l) := by
                  rw [Array.toList_push]
                  exact m3.pushA sx fq low2
                by_cases d6 : (i + 1 + 1 == x.size) = true
                · rw [if_pos d6]
                  exact wpS_pure ⟨hS3, .inl ⟨_, _, rfl, m4.lastA sx sy (beq_iff_eq.mp d6) hl⟩⟩
                rw [if_neg d6]
                have d7 : i + 1 + 1 < x.size := by
                  have : ¬ i + 1 + 1 = x.size := fun z => d6 (beq_iff_eq.mpr z)
                  omega
                split
                · exact wpS_pure ⟨hS3, .inr ⟨_, _, _, _, _, _, rfl, m4, d7, d9, by simp; omega⟩⟩
                · exact wpS_pure ⟨hS3, _, _, _, _, _, _, rfl, m4, d7, d9, by simp; omega⟩
              · rw [if_neg hl0]
                have l0 : l = 0 := by omega
                subst l0
                refine wpS_bind (wpS_elem eq ?_)
                have m4 : Mg rk x.toList y.toList (((o2).push p).push q).toList (i + 1) (j + 1) := by
                  rw [Array.toList_push]
                  exact m2.pushA sx fq low2
                by_cases d6 : (i + 1 + 1 == x.size) = true
                · rw [if_pos d6]
                  exact wpS_pure ⟨hS3, .inl ⟨_, _, rfl, m4.lastA sx sy (beq_iff_eq.mp d6) hl⟩⟩
                rw [if_neg d6]
                have d7 : i + 1 + 1 < x.size := by
                  have : ¬ i + 1 + 1 = x.size := fun z => d6 (beq_iff_eq.mpr z)
                  omega
                split
                · exact wpS_pure ⟨hS3, .inr ⟨_, _, _, _, _, _, rfl, m4, d7, d5, by simp; omega⟩⟩
                · exact wpS_pure ⟨hS3, _, _, _, _, _, _, rfl, m4, d7, d5, by simp; omega⟩
end
end Sr

set_option maxHeartbeats 4000000
/-! ### sorts of any size: two runs made one, from above -/
namespace Sr
open PySem PyProof.Rows
structure Mh (rk : Keyed → Int) (a b : List Keyed) (o : List Keyed) (n m : Nat) : Prop where
  perm : (a.take n ++ b.take m ++ o).Perm (a ++ b)
  srt : Srt rk o
  la : ∀ y ∈ a.take n, ∀ x ∈ o, rk y ≤ rk x
  lb : ∀ y ∈ b.take m, ∀ x ∈ o, rk y ≤ rk x
theorem Mh.len {rk : Keyed → Int} {a b o : List Keyed} {n m : Nat} (h : Mh rk a b o n m) : min n a.length + min m b.length + o.length = a.length + b.length := by
  have := h.perm.length_eq
  simp at this
  omega
theorem take_parts {a : List Keyed} {i n : Nat} (hi : i ≤ n) : a.take n = a.take i ++ (a.drop i).take (n - i) := by
  rw [← List.take_add]; congr 1; omega
theorem Mh.takeA {rk : Keyed → Int} {a b o : List Keyed} {n m i : Nat} (h : Mh rk a b o n m) (ha : Srt rk a) (hi : i ≤ n) (hk : ∀ x ∈ (a.drop i).take (n - i), ∀ y ∈ b.take m, rk y ≤ rk x) : Mh rk a b ((a.drop i).take (n - i) ++ o) i m := by
  have e := take_parts (a := a) hi
  have hs : Srt rk (a.take i ++ (a.drop i).take (n - i)) := e ▸ ha.take
  refine ⟨?_, ha.drop.take.app h.srt fun u hu v hv => h.la u (by rw [e]; exact List.mem_append_right _ hu) v hv, fun y hy x hx => ?_, fun y hy x hx => ?_⟩
  · refine List.Perm.trans ?_ h.perm
    rw [e]
    have : (b.take m ++ (a.drop i).take (n - i)).Perm ((a.drop i).take (n - i) ++ b.take m) := List.perm_append_comm
    have := (this.append_left (a.take i)).append_right o
    simpa [List.append_assoc] using this
  · rcases List.mem_append.mp hx with hx | hx
    · exact (List.pairwise_append.mp hs).2.2 y hy x hx
    · exact h.la y (by rw [e]; exact List.mem_append_left _ hy) x hx
  · rcases List.mem_append.mp hx with hx | hx
    · exact hk x hx y hy
    · exact h.lb y hy x hx
theorem Mh.takeB {rk : Keyed → Int} {a b o : List Keyed} {n m j : Nat} (h : Mh rk a b o n m) (hb : Srt rk b) (hj : j ≤ m) (hk : ∀ x ∈ (b.drop j).take (m - j), ∀ y ∈ a.take n, rk y ≤ rk x) : Mh rk a b ((b.drop j).take (m - j) ++ o) n j := by
  have e := take_parts (a := b) hj
  have hs : Srt rk (b.take j ++ (b.drop j).take (m - j)) := e ▸ hb.take
  refine ⟨?_, hb.drop.take.app h.srt fun u hu v hv => h.lb u (by rw [e]; exact List.mem_append_right _ hu) v hv, fun y hy x hx => ?_, fun y hy x hx => ?_⟩
  · refine List.Perm.trans ?_ h.perm
    rw [e]
    simp [List.append_assoc]
  · rcases List.mem_append.mp hx with hx | hx
    · exact hk x hx y hy
    · exact h.la y hy x hx
  · rcases List.mem_append.mp hx with hx | hx
    · exact (List.pairwise_append.mp hs).2.2 y hy x hx
    · exact h.lb y (by rw [e]; exact List.mem_append_left _ hy) x hx
theorem Mh.pushA {rk : Keyed → Int} {a b o : List Keyed} {n m : Nat} {x : Keyed} (h : Mh rk a b o n m) (ha : Srt rk a) (hn : 1 ≤ n) (e : a[n - 1]? = some x) (hk : ∀ y ∈ b.take m, rk y ≤ rk x) : Mh rk a b (x :: o) (n - 1) m := by
  have z : (a.drop (n - 1)).take (n - (n - 1)) = [x] := by rw [show n - (n - 1) = 1 by omega]; exact take_one e
  have := h.takeA (i := n - 1) ha (by omega) (by rw [z]; intro u hu; cases List.mem_singleton.mp hu; exact hk)
  rwa [z] at this
theorem Mh.pushB {rk : Keyed → Int} {a b o : List Keyed} {n m : Nat} {x : Keyed} (h : Mh rk a b o n m) (hb : Srt rk b) (hm : 1 ≤ m) (e : b[m - 1]? = some x) (hk : ∀ y ∈ a.take n, rk y ≤ rk x) : Mh rk a b (x :: o) n (m - 1) := by
  have z : (b.drop (m - 1)).take (m - (m - 1)) = [x] := by rw [show m - (m - 1) = 1 by omega]; exact take_one e
  have := h.takeB (j := m - 1) hb (by omega) (by rw [z]; intro u hu; cases List.mem_singleton.mp hu; exact hk)
  rwa [z] at this
theorem ext_low {α : Type} {a : Array α} {n : Nat} : (a.extract 0 n).toList = a.toList.take n := by
  rw [Array.toList_extract, List.extract_eq_take_drop]
  simp
theorem ext_mid {α : Type} {a : Array α} {i n : Nat} : (a.extract i n).toList = (a.toList.drop i).take (n - i) := by
  rw [Array.toList_extract, List.extract_eq_take_drop]
theorem Mh.doneA {rk : Keyed → Int} {a b : Array Keyed} {o : Array Keyed} {m : Nat} (h : Mh rk a.toList b.toList o.toList.reverse 0 m) (hb : Srt rk b.toList) : Whole rk a.toList b.toList (a.extract 0 0 ++ b.extract 0 m ++ o.reverse) := by
  have eq : (a.extract 0 0 ++ b.extract 0 m ++ o.reverse).toList = b.toList.take m ++ o.toList.reverse := by
    rw [Array.toList_append, Array.toList_append, ext_low, ext_low, Array.toList_reverse]; simp
  refine ⟨?_, ?_⟩
  · rw [eq]
    simpa using h.perm
  · rw [eq]; exact hb.take.app h.srt h.lb
theorem Mh.doneB {rk : Keyed → Int} {a b : Array Keyed} {o : Array Keyed} {n : Nat} (h : Mh rk a.toList b.toList o.toList.reverse n 0) (ha : Srt rk a.toList) : Whole rk a.toList b.toList (a.extract 0 n ++ b.extract 0 0 ++ o.reverse) := by
  have eq : (a.extract 0 n ++ b.extract 0 0 ++ o.reverse).toList = a.toList.take n ++ o.toList.reverse := by
    rw [Array.toList_append, Array.toList_append, ext_low, ext_low, Array.toList_reverse]; simp
  refine ⟨?_, ?_⟩
  · rw [eq]
    simpa using h.perm
  · rw [eq]; exact ha.take.app h.srt h.la
theorem Mh.firstB {rk : Keyed → Int} {a b : Array Keyed} {o : Array Keyed} {n : Nat} (h : Mh rk a.toList b.toList o.toList.reverse n 1) (ha : Srt rk a.toList) (hb : Srt rk b.toList) (hf : ∀ p, b.toList[0]? = some p → ∀ q ∈ a.toList, rk p ≤ rk q) : Whole rk a.toList b.toList (b.extract 0 1 ++ a.extract 0 n ++ o.reverse) := by
  have eq : (b.extract 0 1 ++ a.extract 0 n ++ o.reverse).toList = b.toList.take 1 ++ a.toList.take n ++ o.toList.reverse := by
    rw [Array.toList_append, Array.toList_append, ext_low, ext_low, Array.toList_reverse]
  refine ⟨?_, ?_⟩
  · rw [eq]
    exact (List.perm_append_comm.append_right _).trans h.perm
  · rw [eq]
    refine (hb.take.app ha.take fun u hu v hv => ?_).app h.srt fun u hu v hv => ?_
    · obtain ⟨i, hi, e⟩ := List.getElem_of_mem hu
      have i0 : i = 0 := by simp at hi; omega
      subst i0
      refine hf u ?_ v (List.mem_of_mem_take hv)
      have := List.getElem?_eq_getElem hi
      rw [List.getElem?_take_of_lt (by omega)] at this
      rw [this, e]
    · rcases List.mem_append.mp hu with hu | hu
      · exact h.lb u hu v hv
      · exact h.la u hu v hv
def highP : Array Keyed → Array Keyed → StateT SortSt Sem (Array Keyed) := sortPriv% PySem.Builtin.mergeHi
theorem highP_eq (x y : Array Keyed) : highP x y = (do
    rule "list.sort.merge-hi"
    let tot := x.size + y.size
    let dn (o : Array Keyed) (i j : Nat) := x.extract 0 i ++ y.extract 0 j ++ o.reverse
    let fst (o : Array Keyed) (i j : Nat) := y.extract 0 j ++ x.extract 0 i ++ o.reverse
    let mut i := x.size - 1
    let mut j := y.size
    let mut o : Array Keyed := #[← elem' x i]
    if i == 0 then return dn o i j
    if j == 1 then return fst o i j
    let mut g := gallopOf (← get)
    for _ in [0:tot] do
      let mut c := 0
      let mut d := 0
      for _ in [0:tot] do
        let some aw ← lt' (← elem' y (j - 1)) (← elem' x (i - 1)) | return dn o i j
        if aw then
          i := i - 1; o := o.push (← elem' x i); c := c + 1; d := 0
          if i == 0 then return dn o i j
          if c ≥ g then break
        else
          j := j - 1; o := o.push (← elem' y j); d := d + 1; c := 0
          if j == 1 then return fst o i j
          if d ≥ g then break
      rule "list.sort.gallop"
      g := g + 1
      for _ in [0:tot] do
        if g > 1 then g := g - 1
        leapP g
        let some t ← gallopP false (← elem' y (j - 1)) x 0 i (i - 1) | return dn o i j
        let k := i - t
        c := k
        if k > 0 then
          o := o ++ (x.extract t i).reverse; i := t
          if i == 0 then return dn o i j
        j := j - 1; o := o.push (← elem' y j)
        if j == 1 then return fst o i j
        let some t ← gallopP true (← elem' x (i - 1)) y 0 j (j - 1) | return dn o i j
        let k := j - t
        d := k
        if k > 0 then
          o := o ++ (y.extract t j).reverse; j := t
          if j == 1 then return fst o i j
          if j == 0 then return dn o i j
        i := i - 1; o := o.push (← elem' x i)
        if i == 0 then return dn o i j
        if c < 7 && d < 7 then break
      g := g + 1
      leapP g
    unsupported "internal:list.sort.merge-bound") := rfl
section
variable {prog : Program} {w : World} {A : Around} {E : Value → Shared → Prop} {s : Shared} {κ : SortKind} {a₀ : Array Keyed} {rk : Keyed → Int}
theorem take_get {l : List Keyed} {n : Nat} {y : Keyed} (h : y ∈ l.take n) : ∃ k, k < n ∧ l[k]? = some y := by
  obtain ⟨k, hk, e⟩ := List.getElem_of_mem h
  have hk' : k < n := by simp at hk; omega
  refine ⟨k, hk', ?_⟩
  have := List.getElem?_eq_getElem hk
  rw [List.getElem?_take_of_lt hk'] at this
  rw [this, e]
theorem srt_last {l : List Keyed} {n : Nat} {x : Keyed} (hs : Srt rk l) (e : l[n - 1]? = some x) : ∀ y ∈ l.take n, rk y ≤ rk x := fun y hy => by
  obtain ⟨k, hk, ek⟩ := take_get hy
  obtain ⟨h1, g1⟩ := List.getElem?_eq_some_iff.mp e
  obtain ⟨h2, g2⟩ := List.getElem?_eq_some_iff.mp ek
  rcases Nat.eq_or_lt_of_le (show k ≤ n - 1 by omega) with z | z
  · subst z; rw [e] at ek; cases ek; exact Int.le_refl _
  · rw [← g1, ← g2]; exact List.pairwise_iff_getElem.mp hs k (n - 1) h2 h1 z
theorem mem_seg {l : List Keyed} {i n : Nat} {y : Keyed} (h : y ∈ (l.drop i).take (n - i)) : ∃ k, i ≤ k ∧ k < n ∧ l[k]? = some y := by
  obtain ⟨k, hk, e⟩ := take_get h
  rw [List.getElem?_drop] at e
  exact ⟨i + k, by omega, by omega, e⟩
theorem wpS_high {st : SortSt} {x y : Array Keyed} {Q : Array Keyed → SortSt → Prop} (C : Cmp prog w A E s κ a₀ rk) (hκ : kindOf st = κ)
    (mx : ∀ p ∈ x.toList, p ∈ a₀.toList) (my : ∀ p ∈ y.toList, p ∈ a₀.toList) (sx : Srt rk x.toList) (sy : Srt rk y.toList) (hx : 1 ≤ x.size) (hy : 1 ≤ y.size)
    (hf : ∀ p, y.toList[0]? = some p → ∀ q ∈ x.toList, rk p ≤ rk q) (hl : ∀ p ∈ y.toList, ∀ q, x.toList[x.size - 1]? = some q → rk p ≤ rk q)
    (h : ∀ r st', Whole rk x.toList y.toList r → Sg st st' → Q r st') : wpS (model prog w) A E s (highP x y) Q st := by
  rw [highP_eq]
  refine wpS_bind (wpS_lift (wpAny_rule ⟨rfl, ?_⟩))
  dsimp only
  obtain ⟨x0, e0, f0, _⟩ := getA (x := x) (i := x.size - 1) (by omega)
  refine wpS_bind (wpS_elem e0 ?_)
  have M0 : Mh rk x.toList y.toList (#[x0] : Array Keyed).toList.reverse (x.size - 1) y.size := by
    have z : Mh rk x.toList y.toList [] x.size y.size := ⟨by rw [List.take_of_length_le (by simp), List.take_of_length_le (by simp)]; simp, List.Pairwise.nil, fun _ _ _ h => (nomatch h), fun _ _ _ h => (nomatch h)⟩
    exact z.pushA sx hx f0 fun v hv => hl v (List.mem_of_mem_take hv) x0 f0
  by_cases c1 : (x.size - 1 == 0) = true
  · rw [if_pos c1]
    have e := beq_iff_eq.mp c1
    rw [e] at M0 ⊢
    exact wpS_pure (h _ _ (M0.doneA sy) Sg.refl)
  rw [if_neg c1]
  have c1' : 1 ≤ x.size - 1 := by
    have : ¬ x.size - 1 = 0 := fun z => c1 (beq_iff_eq.mpr z)
    omega
  by_cases c2 : (y.size == 1) = true
  · rw [if_pos c2]
    have e := beq_iff_eq.mp c2
    rw [e] at M0 ⊢
    exact wpS_pure (h _ _ (M0.firstB sx sy hf) Sg.refl)
  rw [if_neg c2]
  have c2' : 2 ≤ y.size := by
    have : ¬ y.size = 1 := fun z => c2 (beq_iff_eq.mpr z)
    omega
  refine wpS_bind (wpS_get ?_)
  refine wpS_bind (wpS_mono (wpS_forRange
    (I := fun n c st' => Sg st st' ∧ ∃ (o : Array Keyed) (i j g : Nat), c = (none, i, j, o, g) ∧ Mh rk x.toList y.toList o.toList.reverse i j ∧ (1 ≤ i ∧ i ≤ x.size) ∧ (2 ≤ j ∧ j ≤ y.size) ∧ n + 1 ≤ o.size)
    (Q := fun c st' => Sg st st' ∧ ∃ (r : Array Keyed) (z : Nat × Nat × Array Keyed × Nat), c = (some r, z) ∧ Whole rk x.toList y.toList r) ?step ?fin ⟨Sg.refl, #[x0], x.size - 1, y.size, _, rfl, M0, ⟨c1', by omega⟩, ⟨c2', Nat.le_refl _⟩, by simp⟩) ?post)
  case fin =>
    rintro c st' ⟨hS, o, i, j, g, rfl, m, ⟨h1, h1'⟩, ⟨h2, h2'⟩, h3⟩
    have := m.len
    simp at this
    omega
  case post =>
    rintro c st' ⟨hS, r, z, rfl, hr⟩
    exact wpS_pure (h r st' hr hS)
  case step =>
    rintro n c st' _ hn ⟨hS, o, i, j, g, rfl, m, ⟨h1, h1'⟩, ⟨h2, h2'⟩, h3⟩
    dsimp only
    refine wpS_bind (wpS_mono (wpS_forRange
      (I := fun n' c st'' => st'' = st' ∧ ∃ (o' : Array Keyed) (i j a b : Nat), c = (none, i, j, o', a, b) ∧ Mh rk x.toList y.toList o'.toList.reverse i j ∧ (1 ≤ i ∧ i ≤ x.size) ∧ (2 ≤ j ∧ j ≤ y.size) ∧ o.size + n' ≤ o'.size)
      (Q := fun c st'' => st'' = st' ∧ ((∃ (r : Array Keyed) (z : Nat × Nat × Array Keyed × Nat × Nat), c = (some r, z) ∧ Whole rk x.toList y.toList r) ∨
        ∃ (o' : Array Keyed) (i j a b : Nat), c = (none, i, j, o', a, b) ∧ Mh rk x.toList y.toList o'.toList.reverse i j ∧ (1 ≤ i ∧ i ≤ x.size) ∧ (2 ≤ j ∧ j ≤ y.size) ∧ o.size + 1 ≤ o'.size)) ?step1 ?fin1 ⟨rfl, o, i, j, _, _, rfl, m, ⟨h1, h1'⟩, ⟨h2, h2'⟩, Nat.le_refl _⟩) ?post1)
    case fin1 =>
      rintro c st'' ⟨rfl, o', i, j, a, b, rfl, m, h1, h2, h3⟩
      exact ⟨rfl, .inr ⟨o', i, j, a, b, rfl, m, h1, h2, by omega⟩⟩
    case step1 =>
      rintro n' c st'' _ hn' ⟨rfl, o', i, j, a, b, rfl, m, ⟨h1, h1'⟩, ⟨h2, h2'⟩, h3⟩
      dsimp only
      obtain ⟨p, ep, fp, gp⟩ := getA (x := y) (i := j - 1) (by omega)
      obtain ⟨q, eq, fq, gq⟩ := getA (x := x) (i := i - 1) (by omega)
      refine wpS_bind (wpS_elem ep (wpS_bind (wpS_elem eq (wpS_bind (C.lt (my p gp) (mx q gq) (hS.kind.trans hκ) ?_)))))
      dsimp only
      by_cases hw : rk p < rk q
      · rw [if_pos (decide_eq_true hw)]
        refine wpS_bind (wpS_elem eq ?_)
        have m' : Mh rk x.toList y.toList (o'.push q).toList.reverse (i - 1) j := by
          rw [Array.toList_push, List.reverse_append]
          exact m.pushA sx h1 fq fun z hz => Int.le_trans (srt_last sy fp z hz) (Int.le_of_lt hw)
        by_cases d1 : (i - 1 == 0) = true
        · rw [if_pos d1]
          refine wpS_pure ⟨rfl, .inl ⟨_, _, rfl, ?_⟩⟩
          rw [beq_iff_eq.mp d1] at m' ⊢
          exact m'.doneA sy
        · rw [if_neg d1]
          have d1' : 1 ≤ i - 1 := by
            have : ¬ i - 1 = 0 := fun z => d1 (beq_iff_eq.mpr z)
            omega
          by_cases d2 : a + 1 ≥ g
          · rw [if_pos d2]
            exact wpS_pure ⟨rfl, .inr ⟨_, _, _, _, _, rfl, m', ⟨d1', by omega⟩, ⟨h2, h2'⟩, by simp; omega⟩⟩
          · rw [if_neg d2]
            exact wpS_pure ⟨rfl, _, _, _, _, _, rfl, m', ⟨d1', by omega⟩, ⟨h2, h2'⟩, by simp; omega⟩
      · rw [if_neg (by simpa using hw)]
        refine wpS_bind (wpS_elem ep ?_)
        have m' : Mh rk x.toList y.toList (o'.push p).toList.reverse i (j - 1) := by
          rw [Array.toList_push, List.reverse_append]
          exact m.pushB sy (by omega) fp fun z hz => Int.le_trans (srt_last sx fq z hz) (Int.not_lt.mp hw)
        by_cases d1 : (j - 1 == 1) = true
        · rw [if_pos d1]
          refine wpS_pure ⟨rfl, .inl ⟨_, _, rfl, ?_⟩⟩
          rw [beq_iff_eq.mp d1] at m' ⊢
          exact m'.firstB sx sy hf
        · rw [if_neg d1]
          have d1' : 2 ≤ j - 1 := by
            have : ¬ j - 1 = 1 := fun z => d1 (beq_iff_eq.mpr z)
            omega
          by_cases d2 : b + 1 ≥ g
          · rw [if_pos d2]
            exact wpS_pure ⟨rfl, .inr ⟨_, _, _, _, _, rfl, m', ⟨h1, h1'⟩, ⟨d1', by omega⟩, by simp; omega⟩⟩
          · rw [if_neg d2]
            exact wpS_pure ⟨rfl, _, _, _, _, _, rfl, m', ⟨h1, h1'⟩, ⟨d1', by omega⟩, by simp; omega⟩
    case post1 =>
      rintro c st'' ⟨rfl, ⟨r, z, rfl, hr⟩ | ⟨o', i, j, a, b, rfl, m, h1, h2, h3'⟩⟩
      · exact wpS_pure ⟨hS, r, _, rfl, hr⟩
      · dsimp only
        refine wpS_bind (wpS_lift (wpAny_rule ⟨rfl, ?_⟩))
        refine wpS_bind (wpS_mono (wpS_forRange
          (I := fun n' c st2 => Sg st st2 ∧ ∃ (o2 : Array Keyed) (i j g a b : Nat), c = (none, i, j, o2, g, a, b) ∧ Mh rk x.toList y.toList o2.toList.reverse i j ∧ (1 ≤ i ∧ i ≤ x.size) ∧ (2 ≤ j ∧ j ≤ y.size) ∧ o'.size ≤ o2.size)
          (Q := fun c st2 => Sg st st2 ∧ ((∃ (r : Array Keyed) (z : Nat × Nat × Array Keyed × Nat × Nat × Nat), c = (some r, z) ∧ Whole rk x.toList y.toList r) ∨
            ∃ (o2 : Array Keyed) (i j g a b : Nat), c = (none, i, j, o2, g, a, b) ∧ Mh rk x.toList y.toList o2.toList.reverse i j ∧ (1 ≤ i ∧ i ≤ x.size) ∧ (2 ≤ j ∧ j ≤ y.size) ∧ o'.size ≤ o2.size)) ?step2 ?fin2 ⟨hS, o', i, j, _, _, _, rfl, m, h1, h2, Nat.le_refl _⟩) ?post2)
        case fin2 =>
          rintro c st2 ⟨hS, o2, i, j, g, a, b, rfl, m, h1, h2, h3⟩
          exact ⟨hS, .inr ⟨o2, i, j, g, a, b, rfl, m, h1, h2, h3⟩⟩
        case post2 =>
          rintro c st2 ⟨hS2, ⟨r, z, rfl, hr⟩ | ⟨o2, i, j, g, a, b, rfl, m, h1, h2, h4⟩⟩
          · exact wpS_pure ⟨hS2, r, _, rfl, hr⟩
          · dsimp only
            exact wpS_bind (wpS_leap hS2 fun st3 hS3 => wpS_pure ⟨hS3, o2, i, j, _, rfl, m, h1, h2, by omega⟩)
        case step2 =>
          rintro n' c st2 _ hn' ⟨hS2, o2, i, j, g, a, b, rfl, m, ⟨h1, h1'⟩, ⟨h2, h2'⟩, h3⟩
          dsimp only
          obtain ⟨p, ep, fp, gp⟩ := getA (x := y) (i := j - 1) (by omega)
          by_cases hg : g > 1
          rw [if_pos hg]
          rotate_left
          rw [if_neg hg]
          all_goals
            refine wpS_bind (wpS_leap hS2 fun st3 hS3 => ?_)
            refine wpS_bind (wpS_elem ep ?_)
            refine wpS_bind (wpS_galR C (hS3.kind.trans hκ) (my p gp) mx sx.drop.take (by omega) (by omega) fun t k1 k2 k3 => ?_)
            dsimp only
            have m1 : Mh rk x.toList y.toList (o2 ++ (x.extract t i).reverse).toList.reverse t j := by
              rw [Array.toList_append, List.reverse_append, Array.toList_reverse, List.reverse_reverse, ext_mid]
              refine m.takeA sx k1 fun u hu v hv => ?_
              obtain ⟨k, z1, z2, z3⟩ := mem_seg hu
              exact Int.le_trans (srt_last sy fp v hv) (Int.le_of_lt (k3 k u z1 z2 (by rw [Nat.zero_add]; exact z3)))
            have low : ∀ v ∈ x.toList.take t, rk v ≤ rk p := fun v hv => k2 v (by rw [List.drop_zero]; exact hv)
            by_cases hk : i - t > 0
            · rw [if_pos hk]
              by_cases d1 : (t == 0) = true
              · rw [if_pos d1]
                refine wpS_pure ⟨hS3, .inl ⟨_, _, rfl, ?_⟩⟩
                rw [beq_iff_eq.mp d1] at m1 ⊢
                exact m1.doneA sy
              rw [if_neg d1]
              have d3 : 1 ≤ t := by
                have z1 : ¬ t = 0 := fun z => d1 (beq_iff_eq.mpr z)
                omega
              have d3' : t ≤ x.size := by omega
              refine wpS_bind (wpS_elem ep ?_)
              have m2 : Mh rk x.toList y.toList ((o2 ++ (x.extract t i).reverse).push p).toList.reverse (t) (j - 1) := by
                rw [Array.toList_push, List.reverse_append]
                exact m1.pushB sy (by omega) fp low
              by_cases d4 : (j - 1 == 1) = true
              · rw [if_pos d4]
                refine wpS_pure ⟨hS3, .inl ⟨_, _, rfl, ?_⟩⟩
                rw [beq_iff_eq.mp d4] at m2 ⊢
                exact m2.firstB sx sy hf
              rw [if_neg d4]
              have d5 : 2 ≤ j - 1 := by
                have : ¬ j - 1 = 1 := fun z => d4 (beq_iff_eq.mpr z)
                omega
              obtain ⟨q, eq, fq, gq⟩ := getA (x := x) (i := t - 1) (by omega)
              refine wpS_bind (wpS_elem eq ?_)
              refine wpS_bind (wpS_galL C (hS3.kind.trans hκ) (mx q gq) my sy.drop.take (by omega) (by omega) fun l l1 l2 l3 => ?_)
              dsimp only
              have m3 : Mh rk x.toList y.toList ((o2 ++ (x.extract t i).reverse).push p ++ (y.extract l (j - 1)).reverse).toList.reverse (t) l := by
                rw [Array.toList_append, List.reverse_append, Array.toList_reverse, List.reverse_reverse, ext_mid]
                refine m2.takeB sy l1 fun u hu v hv => ?_
                obtain ⟨k, z1, z2, z3⟩ := mem_seg hu
                exact Int.le_trans (srt_last sx fq v hv) (l3 k u z1 z2 (by rw [Nat.zero_add]; exact z3))
              have low2 : ∀ v ∈ y.toList.take l, rk v ≤ rk q := fun v hv => Int.le_of_lt (l2 v (by rw [List.drop_zero]; exact hv))
              by_cases hl0 : j - 1 - l > 0
              · rw [if_pos hl0]
                by_cases d8 : (l == 1) = true
                · rw [if_pos d8]
                  refine wpS_pure ⟨hS3, .inl ⟨_, _, rfl, ?_⟩⟩
                  rw [beq_iff_eq.mp d8] at m3 ⊢
                  exact m3.firstB sx sy hf
                rw [if_neg d8]
                by_cases d9 : (l == 0) = true
                · rw [if_pos d9]
                  refine wpS_pure ⟨hS3, .inl ⟨_, _, rfl, ?_⟩⟩
                  rw [beq_iff_eq.mp d9] at m3 ⊢
                  exact m3.doneB sx
                rw [if_neg d9]
                have d10 : 2 ≤ l := by
                  have z1 : ¬ l = 1 := fun z => d8 (beq_iff_eq.mpr z)
                  have z2 : ¬ l = 0 := fun z => d9 (beq_iff_eq.mpr z)
                  omega
                refine wpS_bind (wpS_elem eq ?_)
                have m4 : Mh rk x.toList y.toList (((o2 ++ (x.extract t i).reverse).push p ++ (y.extract l (j - 1)).reverse).push q).toList.reverse (t - 1) (l) := by
                  rw [Array.toList_push, List.reverse_append]
                  exact m3.pushA sx d3 fq low2
                by_cases d6 : (t - 1 == 0) = true
                · rw [if_pos d6]
                  refine wpS_pure ⟨hS3, .inl ⟨_, _, rfl, ?_⟩⟩
                  rw [beq_iff_eq.mp d6] at m4 ⊢
                  exact m4.doneA sy
                rw [if_neg d6]
                have d7 : 1 ≤ t - 1 := by
                  have : ¬ t - 1 = 0 := fun z => d6 (beq_iff_eq.mpr z)
                  omega
                split
                · exact wpS_pure ⟨hS3, .inr ⟨_, _, _, _, _, _, rfl, m4, ⟨d7, by omega⟩, ⟨d10, by omega⟩, by simp; omega⟩⟩
                · exact wpS_pure ⟨hS3, _, _, _, _, _, _, rfl, m4, ⟨d7, by omega⟩, ⟨d10, by omega⟩, by simp; omega⟩
              · rw [if_neg hl0]
                have l0 : l = j - 1 := by omega
                subst l0
                refine wpS_bind (wpS_elem eq ?_)
                have m4 : Mh rk x.toList y.toList (((o2 ++ (x.extract t i).reverse).push p).push q).toList.reverse (t - 1) (j - 1) := by
                  rw [Array.toList_push, List.reverse_append]
                  exact m2.pushA sx d3 fq low2
                by_cases d6 : (t - 1 == 0) = true
                · rw [if_pos d6]
                  refine wpS_pure ⟨hS3, .inl ⟨_, _, rfl, ?_⟩⟩
                  rw [beq_iff_eq.mp d6] at m4 ⊢
                  exact m4.doneA sy
                rw [if_neg d6]
                have d7 : 1 ≤ t - 1 := by
                  have : ¬ t - 1 = 0 := fun z => d6 (beq_iff_eq.mpr z)
                  omega
                split
                · exact wpS_pure ⟨hS3, .inr ⟨_, _, _, _, _, _, rfl, m4, ⟨d7, by omega⟩, ⟨d5, by omega⟩, by simp; omega⟩⟩
                · exact wpS_pure ⟨hS3, _, _, _, _, _, _, rfl, m4, ⟨d7, by omega⟩, ⟨d5, by omega⟩, by simp; omega⟩
            · rw [if_neg hk]
              have k0 : t = i := by omega
              subst k0
              refine wpS_bind (wpS_elem ep ?_)
              have m2 : Mh rk x.toList y.toList ((o2).push p).toList.reverse (t) (j - 1) := by
                rw [Array.toList_push, List.reverse_append]
                exact m.pushB sy (by omega) fp low
              by_cases d4 : (j - 1 == 1) = true
              · rw [if_pos d4]
                refine wpS_pure ⟨hS3, .inl ⟨_, _, rfl, ?_⟩⟩
                rw [beq_iff_eq.mp d4] at m2 ⊢
                exact m2.firstB sx sy hf
              rw [if_neg d4]
              have d5 : 2 ≤ j - 1 := by
                have : ¬ j - 1 = 1 := fun z => d4 (beq_iff_eq.mpr z)
                omega
              obtain ⟨q, eq, fq, gq⟩ := getA (x := x) (i := t - 1) (by omega)
              refine wpS_bind (wpS_elem eq ?_)
              refine wpS_bind (wpS_galL C (hS3.kind.trans hκ) (mx q gq) my sy.drop.take (by omega) (by omega) fun l l1 l2 l3 => ?_)
              dsimp only
              have m3 : Mh rk x.toList y.toList ((o2).push p ++ (y.extract l (j - 1)).reverse).toList.reverse (t) l := by
                rw [Array.toList_append, List.reverse_append, Array.toList_reverse, List.reverse_reverse, ext_mid]
                refine m2.takeB sy l1 fun u hu v hv => ?_
                obtain ⟨k, z1, z2, z3⟩ := mem_seg hu
                exact Int.le_trans (srt_last sx fq v hv) (l3 k u z1 z2 (by rw [Nat.zero_add]; exact z3))
              have low2 : ∀ v ∈ y.toList.take l, rk v ≤ rk q := fun v hv => Int.le_of_lt (l2 v (by rw [List.drop_zero]; exact hv))
              by_cases hl0 : j - 1 - l > 0
              · rw [if_pos hl0]
                by_cases d8 : (l == 1) = true
                · rw [if_pos d8]
                  refine wpS_pure ⟨hS3, .inl ⟨_, _, rfl, ?_⟩⟩
                  rw [beq_iff_eq.mp d8] at m3 ⊢
                  exact m3.firstB sx sy hf
                rw [if_neg d8]
                by_cases d9 : (l == 0) = true
                · rw [if_pos d9]
                  refine wpS_pure ⟨hS3, .inl ⟨_, _, rfl, ?_⟩⟩
                  rw [beq_iff_eq.mp d9] at m3 ⊢
                  exact m3.doneB sx
                rw [if_neg d9]
                have d10 : 2 ≤ l := by
                  have z1 : ¬ l = 1 := fun z => d8 (beq_iff_eq.mpr z)
                  have z2 : ¬ l = 0 := fun z => d9 (beq_iff_eq.mpr z)
                  omega
                refine wpS_bind (wpS_elem eq ?_)
                have m4 : Mh rk x.toList y.toList (((o2).push p ++ (y.extract l (j - 1)).reverse).push q).toList.reverse (t - 1) (l) := by
                  rw [Array.toList_push, List.reverse_append]
                  exact m3.pushA sx h1 fq low2
                by_cases d6 : (t - 1 == 0) = true
                · rw [if_pos d6]
                  refine wpS_pure ⟨hS3, .inl ⟨_, _, rfl, ?_⟩⟩
                  rw [beq_iff_eq.mp d6] at m4 ⊢
                  exact m4.doneA sy
                rw [if_neg d6]
                have d7 : 1 ≤ t - 1 := by
                  have : ¬ t - 1 = 0 := fun z => d6 (beq_iff_eq.mpr z)
                  omega
                split
                · exact wpS_pure ⟨hS3, .inr ⟨_, _, _, _, _, _, rfl, m4, ⟨d7, by omega⟩, ⟨d10, by omega⟩, by simp; omega⟩⟩
                · exact wpS_pure ⟨hS3, _, _, _, _, _, _, rfl, m4, ⟨d7, by omega⟩, ⟨d10, by omega⟩, by simp; omega⟩
              · rw [if_neg hl0]
                have l0 : l = j - 1 := by omega
                subst l0
                refine wpS_bind (wpS_elem eq ?_)
                have m4 : Mh rk x.toList y.toList (((o2).push p).push q).toList.reverse (t - 1) (j - 1) := by
                  rw [Array.toList_push, List.reverse_append]
                  exact m2.pushA sx h1 fq low2
                by_cases d6 : (t - 1 == 0) = true
                · rw [if_pos d6]
                  refine wpS_pure ⟨hS3, .inl ⟨_, _, rfl, ?_⟩⟩
                  rw [beq_iff_eq.mp d6] at m4 ⊢
                  exact m4.doneA sy
                rw [if_neg d6]
                have d7 : 1 ≤ t - 1 := by
                  have : ¬ t - 1 = 0 := fun z => d6 (beq_iff_eq.mpr z)
                  omega
                split
                · exact wpS_pure ⟨hS3, .inr ⟨_, _, _, _, _, _, rfl, m4, ⟨d7, by omega⟩, ⟨d5, by omega⟩, by simp; omega⟩⟩
                · exact wpS_pure ⟨hS3, _, _, _, _, _, _, rfl, m4, ⟨d7, by omega⟩, ⟨d5, by omega⟩, by simp; omega⟩
end
end Sr

set_option maxHeartbeats 4000000
/-! ### sorts of any size: two neighbours among the runs -/
namespace Sr
open PySem PyProof.Rows
theorem dd {α : Type} (l : List α) (a b : Nat) : l.drop (a + b) = (l.drop a).drop b := by rw [List.drop_drop]
theorem put_at {α : Type} (sa : Nat) : ∀ (m : List α) (a : Array α) (j : Nat), sa + j + m.length ≤ a.size →
    ((m.zipIdx j).foldl (fun a (x : α × Nat) => match x with | (p, i) => a.setIfInBounds (sa + i) p) a).toList = a.toList.take (sa + j) ++ (m ++ a.toList.drop (sa + j + m.length))
  | [], a, j, h => by simp
  | p :: r, a, j, h => by
    rw [List.zipIdx_cons, List.foldl_cons]
    simp only [List.length_cons] at h
    rw [put_at sa r _ (j + 1) (by simp; omega)]
    simp only [Array.toList_setIfInBounds, List.length_cons]
    have hl : sa + j < a.toList.length := by simp; omega
    rw [show sa + (j + 1) = sa + j + 1 by omega]
    have e1 : (a.toList.set (sa + j) p).take (sa + j + 1) = a.toList.take (sa + j) ++ [p] := by
      rw [List.take_set, List.take_succ_eq_append_getElem hl, List.set_append_right _ _ (by simp; omega)]
      simp [Nat.min_eq_left (Nat.le_of_lt hl)]
      have : sa + j - min (sa + j) a.size = 0 := by simp at hl; omega
      rw [this]; rfl
    have e2 : (a.toList.set (sa + j) p).drop (sa + j + 1 + r.length) = a.toList.drop (sa + j + (r.length + 1)) := by
      rw [List.drop_set_of_lt (by omega)]
      congr 1; omega
    rw [e1, e2]
    simp
theorem seg_srt {rk : Keyed → Int} {xs : Array Keyed} {lo hi : Nat} (hh : hi ≤ xs.size) (h : Seg rk xs lo hi) : Srt rk ((xs.toList.drop lo).take (hi - lo)) := by
  refine List.pairwise_iff_getElem.mpr fun i j hi' hj' hij => ?_
  have hl : j < hi - lo ∧ j < xs.size - lo := by simp at hj'; omega
  have := h (lo + i) (lo + j) (by omega) (by omega) (by omega)
  rw [R_at (p := xs[lo + i]'(by omega)) (Array.getElem?_eq_getElem (by omega)), R_at (p := xs[lo + j]'(by omega)) (Array.getElem?_eq_getElem (by omega))] at this
  simpa using this
theorem srt_seg {rk : Keyed → Int} {xs : Array Keyed} {lo hi : Nat} (hh : hi ≤ xs.size) (h : Srt rk ((xs.toList.drop lo).take (hi - lo))) : Seg rk xs lo hi := by
  intro i j hl hij hj
  rcases Nat.eq_or_lt_of_le hij with z | z
  · subst z; exact Int.le_refl _
  · have := List.pairwise_iff_getElem.mp h (i - lo) (j - lo) (by simp; omega) (by simp; omega) (by omega)
    rw [R_at (p := xs[i]'(by omega)) (Array.getElem?_eq_getElem (by omega)), R_at (p := xs[j]'(by omega)) (Array.getElem?_eq_getElem (by omega))]
    simpa [show lo + (i - lo) = i by omega, show lo + (j - lo) = j by omega] using this
section
variable {M : Model} {A : Around} {E : Value → Shared → Prop} {s : Shared} {σ : Type}
theorem wpS_set {t : σ} {Q : PUnit → σ → Prop} {st : σ} (h : Q ⟨⟩ t) : wpS M A E s (set t : StateT σ Sem PUnit) Q st := by
  unfold wpS; rw [StateT.run_set]; exact wpAny_pure ⟨rfl, h⟩
end
theorem mergeAtP_eq (i : Nat) : mergeAt' i = (do
    let t ← get
    let (some (sa, na, pw), some (sb, nb, _)) := ((pendingOf t)[i]?, (pendingOf t)[i + 1]?) | unsupported "internal:list.sort.pending"
    set (SortSt.mk' (kindOf t) (arrOf t) (((pendingOf t).setIfInBounds i (sa, na + nb, pw)).eraseIdxIfInBounds (i + 1)) (gallopOf t) (failedOf t))
    let some k ← gallopP false (← elem' (arrOf t) sb) (arrOf t) sa na 0 | return false
    let (sa, na) := (sa + k, na - k)
    if na == 0 then return true
    let some nb ← gallopP true (← elem' (arrOf t) (sa + na - 1)) (arrOf t) sb nb (nb - 1) | return false
    if nb == 0 then return true
    let x := (arrOf t).extract sa sb
    let y := (arrOf t).extract sb (sb + nb)
    let mm ← if na ≤ nb then lowP x y else highP x y
    modify fun t => setArr t (mm.toList.zipIdx.foldl (fun a (p, j) => a.setIfInBounds (sa + j) p) (arrOf t))
    return (failedOf (← get)).isNone) := rfl
section
variable {prog : Program} {w : World} {A : Around} {E : Value → Shared → Prop} {s : Shared} {κ : SortKind} {a₀ : Array Keyed} {rk : Keyed → Int}
/-- the array behind a merging: T, then the sorted, then D -/
theorem merged_ok {a a' : Array Keyed} {T AB AB' D : List Keyed} {lo hi : Nat} (e : a.toList = T ++ (AB ++ D)) (e' : a'.toList = T ++ (AB' ++ D)) (hp : AB'.Perm AB) (hs : Srt rk AB') (hT : T.length = lo) (hA : AB.length = hi - lo) (hlo : lo ≤ hi) :
    a'.Perm a ∧ Seg rk a' lo hi ∧ ∀ k, (k < lo ∨ hi ≤ k) → a'[k]? = a[k]? := by
  have l1 : AB'.length = hi - lo := hp.length_eq.trans hA
  have sz : hi ≤ a'.size := by
    have := congrArg List.length e'
    simp at this
    omega
  refine ⟨Array.perm_iff_toList_perm.mpr ?_, srt_seg sz ?_, fun k hk => ?_⟩
  · rw [e, e']
    exact (hp.append_right D).append_left T
  · rw [e', ← hT, List.drop_left, hT, ← l1, List.take_left]
    exact hs
  · rw [← Array.getElem?_toList, ← Array.getElem?_toList, e, e']
    rcases hk with hk | hk
    · rw [List.getElem?_append_left (by omega), List.getElem?_append_left (by omega)]
    · rw [List.getElem?_append_right (by omega), List.getElem?_append_right (by omega), List.getElem?_append_right (by omega), List.getElem?_append_right (by omega), l1, hA]
theorem wpS_mergeAt {st : SortSt} {i sa na pa sb nb pb : Nat} {Q : Bool → SortSt → Prop} (C : Cmp prog w A E s κ a₀ rk) (hB : SB κ a₀ st)
    (p1 : (pendingOf st)[i]? = some (sa, na, pa)) (p2 : (pendingOf st)[i + 1]? = some (sb, nb, pb)) (es : sb = sa + na) (hz : sb + nb ≤ a₀.size) (h1 : 1 ≤ na) (h2 : 1 ≤ nb) (s1 : Seg rk (arrOf st) sa sb) (s2 : Seg rk (arrOf st) sb (sb + nb))
    (h : ∀ st', SB κ a₀ st' → pendingOf st' = ((pendingOf st).setIfInBounds i (sa, na + nb, pa)).eraseIdxIfInBounds (i + 1) → Seg rk (arrOf st') sa (sb + nb) → (∀ k, (k < sa ∨ sb + nb ≤ k) → (arrOf st')[k]? = (arrOf st)[k]?) → Q true st') :
    wpS (model prog w) A E s (mergeAt' i) Q st := by
  rw [mergeAtP_eq]
  refine wpS_bind (wpS_get ?_)
  rw [p1, p2]
  dsimp only
  refine wpS_bind (wpS_set ?_)
  have hsz : (arrOf st).size = a₀.size := hB.size
  have mem : ∀ x ∈ (arrOf st).toList, x ∈ a₀.toList := fun x hx => (Array.perm_iff_toList_perm.mp hB.perm).mem_iff.mp hx
  obtain ⟨b0, e0, f0, g0⟩ := getA (x := arrOf st) (i := sb) (by omega)
  have S1 := seg_srt (by omega) s1
  have S2 := seg_srt (by omega) s2
  rw [show sb - sa = na by omega] at S1
  rw [show sb + nb - sb = nb by omega] at S2
  have sz : (arrOf st).toList.length = a₀.size := by simpa using hsz
  have b0B : ∀ v ∈ ((arrOf st).toList.drop sb).take nb, rk b0 ≤ rk v := by
    obtain ⟨nb', rfl⟩ : ∃ n, nb = n + 1 := ⟨nb - 1, by omega⟩
    have hlt : sb < (arrOf st).toList.length := by omega
    rw [List.drop_eq_getElem_cons hlt, List.take_succ_cons] at S2 ⊢
    rw [List.getElem?_eq_getElem hlt] at f0
    cases f0
    intro v hv
    rcases List.mem_cons.mp hv with rfl | hv
    · exact Int.le_refl _
    · exact (List.pairwise_cons.mp S2).1 v hv
  refine wpS_bind (wpS_elem e0 ?_)
  refine wpS_bind (wpS_galR C hB.kind (mem b0 g0) mem S1 (by omega) (by omega) fun k k1 k2 k3 => ?_)
  dsimp only
  by_cases c1 : (na - k == 0) = true
  · rw [if_pos c1]
    have ek : k = na := by have := beq_iff_eq.mp c1; omega
    subst ek
    refine wpS_pure (h _ ⟨hB.perm, hB.kind, hB.failed⟩ rfl ?_ fun _ _ => rfl)
    refine srt_seg (by rw [show (arrOf (SortSt.mk' (kindOf st) (arrOf st) (((pendingOf st).setIfInBounds i (sa, k + nb, pa)).eraseIdxIfInBounds (i + 1)) (gallopOf st) (failedOf st))) = arrOf st from rfl]; omega) ?_
    show Srt rk (((arrOf st).toList.drop sa).take (sb + nb - sa))
    rw [show sb + nb - sa = k + nb by omega, List.take_add, List.drop_drop, ← es]
    exact S1.app S2 fun u hu v hv => Int.le_trans (k2 u hu) (b0B v hv)
  rw [if_neg c1]
  have hk : k < na := by
    have : ¬ na - k = 0 := fun z => c1 (beq_iff_eq.mpr z)
    omega
  obtain ⟨a1, e1, f1, g1⟩ := getA (x := arrOf st) (i := sa + k + (na - k) - 1) (by omega)
  have fa1 : (arrOf st).toList[sb - 1]? = some a1 := by rw [← f1]; congr 1; omega
  have lastA : ∀ v ∈ ((arrOf st).toList.drop sa).take na, rk v ≤ rk a1 := fun v hv => by
    obtain ⟨t, t1, t2⟩ := take_get hv
    rw [List.getElem?_drop] at t2
    have := s1 (sa + t) (sb - 1) (by omega) (by omega) (by omega)
    rwa [R_at (show (arrOf st)[sa + t]? = some v by simpa using t2), R_at (show (arrOf st)[sb - 1]? = some a1 by simpa using fa1)] at this
  refine wpS_bind (wpS_elem e1 ?_)
  refine wpS_bind (wpS_galL C hB.kind (mem a1 g1) mem S2 (by omega) (by omega) fun m m1 m2 m3 => ?_)
  dsimp only
  have hiB : ∀ v ∈ ((arrOf st).toList.drop (sb + m)).take (nb - m), rk a1 ≤ rk v := fun v hv => by
    obtain ⟨t, t1, t2⟩ := take_get hv
    rw [List.getElem?_drop] at t2
    exact m3 (m + t) v (by omega) (by omega) (by rw [← t2]; congr 1; omega)
  by_cases c2 : (m == 0) = true
  · rw [if_pos c2]
    have em : m = 0 := beq_iff_eq.mp c2
    subst em
    refine wpS_pure (h _ ⟨hB.perm, hB.kind, hB.failed⟩ rfl ?_ fun _ _ => rfl)
    refine srt_seg (by show sb + nb ≤ (arrOf st).size; omega) ?_
    show Srt rk (((arrOf st).toList.drop sa).take (sb + nb - sa))
    rw [show sb + nb - sa = na + nb by omega, List.take_add, List.drop_drop, ← es]
    exact S1.app S2 fun u hu v hv => Int.le_trans (lastA u hu) (hiB v hv)
  rw [if_neg c2]
  have hm : 1 ≤ m := by
    have : ¬ m = 0 := fun z => c2 (beq_iff_eq.mpr z)
    omega
  -- the lists
  have xl : ((arrOf st).extract (sa + k) sb).toList = (((arrOf st).toList.drop sa).take na).drop k := by
    rw [ext_mid, List.drop_take, List.drop_drop]; congr 1; omega
  have yl : ((arrOf st).extract sb (sb + m)).toList = (((arrOf st).toList.drop sb).take nb).take m := by
    rw [ext_mid, List.take_take]; congr 1; omega
  have dec : (arrOf st).toList = (arrOf st).toList.take sa ++ ((((arrOf st).toList.drop sa).take na ++ ((arrOf st).toList.drop sb).take nb) ++ (arrOf st).toList.drop (sb + nb)) := by
    rw [List.append_assoc, dd _ sb nb, List.take_append_drop]
    rw [show (arrOf st).toList.drop sb = ((arrOf st).toList.drop sa).drop na by rw [List.drop_drop, es], List.take_append_drop, List.take_append_drop]
  have post : ∀ (r : Array Keyed) (st' : SortSt), Whole rk ((arrOf st).extract (sa + k) sb).toList ((arrOf st).extract sb (sb + m)).toList r →
      Sg (SortSt.mk' (kindOf st) (arrOf st) (((pendingOf st).setIfInBounds i (sa, na + nb, pa)).eraseIdxIfInBounds (i + 1)) (gallopOf st) (failedOf st)) st' →
      Q true (setArr st' (r.toList.zipIdx.foldl (fun a (x : Keyed × Nat) => match x with | (p, j) => a.setIfInBounds (sa + k + j) p) (arrOf st'))) := by
    intro r st' hW hS
    have arr : arrOf st' = arrOf st := hS.arr
    obtain ⟨wp, ws⟩ := hW
    rw [xl, yl] at wp
    have rl : r.toList.length = (na - k) + m := by
      rw [wp.length_eq]; simp; omega
    have e' : (r.toList.zipIdx.foldl (fun a (x : Keyed × Nat) => match x with | (p, j) => a.setIfInBounds (sa + k + j) p) (arrOf st)).toList =
        (arrOf st).toList.take sa ++ (((((arrOf st).toList.drop sa).take na).take k ++ (r.toList ++ (((arrOf st).toList.drop sb).take nb).drop m)) ++ (arrOf st).toList.drop (sb + nb)) := by
      rw [put_at (sa + k) r.toList (arrOf st) 0 (by rw [rl]; omega), rl]
      rw [show sa + k + 0 = sa + k by omega, List.take_add, List.take_take, Nat.min_eq_left k1, List.append_assoc, List.append_assoc, List.append_assoc]
      congr 3
      rw [List.drop_take, List.drop_drop, show sa + k + (na - k + m) = sb + m by omega]
      rw [show sb + nb = (sb + m) + (nb - m) by omega, dd _ (sb + m) (nb - m), List.take_append_drop]
    have hsub : ∀ u ∈ r.toList, u ∈ (((arrOf st).toList.drop sa).take na).drop k ∨ u ∈ (((arrOf st).toList.drop sb).take nb).take m := fun u hu => List.mem_append.mp (wp.mem_iff.mp hu)
    have hperm : ((((arrOf st).toList.drop sa).take na).take k ++ (r.toList ++ (((arrOf st).toList.drop sb).take nb).drop m)).Perm (((arrOf st).toList.drop sa).take na ++ ((arrOf st).toList.drop sb).take nb) := by
      have e1 : ((arrOf st).toList.drop sa).take na = (((arrOf st).toList.drop sa).take na).take k ++ (((arrOf st).toList.drop sa).take na).drop k := (List.take_append_drop k _).symm
      have e2 : ((arrOf st).toList.drop sb).take nb = (((arrOf st).toList.drop sb).take nb).take m ++ (((arrOf st).toList.drop sb).take nb).drop m := (List.take_append_drop m _).symm
      conv => rhs; rw [e1, e2]
      rw [List.append_assoc]
      refine List.Perm.append_left _ ?_
      rw [← List.append_assoc]
      exact wp.append_right _
    have hsrt : Srt rk ((((arrOf st).toList.drop sa).take na).take k ++ (r.toList ++ (((arrOf st).toList.drop sb).take nb).drop m)) := by
      refine S1.take.app (ws.app S2.drop fun u hu v hv => ?_) fun u hu v hv => ?_
      · have hv' : v ∈ ((arrOf st).toList.drop (sb + m)).take (nb - m) := by rwa [List.drop_take, List.drop_drop] at hv
        rcases hsub u hu with z | z
        · exact Int.le_trans (lastA u (List.mem_of_mem_drop z)) (hiB v hv')
        · exact Int.le_trans (Int.le_of_lt (m2 u (by rwa [List.take_take, Nat.min_eq_left m1] at z))) (hiB v hv')
      · have hu' : rk u ≤ rk b0 := k2 u (by rwa [List.take_take, Nat.min_eq_left k1] at hu)
        rcases List.mem_append.mp hv with z | z
        · rcases hsub v z with z | z
          · have e1 : ((arrOf st).toList.drop sa).take na = (((arrOf st).toList.drop sa).take na).take k ++ (((arrOf st).toList.drop sa).take na).drop k := (List.take_append_drop k _).symm
            rw [e1] at S1
            exact (List.pairwise_append.mp S1).2.2 u hu v z
          · exact Int.le_trans hu' (b0B v (List.mem_of_mem_take z))
        · exact Int.le_trans hu' (b0B v (List.mem_of_mem_drop z))
    obtain ⟨g1, g2, g3⟩ := merged_ok (rk := rk) (lo := sa) (hi := sb + nb) dec e' hperm hsrt (by simp; omega) (by simp; omega) (by omega)
    refine h _ ⟨?_, hS.kind.trans hB.kind, hS.failed.trans hB.failed⟩ (hS.pend) ?_ ?_
    · show (r.toList.zipIdx.foldl _ (arrOf st')).Perm a₀
      rw [arr]; exact g1.trans hB.perm
    · show Seg rk (r.toList.zipIdx.foldl _ (arrOf st')) _ _
      rw [arr]; exact g2
    · show ∀ k', _ → (r.toList.zipIdx.foldl _ (arrOf st'))[k']? = _
      rw [arr]; exact g3
  have fin : ∀ (r : Array Keyed) (st' : SortSt), Whole rk ((arrOf st).extract (sa + k) sb).toList ((arrOf st).extract sb (sb + m)).toList r →
      Sg (SortSt.mk' (kindOf st) (arrOf st) (((pendingOf st).setIfInBounds i (sa, na + nb, pa)).eraseIdxIfInBounds (i + 1)) (gallopOf st) (failedOf st)) st' → failedOf st' = none :=
    fun r st' _ hS => hS.failed.trans hB.failed
  have mx : ∀ p ∈ ((arrOf st).extract (sa + k) sb).toList, p ∈ a₀.toList := fun p hp => by
    rw [xl] at hp; exact mem p (List.mem_of_mem_drop (List.mem_of_mem_take (List.mem_of_mem_drop hp)))
  have my : ∀ p ∈ ((arrOf st).extract sb (sb + m)).toList, p ∈ a₀.toList := fun p hp => by
    rw [yl] at hp; exact mem p (List.mem_of_mem_drop (List.mem_of_mem_take (List.mem_of_mem_take hp)))
  have hx : 1 ≤ ((arrOf st).extract (sa + k) sb).size := by simp; omega
  have hy : 1 ≤ ((arrOf st).extract sb (sb + m)).size := by simp; omega
  have hf : ∀ p, ((arrOf st).extract sb (sb + m)).toList[0]? = some p → ∀ q ∈ ((arrOf st).extract (sa + k) sb).toList, rk p ≤ rk q := fun p hp q hq => by
    have : p = b0 := by
      rw [yl, List.getElem?_take_of_lt (by omega), List.getElem?_take_of_lt (by omega), List.getElem?_drop] at hp
      simp only [Nat.add_zero] at hp
      rw [f0] at hp
      exact (Option.some.inj hp).symm
    subst this
    rw [xl] at hq
    obtain ⟨t, t1, t2⟩ := drop_get hq
    have tl : t < na := by
      have := (List.getElem?_eq_some_iff.mp t2).1
      simp at this; omega
    rw [List.getElem?_take_of_lt tl, List.getElem?_drop] at t2
    exact Int.le_of_lt (k3 t q t1 tl t2)
  have hl : ∀ p ∈ ((arrOf st).extract sb (sb + m)).toList, ∀ q, ((arrOf st).extract (sa + k) sb).toList[((arrOf st).extract (sa + k) sb).size - 1]? = some q → rk p ≤ rk q := fun p hp q hq => by
    have sx : ((arrOf st).extract (sa + k) sb).size = na - k := by simp; omega
    have : q = a1 := by
      rw [sx, xl, List.getElem?_drop, List.getElem?_take_of_lt (by omega), List.getElem?_drop, show sa + (k + (na - k - 1)) = sb - 1 by omega, fa1] at hq
      exact (Option.some.inj hq).symm
    subst this
    rw [yl] at hp
    exact Int.le_of_lt (m2 p (by rwa [List.take_take, Nat.min_eq_left m1] at hp))
  have sx : Srt rk ((arrOf st).extract (sa + k) sb).toList := by rw [xl]; exact S1.drop
  have sy : Srt rk ((arrOf st).extract sb (sb + m)).toList := by rw [yl]; exact S2.take
  by_cases c3 : na - k ≤ m
  · rw [if_pos c3]
    refine wpS_bind (wpS_low C hB.kind mx my sx sy hx hy hf hl fun r st' hW hS => ?_)
    refine wpS_bind (wpS_modify (wpS_bind (wpS_get (wpS_pure ?_))))
    have := post r st' hW hS
    rw [show failedOf (setArr st' (r.toList.zipIdx.foldl (fun a (x : Keyed × Nat) => match x with | (p, j) => a.setIfInBounds (sa + k + j) p) (arrOf st'))) = none from fin r st' hW hS]
    exact this
  · rw [if_neg c3]
    refine wpS_bind (wpS_high C hB.kind mx my sx sy hx hy hf hl fun r st' hW hS => ?_)
    refine wpS_bind (wpS_modify (wpS_bind (wpS_get (wpS_pure ?_))))
    have := post r st' hW hS
    rw [show failedOf (setArr st' (r.toList.zipIdx.foldl (fun a (x : Keyed × Nat) => match x with | (p, j) => a.setIfInBounds (sa + k + j) p) (arrOf st'))) = none from fin r st' hW hS]
    exact this
end
end Sr

set_option maxHeartbeats 4000000
/-! ### sorts of any size: the whole -/
namespace Sr
open PySem PyProof.Rows
abbrev RunT := Nat × Nat × Nat
/-- runs, one behind the other, each in order -/
def Runs (rk : Keyed → Int) (xs : Array Keyed) : Nat → List RunT → Nat → Prop
  | lo, [], hi => lo = hi
  | lo, (a, n, _) :: r, hi => a = lo ∧ 1 ≤ n ∧ Seg rk xs lo (lo + n) ∧ Runs rk xs (lo + n) r hi
theorem Runs.le {rk : Keyed → Int} {xs : Array Keyed} : ∀ {l : List RunT} {lo hi : Nat}, Runs rk xs lo l hi → lo + l.length ≤ hi
  | [], lo, hi, h => by cases h; simp
  | (a, n, p) :: r, lo, hi, h => by
    obtain ⟨_, h1, _, h2⟩ := h
    have := h2.le
    simp; omega
theorem Runs.app {rk : Keyed → Int} {xs : Array Keyed} : ∀ {u v : List RunT} {lo hi : Nat}, Runs rk xs lo (u ++ v) hi ↔ ∃ m, Runs rk xs lo u m ∧ Runs rk xs m v hi
  | [], v, lo, hi => ⟨fun h => ⟨lo, rfl, h⟩, fun ⟨m, h, k⟩ => by cases h; exact k⟩
  | (a, n, p) :: u, v, lo, hi => by
    constructor
    · rintro ⟨h1, h2, h3, h4⟩
      obtain ⟨m, k1, k2⟩ := Runs.app.mp h4
      exact ⟨m, ⟨h1, h2, h3, k1⟩, k2⟩
    · rintro ⟨m, ⟨h1, h2, h3, k1⟩, k2⟩
      exact ⟨h1, h2, h3, Runs.app.mpr ⟨m, k1, k2⟩⟩
theorem Seg.like {rk : Keyed → Int} {xs ys : Array Keyed} {lo hi : Nat} (h : Seg rk xs lo hi) (e : ∀ k, lo ≤ k → k < hi → ys[k]? = xs[k]?) : Seg rk ys lo hi := fun i j hl hij hj => by
  rw [R_congr (e i hl (by omega)), R_congr (e j (by omega) hj)]
  exact h i j hl hij hj
theorem Runs.like {rk : Keyed → Int} {xs ys : Array Keyed} : ∀ {l : List RunT} {lo hi : Nat}, Runs rk xs lo l hi → (∀ k, lo ≤ k → k < hi → ys[k]? = xs[k]?) → Runs rk ys lo l hi
  | [], _, _, h, _ => h
  | (a, n, p) :: r, lo, hi, ⟨h1, h2, h3, h4⟩, e => by
    have := h4.le
    exact ⟨h1, h2, h3.like fun k k1 k2 => e k k1 (by omega), h4.like fun k k1 k2 => e k (by omega) k2⟩
theorem Runs.power {rk : Keyed → Int} {xs : Array Keyed} {pw : Nat} : ∀ {l : List RunT} {i lo hi : Nat}, Runs rk xs lo l hi → Runs rk xs lo (l.modify i fun (a, n, _) => (a, n, pw)) hi
  | [], _, _, _, h => by rw [List.modify_nil]; exact h
  | (a, n, p) :: r, 0, lo, hi, h => by rw [List.modify_zero_cons]; exact h
  | (a, n, p) :: r, i + 1, lo, hi, ⟨h1, h2, h3, h4⟩ => by rw [List.modify_succ_cons]; exact ⟨h1, h2, h3, h4.power⟩
section
variable {prog : Program} {w : World} {A : Around} {E : Value → Shared → Prop} {s : Shared} {κ : SortKind} {a₀ : Array Keyed} {rk : Keyed → Int}
theorem wpS_mergeRuns {st : SortSt} {i hi : Nat} {Q : Bool → SortSt → Prop} (C : Cmp prog w A E s κ a₀ rk) (hB : SB κ a₀ st) (hR : Runs rk (arrOf st) 0 (pendingOf st).toList hi) (hz : hi ≤ a₀.size) (hi' : i + 1 < (pendingOf st).size)
    (h : ∀ st', SB κ a₀ st' → Runs rk (arrOf st') 0 (pendingOf st').toList hi → (pendingOf st').size + 1 = (pendingOf st).size → (∀ k, hi ≤ k → (arrOf st')[k]? = (arrOf st)[k]?) → Q true st') :
    wpS (model prog w) A E s (mergeAt' i) Q st := by
  obtain ⟨u, v, x, y, hl, hd⟩ : ∃ (u v : List RunT) (x y : RunT), u.length = i ∧ (pendingOf st).toList = u ++ x :: y :: v := by
    have h1 : i < (pendingOf st).toList.length := by simp; omega
    have h2 : i + 1 < (pendingOf st).toList.length := by simp; omega
    refine ⟨(pendingOf st).toList.take i, (pendingOf st).toList.drop (i + 2), (pendingOf st).toList[i], (pendingOf st).toList[i + 1], by simp; omega, ?_⟩
    rw [← List.drop_eq_getElem_cons h2, ← List.drop_eq_getElem_cons h1, List.take_append_drop]
  obtain ⟨sa, na, pa⟩ := x
  obtain ⟨sb, nb, pb⟩ := y
  rw [hd] at hR
  obtain ⟨m, r1, ⟨rfl, a1, a2, ⟨rfl, b1, b2, r2⟩⟩⟩ := Runs.app.mp hR
  have le2 := r2.le
  have g1 : (pendingOf st)[i]? = some (sa, na, pa) := by
    rw [← Array.getElem?_toList, hd, ← hl, List.getElem?_append_right (Nat.le_refl _), Nat.sub_self]; rfl
  have g2 : (pendingOf st)[i + 1]? = some (sa + na, nb, pb) := by
    rw [← Array.getElem?_toList, hd, ← hl, List.getElem?_append_right (by omega), show u.length + 1 - u.length = 1 by omega]; rfl
  refine wpS_mergeAt C hB g1 g2 rfl (by omega) a1 b1 a2 b2 fun st' hB' hp hs hk => ?_
  have e : (pendingOf st').toList = u ++ (sa, na + nb, pa) :: v := by
    rw [hp, Array.toList_eraseIdxIfInBounds, Array.toList_setIfInBounds, hd, ← hl]
    rw [List.set_append_right _ _ (Nat.le_refl _), Nat.sub_self, List.eraseIdx_append_of_length_le (by omega), show u.length + 1 - u.length = 1 by omega]
    rfl
  refine h st' hB' ?_ ?_ fun k hk' => hk k (.inr (by omega))
  · rw [e]
    refine Runs.app.mpr ⟨sa, r1.like fun k _ k2 => hk k (.inl k2), rfl, by omega, ?_, ?_⟩
    · rw [show sa + (na + nb) = sa + na + nb by omega]; exact hs
    · rw [show sa + (na + nb) = sa + na + nb by omega]; exact r2.like fun k k1 _ => hk k (.inr k1)
  · have z1 : (pendingOf st').size = (pendingOf st').toList.length := by simp
    have z2 : (pendingOf st).size = (pendingOf st).toList.length := by simp
    rw [z1, z2, e, hd]
    simp; omega
theorem ite_pre {c : Prop} [Decidable c] {a n : Nat} (h : a + 1 < n) : (if c then a - 1 else a) + 1 < n := by split <;> omega
theorem minRun_pos : ∀ (f n r : Nat), 1 ≤ n → 1 ≤ minRun' f n r
  | 0, n, r, h => by show 1 ≤ n + r; omega
  | f + 1, n, r, h => by
    rw [minRun'_succ]
    split
    · omega
    · exact minRun_pos f _ _ (by omega)
theorem wpS_sortAny {st : SortSt} {Q : Unit → SortSt → Prop} (C : Cmp prog w A E s κ a₀ rk) (hB : SB κ a₀ st) (hp : pendingOf st = #[]) (h1 : 1 ≤ a₀.size)
    (h : ∀ st', SB κ a₀ st' → Seg rk (arrOf st') 0 a₀.size → Q () st') : wpS (model prog w) A E s sortRuns' Q st := by
  rw [sortRuns'_eq]
  refine wpS_bind (wpS_get ?_)
  dsimp only
  have mp := minRun_pos a₀.size a₀.size 0 h1
  simp only [hB.size]
  generalize minRun' a₀.size a₀.size 0 = mr at mp ⊢
  refine wpS_bind (wpS_mono (wpS_forRange
    (I := fun x c st' => ∃ lo, c = (none, lo) ∧ SB κ a₀ st' ∧ Runs rk (arrOf st') 0 (pendingOf st').toList lo ∧ lo ≤ a₀.size ∧ (x ≤ lo ∨ lo = a₀.size))
    (Q := fun c st' => c = (none, a₀.size) ∧ SB κ a₀ st' ∧ Runs rk (arrOf st') 0 (pendingOf st').toList a₀.size) ?step ?fin ⟨0, rfl, hB, by rw [hp]; rfl, by omega, by omega⟩) ?post)
  case fin =>
    rintro c st' ⟨lo, rfl, hB', hR, hlo, hx⟩
    have : lo = a₀.size := by omega
    subst this
    exact ⟨rfl, hB', hR⟩
  case step =>
    rintro x c st' _ hx ⟨lo, rfl, hB', hR, hlo, hx'⟩
    dsimp only
    by_cases hge : lo ≥ a₀.size
    · rw [if_pos hge]
      have : lo = a₀.size := by omega
      subst this
      exact wpS_pure ⟨rfl, hB', hR⟩
    rw [if_neg hge]
    refine wpS_bind (wpS_count (st₀ := st') (lo := lo) C (by omega) (by omega) ⟨hB', Like.refl, rfl⟩ fun n st2 hK2 n1 n2 hs2 => ?_)
    dsimp only
    have keep : ∀ st3, Keep κ a₀ lo st' st3 → Runs rk (arrOf st3) 0 (pendingOf st3).toList lo := fun st3 hK => by
      rw [hK.pend]
      exact hR.like fun k _ k2 => hK.like k k2
    by_cases hlt : n < mr
    rw [if_pos hlt]
    refine wpS_bind (wpS_lift (wpAny_rule ⟨rfl, ?_⟩))
    refine wpS_bind (wpS_insert (st₀ := st') (lo := lo) C (by omega) (by omega) hK2 hs2 fun st3 hK3 hs3 => ?_)
    simp only [Bool.not_true, Bool.false_eq_true, if_false]
    have nn1 : 1 ≤ min (a₀.size - lo) mr := by omega
    have nn2 : lo + min (a₀.size - lo) mr ≤ a₀.size := by omega
    generalize min (a₀.size - lo) mr = n' at hs3 nn1 nn2 ⊢
    have R3 := keep st3 hK3
    have B3 := hK3.toSB
    rotate_left
    rw [if_neg hlt]
    have nn2 : lo + n ≤ a₀.size := by omega
    have nn1 := n1
    have R3 := keep st2 hK2
    have B3 := hK2.toSB
    have hs3 := hs2
    revert hs2 hs3 R3 B3 nn1 nn2
    generalize st2 = st3
    generalize n = n'
    intro hs2 nn2 nn1 R3 B3 hs3
    all_goals
      refine wpS_bind (wpS_get ?_)
      cases hb : (pendingOf st3).back? with
      | none =>
        dsimp only
        refine wpS_bind (wpS_modify (wpS_pure ⟨lo + n', rfl, ⟨B3.perm, B3.kind, B3.failed⟩, ?_, nn2, .inl (by omega)⟩))
        show Runs rk (arrOf st3) 0 ((pendingOf st3).push (lo, n', 0)).toList (lo + n')
        rw [Array.toList_push]
        exact Runs.app.mpr ⟨lo, R3, rfl, nn1, hs3, rfl⟩
      | some t =>
        obtain ⟨s1, m1, q1⟩ := t
        dsimp only
        refine wpS_bind (wpS_mono (wpS_forRange
          (I := fun _ c st4 => c = (none, ()) ∧ SB κ a₀ st4 ∧ Runs rk (arrOf st4) 0 (pendingOf st4).toList lo ∧ Seg rk (arrOf st4) lo (lo + n'))
          (Q := fun c st4 => c = (none, ()) ∧ SB κ a₀ st4 ∧ Runs rk (arrOf st4) 0 (pendingOf st4).toList lo ∧ Seg rk (arrOf st4) lo (lo + n')) ?step2 (fun _ _ z => z) ⟨rfl, B3, R3, hs3⟩) ?post2)
        case post2 =>
          rintro c st4 ⟨rfl, B4, R4, hs4⟩
          dsimp only
          refine wpS_bind (wpS_modify (wpS_bind (wpS_modify (wpS_pure ⟨lo + n', rfl, ⟨B4.perm, B4.kind, B4.failed⟩, ?_, nn2, .inl (by omega)⟩))))
          show Runs rk (arrOf st4) 0 (((pendingOf st4).modify ((pendingOf st4).size - 1) _).push (lo, n', 0)).toList (lo + n')
          rw [Array.toList_push, Array.toList_modify]
          exact Runs.app.mpr ⟨lo, R4.power, rfl, nn1, hs4, rfl⟩
        case step2 =>
          rintro z c st4 _ hz ⟨rfl, B4, R4, hs4⟩
          refine wpS_bind (wpS_get ?_)
          by_cases hgt : (pendingOf st4).size > 1
          · simp only [if_pos hgt]
            rw [Array.getElem?_eq_getElem (show (pendingOf st4).size - 2 < (pendingOf st4).size by omega)]
            dsimp only
            split
            · exact wpS_pure ⟨rfl, B4, R4, hs4⟩
            · refine wpS_bind (wpS_mergeRuns C B4 R4 (by omega) (by omega) fun st5 B5 R5 _ hk => ?_)
              simp only [Bool.not_true, Bool.false_eq_true, if_false]
              exact wpS_pure ⟨rfl, B5, R5, hs4.like fun k k1 _ => hk k k1⟩
          · simp only [if_neg hgt]
            exact wpS_pure ⟨rfl, B4, R4, hs4⟩
  case post =>
    rintro c st' ⟨rfl, hB', hR⟩
    dsimp only
    refine wpS_bind (wpS_mono (wpS_forRange
      (I := fun x c st2 => c = (none, ()) ∧ SB κ a₀ st2 ∧ Runs rk (arrOf st2) 0 (pendingOf st2).toList a₀.size ∧ (pendingOf st2).size + x ≤ a₀.size + 1)
      (Q := fun c st2 => c = (none, ()) ∧ SB κ a₀ st2 ∧ Runs rk (arrOf st2) 0 (pendingOf st2).toList a₀.size ∧ (pendingOf st2).size ≤ 1) ?step3 ?fin3 ⟨rfl, hB', hR, by have := hR.le; simp at this; omega⟩) ?post3)
    case fin3 =>
      rintro c st2 ⟨rfl, B, R, hz⟩
      exact ⟨rfl, B, R, by omega⟩
    case step3 =>
      rintro x c st2 _ hx ⟨rfl, B, R, hz⟩
      refine wpS_bind (wpS_get ?_)
      by_cases hle : (pendingOf st2).size ≤ 1
      · rw [if_pos hle]
        exact wpS_pure ⟨rfl, B, R, hle⟩
      · rw [if_neg hle]
        refine wpS_bind (wpS_mergeRuns C B R (Nat.le_refl _) ?_ fun st3 B3 R3 e3 _ => ?_)
        · exact ite_pre (by omega)
        · simp only [Bool.not_true, Bool.false_eq_true, if_false]
          exact wpS_pure ⟨rfl, B3, R3, by omega⟩
    case post3 =>
      rintro c st2 ⟨rfl, B, R, hz⟩
      refine wpS_pure (h st2 B ?_)
      match e : (pendingOf st2).toList, R with
      | [], R => exact absurd R (by show ¬ 0 = a₀.size; omega)
      | [(a, n, p)], ⟨_, _, hs, hn⟩ =>
        have : 0 + n = a₀.size := hn
        rw [← this]; exact hs
      | _ :: _ :: _, _ =>
        have := congrArg List.length e
        simp at this
        omega
end
end Sr

set_option maxHeartbeats 4000000
/-! ### list.sort and sorted() of numbers, of any size -/
namespace Sr
open PySem PyProof.Rows
section
variable {prog : Program} {w : World} {A : Around} {E : Value → Shared → Prop} {s : Shared}
theorem cmp_ints {a₀ : Array Keyed} (h0 : IntKeys a₀) : Cmp prog w A E s oneType' a₀ (fun p => numOf p.1) := ⟨fun {x y st Q} hx hy hk h => by
  obtain ⟨n, t, e1⟩ := h0 x hx
  obtain ⟨m, u, e2⟩ := h0 y hy
  rw [lt'_eq]
  refine wpS_bind (wpS_get ?_)
  rw [hk, keyLt'_oneType, e1, e2]
  rw [e1, e2] at h
  exact wpS_bind (wpS_lift (wpAny_attempt (oneLt_int ⟨rfl, wpS_pure h⟩)))⟩
theorem sort_codeA {a : Addr} {vs : List Value} {ns : List Int} {n : Nat} {P : Fin → Shared → Prop} (ho : s.heap.get? a = some (seqObj "list" vs.toArray n))
    (hI : IntsAre vs ns) (hz : vs.length ≤ sizeLine)
    (h : ∀ (out : Array Value) (ns' : List Int), IntsAre out.toList ns' → ns'.Perm ns → ns'.Pairwise (· ≤ ·) → P (.done (.ret .none)) { s with heap := sortedHeap s.heap a vs out }) :
    wpAny (model prog w) A (Builtin.«list.sort» ⟨[.ref a], []⟩) P E s := by
  rw [list_sort_plain]
  have ha := Heap.lt_size ho
  have hsz : vs.toArray.size = vs.length := by simp
  refine wpAny_bind (listItems_at ho rfl (wpAny_bind (listUpdate_at ho rfl ?_ (by rw [hsz]; exact hz))))
  obtain ⟨e1, h1⟩ : ∃ e1, (s.heap.update a (Obj.mapSeq fun _ => #[])).get? a = some (seqObj "list" #[] e1) := ⟨_, get?_update_seq ho (fun _ => #[])⟩
  refine wpAny_bind (seqEpoch_at h1 rfl (wpAny_bind (wpAny_newTuple (wpAny_bind (wpAny_newList (wpAny_holding ?_))))))
  have h6 : (((s.heap.update a (Obj.mapSeq fun _ => #[])).push (seqObj "tuple" vs.toArray 0)).push (seqObj "list" #[] 0)).get? a = some (seqObj "list" #[] e1) := by
    rw [Heap.get?_push_ne _ _ _ (by rw [size_push', Heap.size_update]; exact Nat.ne_of_lt (Nat.lt_succ_of_lt ha)),
      Heap.get?_push_ne _ _ _ (by rw [Heap.size_update]; exact Nat.ne_of_lt ha)]
    exact h1
  show wpAny (model prog w) A _ P E { s with heap := ((s.heap.update a (Obj.mapSeq fun _ => #[])).push (seqObj "tuple" vs.toArray 0)).push (seqObj "list" #[] 0) }
  dsimp only
  have fin : ∀ st' : SortSt, (arrOf st').Perm (pairsOf vs) → SortedTo (arrOf st') (pairsOf vs).size → P (.done (.ret .none)) { s with heap := sortedHeap s.heap a vs ((arrOf st').map (·.2)) } := fun st' hp hs => by
    obtain ⟨ns', x1, x2, x3⟩ := sorted_out hI hp hs
    exact h _ ns' x1 x2 x3
  by_cases h2 : vs.toArray.size < 2
  · rw [if_pos h2, if_pos h2]
    refine wpAny_bind (wpAny_pure ?_)
    rw [StateT.run_pure]
    refine wpAny_bind (wpAny_pure ?_)
    dsimp only
    refine wpAny_bind (seqEpoch_at h6 rfl (wpAny_bind (listUpdate_at h6 rfl ?_ (hsz2 := by rw [Array.size_map]; show (pairsOf vs).size ≤ _; rw [pairsOf_size]; omega))))
    simp only [bne_self_eq_false, Bool.false_eq_true, if_false]
    refine wpAny_pure (fin (SortSt.mk' general' (vs.toArray.zip vs.toArray) #[] 7 none) (Array.Perm.refl _) fun i j hij hj => ?_)
    have : i = j := by rw [pairsOf_size] at hj; omega
    subst this; exact Int.le_refl _
  · rw [if_neg h2, if_neg h2]
    have kk : keyKind' vs.toArray = pure oneType' := by
      match vs, hsz, h2, hI with
      | [], _, h2, _ => simp at h2
      | [_], _, h2, _ => simp at h2
      | v1 :: v2 :: r, _, _, hI => exact keyKind_ints hI
    rw [kk]
    refine wpAny_bind (wpAny_pure ?_)
    refine wpAny_bind (wpAny_mono (wpS_sortAny (a₀ := pairsOf vs) (κ := oneType') (rk := fun p => numOf p.1) (st := SortSt.mk' oneType' (vs.toArray.zip vs.toArray) #[] 7 none)
      (Q := fun _ st' => (arrOf st').Perm (pairsOf vs) ∧ failedOf st' = none ∧ SortedTo (arrOf st') (pairsOf vs).size)
      (cmp_ints hI.intKeys) ⟨Array.Perm.refl _, rfl, rfl⟩ rfl (by rw [pairsOf_size]; omega) fun st' b hs => ⟨b.perm, b.failed, fun i j hij hj => hs i j (Nat.zero_le _) hij hj⟩) ?_ fun _ _ e => e)
    rintro ⟨⟨⟩, st'⟩ s' ⟨rfl, hp, hf, hs⟩
    dsimp only
    refine wpAny_bind (seqEpoch_at h6 rfl (wpAny_bind (listUpdate_at h6 rfl ?_ (hsz2 := by
      have z : ((arrOf st').map (·.2)).size = vs.length := by rw [Array.size_map, hp.size_eq, pairsOf_size]
      exact Nat.le_trans (Nat.le_of_eq z) (by omega)))))
    rw [hf]
    simp only [bne_self_eq_false, Bool.false_eq_true, if_false]
    exact wpAny_pure (fin st' hp hs)
end
end Sr
namespace L2
open PySem PySem.Spec PyProof.Rows PySem.W
theorem ints_vals : ∀ {ns : List Int} {us : List Value}, IntsAre us ns → Vals (ns.map V.int) us
  | _, _, .nil => .nil
  | _, _, .cons n t h => .cons ⟨t, rfl⟩ (ints_vals h)
section
variable {X : Cx}
/-- list.sort of numbers, as a call -/
theorem sort_intsA {prog : Program} {w : World} {A : Around} {E : Value → Shared → Prop} {s : Shared} {D : Addr} {vs : List Value} {ns : List Int} {n : Nat} {Q : Value → Shared → Prop} (ho : s.heap.get? D = some (seqObj "list" vs.toArray n)) (rv : Vals (ns.map V.int) vs) (hz : vs.length ≤ sizeLine)
    (h : ∀ (os : List Value) (ns' : List Int), Vals (ns'.map V.int) os → ns'.Perm ns → ns'.Pairwise (· ≤ ·) → Q .none { s with heap := sortedHeap s.heap D vs os.toArray }) : wpAny (model prog w) A (call (.builtin "list.sort") [.ref D]) Q E s := by
  refine wpAny_call_entry slot_list_sort ⟨_, ho, rfl⟩ entry_list_sort ?_ (args_list_sort _)
  refine Sr.sort_codeA ho (ints_are rv) hz fun out ns' a1 a2 a3 => ⟨.none, rfl, ?_⟩
  have := h out.toList ns' (ints_vals a1) a2 a3
  rwa [Array.toArray_toList] at this
end
end L2

set_option maxHeartbeats 4000000
/-! ### the table of a set: the places rise -/
namespace Sr
open PySem PyProof.Rows
def Up (xs : Array Nat) : Prop := xs.toList.Pairwise (· < ·)
theorem Up.lt {xs : Array Nat} (h : Up xs) {i j x y : Nat} (hij : i < j) (e1 : xs[i]? = some x) (e2 : xs[j]? = some y) : x < y := by
  rw [← Array.getElem?_toList] at e1 e2
  obtain ⟨h1, g1⟩ := List.getElem?_eq_some_iff.mp e1
  obtain ⟨h2, g2⟩ := List.getElem?_eq_some_iff.mp e2
  rw [← g1, ← g2]
  exact List.pairwise_iff_getElem.mp h i j h1 h2 hij
theorem below_go {xs : Array Nat} {j : Nat} (h : Up xs) : ∀ (f lo hi : Nat), lo ≤ hi → hi ≤ xs.size → hi - lo ≤ f → (∀ i x, i < lo → xs[i]? = some x → x < j) → (∀ i x, hi ≤ i → xs[i]? = some x → j ≤ x) →
    SetTable.below.go xs j f lo hi ≤ xs.size ∧ (∀ i x, i < SetTable.below.go xs j f lo hi → xs[i]? = some x → x < j) ∧ ∀ i x, SetTable.below.go xs j f lo hi ≤ i → xs[i]? = some x → j ≤ x
  | 0, lo, hi, h1, h2, h3, h4, h5 => by
    unfold SetTable.below.go
    have : lo = hi := by omega
    subst this
    exact ⟨h2, h4, h5⟩
  | f + 1, lo, hi, h1, h2, h3, h4, h5 => by
    unfold SetTable.below.go
    by_cases c : lo < hi
    · rw [if_pos c]
      have hm : (lo + hi) / 2 < xs.size := by omega
      have em : xs[(lo + hi) / 2]? = some xs[(lo + hi) / 2] := Array.getElem?_eq_getElem hm
      have eg : xs.getD ((lo + hi) / 2) j = xs[(lo + hi) / 2] := by simp [Array.getD, hm]
      dsimp only
      rw [eg]
      by_cases d : xs[(lo + hi) / 2] < j
      · rw [if_pos d]
        refine below_go h f _ _ (by omega) h2 (by omega) (fun i x hi' e => ?_) h5
        rcases Nat.lt_or_ge i ((lo + hi) / 2) with z | z
        · exact Nat.lt_trans (h.lt z e em) d
        · have : i = (lo + hi) / 2 := by omega
          subst this
          rw [em] at e; cases e; exact d
      · rw [if_neg d]
        refine below_go h f _ _ (by omega) (by omega) (by omega) h4 fun i x hi' e => ?_
        rcases Nat.lt_or_ge ((lo + hi) / 2) i with z | z
        · exact Nat.le_trans (Nat.not_lt.mp d) (Nat.le_of_lt (h.lt z em e))
        · have : i = (lo + hi) / 2 := by omega
          subst this
          rw [em] at e; cases e; exact Nat.not_lt.mp d
    · rw [if_neg c]
      have : lo = hi := by omega
      subst this
      exact ⟨h2, h4, h5⟩
theorem below_spec {xs : Array Nat} {j : Nat} (h : Up xs) : SetTable.below xs j ≤ xs.size ∧ (∀ i x, i < SetTable.below xs j → xs[i]? = some x → x < j) ∧ ∀ i x, SetTable.below xs j ≤ i → xs[i]? = some x → j ≤ x :=
  below_go h xs.size 0 xs.size (Nat.zero_le _) (Nat.le_refl _) (by omega) (fun i x hi => absurd hi (Nat.not_lt_zero _)) fun i x hi e => by
    have := (Array.getElem?_eq_some_iff.mp e).1
    omega
/-- no element stands at the place j -/
def NL (t : SetTable) (j : Nat) : Prop := (t.place[SetTable.below t.place j]? == some j) = false
theorem up_put {t : SetTable} {j : Nat} (h : Up t.place) (n : NL t j) : Up (t.put j).1.place := by
  show Up (SetTable.insertAt t.place (SetTable.below t.place j) j)
  obtain ⟨b1, b2, b3⟩ := below_spec (j := j) h
  unfold Up SetTable.insertAt
  rw [Array.toList_append, Array.toList_push, ext_low, ext_all]
  have hd : (t.place.toList.drop (SetTable.below t.place j)).Pairwise (· < ·) := h.sublist (List.drop_sublist _ _)
  have ht : (t.place.toList.take (SetTable.below t.place j)).Pairwise (· < ·) := h.sublist (List.take_sublist _ _)
  have lo : ∀ x ∈ t.place.toList.take (SetTable.below t.place j), x < j := fun x hx => by
    obtain ⟨i, hi, e⟩ := List.getElem_of_mem hx
    have hi' : i < SetTable.below t.place j := by simp at hi; omega
    have e2 := List.getElem?_eq_getElem hi
    rw [List.getElem?_take_of_lt hi', e] at e2
    exact b2 i x hi' (by rw [← Array.getElem?_toList]; exact e2)
  have hi : ∀ x ∈ t.place.toList.drop (SetTable.below t.place j), j < x := fun x hx => by
    obtain ⟨i, hi, e⟩ := List.getElem_of_mem hx
    have e2 := List.getElem?_eq_getElem hi
    rw [List.getElem?_drop, e] at e2
    have e3 : t.place[SetTable.below t.place j + i]? = some x := by rw [← Array.getElem?_toList]; exact e2
    have ge := b3 _ x (Nat.le_add_right _ _) e3
    rcases Nat.eq_or_lt_of_le ge with z | z
    · exfalso
      subst z
      rcases Nat.eq_or_lt_of_le (Nat.zero_le i) with w | w
      · subst w
        unfold NL at n
        rw [Nat.add_zero] at e3
        rw [e3] at n
        simp at n
      · have hz : SetTable.below t.place j < t.place.size := by
          have := (Array.getElem?_eq_some_iff.mp e3).1
          omega
        have l := h.lt (show SetTable.below t.place j < SetTable.below t.place j + i by omega) (Array.getElem?_eq_getElem hz) e3
        have g := b3 _ _ (Nat.le_refl _) (Array.getElem?_eq_getElem hz)
        omega
    · exact z
  refine List.pairwise_append.mpr ⟨List.pairwise_append.mpr ⟨ht, List.pairwise_singleton _ _, fun a ha b hb => ?_⟩, hd, fun a ha b hb => ?_⟩
  · cases List.mem_singleton.mp hb; exact lo a ha
  · rcases List.mem_append.mp ha with ha | ha
    · exact Nat.lt_trans (lo a ha) (hi b hb)
    · cases List.mem_singleton.mp ha; exact hi b hb
theorem adv_dummy (t : SetTable) (p : SetTable.Probe) : (t.advance p).dummy = p.dummy := by
  unfold SetTable.advance
  split <;> rfl
theorem slot_nl {t : SetTable} {j : Nat} (h : ∀ i, t.slot j ≠ .live i) : NL t j := by
  unfold NL
  unfold SetTable.slot at h
  dsimp only at h
  cases e : (t.place[SetTable.below t.place j]? == some j) with
  | false => rfl
  | true => rw [if_pos e] at h; exact absurd rfl (h _)
theorem probe_nl {t : SetTable} {ha : Nat → Int} {hv : Int} : ∀ (f : Nat) (p : SetTable.Probe) (j : Nat) (dm : Option Nat), (∀ d, p.dummy = some d → NL t d) → SetTable.probe.go t ha hv f p = some (.empty j dm) → NL t j ∧ ∀ d, dm = some d → NL t d
  | 0, p, j, dm, _, e => by unfold SetTable.probe.go at e; cases e
  | f + 1, p, j, dm, hp, e => by
    unfold SetTable.probe.go at e
    cases z : t.slot p.j with
    | empty =>
      rw [z] at e
      cases e
      exact ⟨slot_nl (by rw [z]; intro i w; cases w), hp⟩
    | dummy =>
      rw [z] at e
      refine probe_nl f _ j dm (fun d hd => ?_) e
      rw [adv_dummy] at hd
      cases hd
      exact slot_nl (by rw [z]; intro i w; cases w)
    | live i =>
      rw [z] at e
      dsimp only at e
      split at e
      · cases e
      · exact probe_nl f _ j dm (fun d hd => hp d (by rwa [adv_dummy] at hd)) e
theorem free_nl {t : SetTable} {hv : Int} {j : Nat} {b : Bool} (e : t.freeSlot hv = some (j, b)) : NL t j := by
  unfold SetTable.freeSlot at e
  split at e
  · rename_i j' dm hp
    cases e
    obtain ⟨h1, h2⟩ := probe_nl _ _ j' dm (fun d hd => by cases hd) hp
    cases dm with
    | none => exact h1
    | some d => exact h2 d rfl
  · cases e
/-- what is kept of a table -/
def TI (led : Bool) (t : SetTable) : Prop := t.led = led ∧ (t.plain = true → Up t.place)
theorem TI.standIn {led : Bool} {t : SetTable} (h : TI led t) (n : Nat) : TI led (t.standIn n) := ⟨h.1, fun e => by cases (show false = true from e)⟩
theorem TI.off {led : Bool} {t : SetTable} (h : TI led t) : TI led { t with plain := false } := ⟨h.1, fun e => by cases (show false = true from e)⟩
theorem TI.fresh (led : Bool) : TI led (.fresh 0 0 led) := ⟨rfl, fun _ => List.Pairwise.nil⟩
theorem TI.layNew {led : Bool} {t : SetTable} (h : TI led t) (es : Array (Int × Value)) (hv : Int) (x : Value) : TI led (PySem.layNew t es hv x).2.1 := by
  unfold PySem.layNew
  split
  · rename_i j b e
    dsimp only
    unfold SetTable.orStandIn
    have k : TI led (t.put j).1 := ⟨h.1, fun hp => up_put (h.2 hp) (free_nl e)⟩
    split
    · exact k
    · exact k.standIn _
  · exact h.standIn _
theorem TI.relay {led : Bool} {t : SetTable} (h : TI led t) (es : Array (Int × Value)) (n : Nat) : TI led (PySem.relayAll t es n).2.1 := by
  unfold PySem.relayAll
  split
  · rename_i t' o e
    dsimp only
    split
    · dsimp only
      unfold SetTable.relaid SetTable.laid at e
      cases hl : SetTable.layClean (SetTable.sizeAbove n - 1) (es.map (·.1)) with
      | none => rw [hl] at e; cases e
      | some ow =>
        rw [hl] at e
        cases e
        refine ⟨h.1, fun _ => ?_⟩
        unfold Up
        simp only [List.pairwise_map]
        refine List.Pairwise.filterMap _ ?_ List.pairwise_lt_range
        intro a a' haa b hb b' hb'
        rw [Option.map_eq_some_iff] at hb hb'
        obtain ⟨_, _, rfl⟩ := hb
        obtain ⟨_, _, rfl⟩ := hb'
        exact haa
    · exact h.standIn _
  · exact h.standIn _
end Sr

set_option maxHeartbeats 4000000
/-! ### set(a list of numbers), with what its table keeps -/
namespace Sr
open PySem PyProof.Rows
section
variable {prog : Program} {w : World} {A : Around} {E : Value → Shared → Prop} {s : Shared}
/-- a set of numbers, its table led or not -/
def SetW (prog : Program) (w : World) (led : Bool) (a : Addr) (S : Int → Bool) (n : Nat) (h : Heap) : Prop :=
  ∃ o es ep t, h.get? a = some o ∧ o.ExactSet ∧ o.data = .set es ep t ∧ ElemsOf (intKind prog w) es.toList ∧ (∀ k, S k = true ↔ ∃ e ∈ es.toList, (intKind prog w).is k e.2 = true) ∧ es.size < scanBound ∧ t.fits es.size = true ∧ es.size = n ∧ TI led t
theorem SetW.at {led : Bool} {a : Addr} {S : Int → Bool} {n : Nat} {h h' : Heap} (x : SetW prog w led a S n h) (k : ∀ o, h.get? a = some o → h'.get? a = some o) : SetW prog w led a S n h' :=
  let ⟨o, es, ep, t, e1, r⟩ := x; ⟨o, es, ep, t, k o e1, r⟩
theorem SetW.congr {led : Bool} {a : Addr} {S S' : Int → Bool} {n n' : Nat} {h : Heap} (x : SetW prog w led a S n h) (e : ∀ k, S k = S' k) (en : n = n') : SetW prog w led a S' n' h := by
  have : S = S' := funext e
  subst this; subst en; exact x
/-- what is stored of a set -/
theorem setW_store {h : Heap} {a : Addr} {o : Obj} {es : Array (Int × Value)} {ep : Nat} {t : SetTable} {led : Bool} (ho : h.get? a = some o) (hex : o.ExactSet) (hd : o.data = .set es ep t)
    {es' : Array (Int × Value)} {t' : SetTable} {S' : Int → Bool} (hel : ElemsOf (intKind prog w) es'.toList) (hmem : ∀ k, S' k = true ↔ ∃ e ∈ es'.toList, (intKind prog w).is k e.2 = true) (hb : es'.size < scanBound) (hf : t'.fits es'.size = true) (ti : TI led t') :
    (h.update a (Obj.putSet es' t')).get? a = some { o with data := .set es' (ep + 1) t' } ∧ SetW prog w led a S' es'.size (h.update a (Obj.putSet es' t')) := by
  have g := (SetOf_store (knd := intKind prog w) ho hex hd hel hmem hb hf).1
  exact ⟨g, _, es', ep + 1, t', g, hex, rfl, hel, hmem, hb, hf, rfl, ti⟩
theorem add_tail {g : Bool → Sem Unit} (hg : ∀ (b : Bool) (s₁ : Shared) (Q' : Unit → Shared → Prop), Q' () s₁ → wpAny (model prog w) A (g b) Q' E s₁)
    {a : Addr} {o : Obj} {es : Array (Int × Value)} {ep : Nat} {t : SetTable} {led : Bool} (ho : s.heap.get? a = some o) (hex : o.ExactSet) (hd : o.data = .set es ep t)
    {es1 : Array (Int × Value)} {t2 : SetTable} {S' : Int → Bool} (hel1 : ElemsOf (intKind prog w) es1.toList) (hmem1 : ∀ k', S' k' = true ↔ ∃ e ∈ es1.toList, (intKind prog w).is k' e.2 = true)
    (hb1 : es1.size < scanBound) (hf2 : t2.fits es1.size = true) (ti : TI led t2) {wd : Bool} {R : Option Bool → Shared → Prop}
    (h : ∀ h', Heap.SameBut a s.heap h' → SetW prog w led a S' es1.size h' → R (some true) { s with heap := h' }) :
    wpAny (model prog w) A (do
        storeSet a es1 t2
        if (!wd && t2.tooFull) = true then do
            g (relayAll t2 es1 (SetTable.grown es1.size)).2.2
            storeSet a (relayAll t2 es1 (SetTable.grown es1.size)).1 (relayAll t2 es1 (SetTable.grown es1.size)).2.1
            pure (some true)
          else pure (some true)) R E s := by
  refine wpAny_bind (wpAny_storeSet_of ho hd ?_ (fits_of_scanBound hb1))
  obtain ⟨ho1, hS1⟩ := setW_store (prog := prog) (w := w) ho hex hd hel1 hmem1 hb1 hf2 ti
  have sb1 := Heap.SameBut.update s.heap a (Obj.putSet es1 t2)
  split
  · have hp := relayAll_perm t2 es1 (SetTable.grown es1.size)
    have hfr := relayAll_fits t2 es1 (SetTable.grown es1.size)
    have tr := ti.relay es1 (SetTable.grown es1.size)
    generalize relayAll t2 es1 (SetTable.grown es1.size) = Rl at hp hfr tr ⊢
    obtain ⟨es2, t3, gv⟩ := Rl
    dsimp only at hp hfr tr ⊢
    have sz : es2.size = es1.size := by rw [← Array.length_toList, hp.length_eq, Array.length_toList]
    refine wpAny_bind (hg _ _ _ (wpAny_bind (wpAny_storeSet_of ho1 rfl ?_ (fits_of_scanBound (by rw [sz]; exact hb1)))))
    obtain ⟨_, hS2⟩ := setW_store (prog := prog) (w := w) (S' := S') ho1 hex rfl (hel1.perm hp) (fun k' => (hmem1 k').trans ⟨fun ⟨e, he, q⟩ => ⟨e, hp.mem_iff.mpr he, q⟩, fun ⟨e, he, q⟩ => ⟨e, hp.mem_iff.mp he, q⟩⟩) (by rw [sz]; exact hb1) hfr tr
    rw [sz] at hS2
    exact wpAny_pure (h _ (sb1.trans (Heap.SameBut.update _ a _)) hS2)
  · exact wpAny_pure (h _ sb1 hS1)
theorem add_hashed {led : Bool} {a : Addr} {S : Int → Bool} {n : Nat} {k : Int} {x : Value} {Q : Bool → Shared → Prop} (hkey : (intKind prog w).is k x = true) (hsc : x.scannable = true) (hS : SetW prog w led a S n s.heap) (room : n + 1 < scanBound)
    (h : ∀ h', Heap.SameBut a s.heap h' → SetW prog w led a (fun k' => S k' || decide (k' = k)) (if S k then n else n + 1) h' → Q (!S k) { s with heap := h' }) :
    wpAny (model prog w) A (setAddHashed a x ((intKind prog w).hash k)) Q E s := by
  obtain ⟨o, es, ep, t, ho, hex, hd, hel, hmem, hb, hf, hn, ti⟩ := hS
  unfold setAddHashed setAddHashedIn
  refine wpAny_holding (wpAny_bind (wpAny_setState_of ho hd hf ?_))
  dsimp only
  rw [byScan_of hsc hb hel]
  simp only [↓reduceIte]
  unfold setAddByScan
  refine wpAny_bind (wpAny_bind (wpAny_rule (wpAny_bind (wpAny_setScan_of hkey ho hd hf hel ?_))))
  cases hr : List.findIdx? (fun e => (intKind prog w).is k e.2) es.toList with
  | some j =>
    dsimp only
    obtain ⟨hj, hpj, _⟩ := List.findIdx?_eq_some_iff_getElem.mp hr
    have Sk : S k = true := (hmem k).mpr ⟨es.toList[j], List.getElem_mem hj, hpj⟩
    refine wpAny_pure (wpAny_pure ?_)
    have e : s = { s with heap := s.heap } := by cases s; rfl
    have z := h s.heap (Heap.SameBut.refl a s.heap) ⟨o, es, ep, t, ho, hex, hd, hel, fun k' => by
      rw [Bool.or_eq_true, decide_eq_true_eq, ← hmem k']
      exact ⟨fun hk => hk.elim id (fun e => e ▸ Sk), .inl⟩, hb, hf, by rw [Sk]; exact hn, ti⟩
    rw [Sk] at z; rw [e]; exact z
  | none =>
    dsimp only
    have Sk : S k = false := by
      cases hk : S k with
      | false => rfl
      | true =>
        obtain ⟨e, he, hp⟩ := (hmem k).mp hk
        have q := List.findIdx?_eq_none_iff.mp hr e he
        rw [hp] at q; cases q
    have gw : ∀ (b : Bool) {s₁ : Shared} {Q' : Unit → Shared → Prop}, Q' () s₁ → wpAny (model prog w) A (match b with | true => rule "set.scan.the-table-gave-way" | false => pure ()) Q' E s₁ :=
      fun b s₁ Q' hq => by cases b <;> first | exact wpAny_pure hq | exact wpAny_rule hq
    have pm := layNew_perm t es ((intKind prog w).hash k) x
    have ft := layNew_fits t es ((intKind prog w).hash k) x
    have tl := ti.layNew es ((intKind prog w).hash k) x
    generalize layNew t es ((intKind prog w).hash k) x = L at pm ft tl ⊢
    obtain ⟨es1, t1, wd, gave⟩ := L
    dsimp only at pm ft tl ⊢
    rw [Array.toList_push] at pm
    have sz1 : es1.size = n + 1 := by rw [← Array.length_toList, pm.length_eq, List.length_append, Array.length_toList, hn]; rfl
    have el1 : ElemsOf (intKind prog w) es1.toList := (hel.push hkey hsc).perm pm
    have mem1 : ∀ k', (S k' || decide (k' = k)) = true ↔ ∃ e ∈ es1.toList, (intKind prog w).is k' e.2 = true := mem_push_iff hkey hmem pm
    refine wpAny_bind (gw _ ?_)
    have fin : ∀ h', Heap.SameBut a s.heap h' → SetW prog w led a (fun k' => S k' || decide (k' = k)) es1.size h' → Q true { s with heap := h' } := fun h' sb z => by
      have q := h h' sb
      rw [Sk] at q
      rw [sz1] at z
      exact q z
    split
    · refine wpAny_bind ?_
      rw [hashByValue_scannable 8 hsc]
      refine wpAny_pure (add_tail (led := led) ?_ ho hex hd el1 mem1 (by omega) ?_ ?_ ?_)
      · intro b s₁ Q' hq; cases b <;> first | exact wpAny_pure hq | exact wpAny_rule hq
      · split
        · exact ft
        · exact SetTable.fits_plain_off ft
      · split
        · exact tl
        · exact tl.off
      · intro h' sb z; dsimp only; exact wpAny_pure (fin h' sb z)
    · refine wpAny_bind (wpAny_pure ?_)
      simp only [↓reduceIte]
      refine add_tail (led := led) ?_ ho hex hd el1 mem1 (by omega) ft tl ?_
      · intro b s₁ Q' hq; cases b <;> first | exact wpAny_pure hq | exact wpAny_rule hq
      · intro h' sb z; dsimp only; exact wpAny_pure (fin h' sb z)
end
section
variable {prog : Program} {w : World} {A : Around} {R : Result → Shared → Prop} {I : Addr} {fp wr : List Addr} {G : Array GenState → Array GenState → Prop} {n : Nat} {P : Nat → Value → Prop} {St : Nat → Shared → Prop}
theorem update_loop {led : Bool} (W : WalksS prog w A.in1 I fp wr G n P St) (S : Addr) (hSf : S ∉ fp) (val : Nat → Int) (hval : ∀ i v, P i v → ∃ t, v = .int (val i) t) (hb : n + 1 < scanBound) :
    ∀ (k i : Nat) (s : Shared), n - i = k → i ≤ n → St i s → SetW prog w led S (fun k' => (firstMet val i).any (· == k')) (firstMet val i).length s.heap →
      (∀ s', Moved (S :: wr) G s s' → SetW prog w led S (fun k' => (firstMet val n).any (· == k')) (firstMet val n).length s'.heap → R (.ok (.ret .none)) s') →
      codeAny (model prog w) A (.builtin "set.update.loop" ⟨[.ref S, .ref I], []⟩) R s := by
  have hSw : S ∉ wr := fun h => hSf (W.sub _ h)
  have sub : ∀ b ∈ wr, b ∈ S :: wr := fun b hb => List.mem_cons_of_mem _ hb
  intro k
  induction k with
  | zero =>
    intro i s hk hi hst hS hR
    have hin : i = n := by omega
    subst hin
    refine codeAny_builtin F.entry_set_update_loop ?_
    rw [Around.under_plainId F.plain_set_update_loop _]
    show wpAny _ A.in1 (pyNext (.ref I) >>= _) _ _ s
    refine wpAny_bind (W.done s _ _ hst fun s' hm => ?_)
    show wpAny _ A.in1 (ret Value.none) _ _ s'
    exact wpAny_pure (hR s' (hm.mono sub) (hS.at fun o e => hm.heap S _ hSw e))
  | succ k ih =>
    intro i s hk hi hst hS hR
    have hlt : i < n := by omega
    refine codeAny_builtin F.entry_set_update_loop ?_
    rw [Around.under_plainId F.plain_set_update_loop _]
    show wpAny _ A.in1 (pyNext (.ref I) >>= _) _ _ s
    refine wpAny_bind (W.item i s _ _ hlt hst fun v s' hP hst' hm => ?_)
    obtain ⟨t, rfl⟩ := hval i v hP
    have hS' := hS.at (h' := s'.heap) fun o e => hm.heap S _ hSw e
    show wpAny _ A.in1 (holding [Value.int (val i) t] (setAdd S (.int (val i) t)) >>= _) _ _ s'
    refine wpAny_bind (wpAny_holding ?_)
    unfold setAdd
    refine wpAny_holding (wpAny_bind ((intKind prog w).pyHash (k := val i) (intKind_is _ _ _ _) ?_))
    refine add_hashed (s := { s' with toks := s'.toks + 1 }) (intKind_is _ _ _ _) rfl hS' (by have := firstMet_length_le val i; omega) fun h' hsb hS2 => ?_
    have Si : SetW prog w led S (fun k' => (firstMet val (i + 1)).any (· == k')) (firstMet val (i + 1)).length h' := hS2.congr (fun k' => by rw [firstMet_succ, step_any]) (by rw [firstMet_succ, step_length])
    refine wpAny_pure ⟨plainId_quiet F.plain_set_update_loop _, ih (i + 1) _ (by omega) hlt (W.frame _ s' _ _ hst' (Nat.le_succ _) fun b hb o e => ?_) Si fun s'' hm'' hS'' => ?_⟩
    · rw [hsb.2 b (fun h : b = S => hSf (by rw [← h]; exact hb))]; exact e
    · refine hR s'' (Moved.trans W.gtrans ((hm.mono sub).then_heap (Nat.le_succ _) fun b o hb e => ?_) hm'') hS''
      rw [hsb.2 b (fun h : b = S => hb (by rw [h]; exact List.mem_cons_self))]; exact e
end
end Sr

set_option maxHeartbeats 4000000
namespace Sr
open PySem PyProof.Rows
def ledW (w : World) : Bool := !w.params.followText "set-order"
section
variable {prog : Program} {w : World} {A : Around} {E : Value → Shared → Prop} {s : Shared}
theorem set_new1 (a : Value) {Q₁ : Value → Shared → Prop}
    (h : Q₁ (.ref s.heap.objs.size) { s with heap := s.heap.push { cls := .type "set", dict := none, data := .set #[] 0 (.fresh 0 0 (ledW w)) } }) :
    codeAny (model prog w) A (.call (.builtin "set.__new__") ⟨[.type "set", a], []⟩) (wants Q₁ E) s := by
  refine codeAny_of_tree ?_
  show wpAny _ A.in1 (do checkBuiltinCall "set.__new__" ⟨[.type "set", a], []⟩; again (.builtin "set.__new__" ⟨[.type "set", a], []⟩)) _ _ s
  refine wpAny_bind (wpAny_of_eq (PySem.F.newCall_set_1 a) (wpAny_pure ⟨plainId_quiet PySem.F.plain_set_new _, codeAny_builtin PySem.F.entry_set_new ?_⟩))
  rw [Around.under_plainId PySem.F.plain_set_new _]
  unfold Builtin.«set.__new__» Builtin.Frozenset.newClass
  have hsub := sub_set_self
  obtain ⟨hp, g, d, tk, os⟩ := s
  dsimp only
  wp_walk
  refine wpAny_askSetting (wpAny_pure ?_)
  dsimp only
  simp only [newObj]
  exact wpAny_bind (wpAny_alloc (wpAny_pure (wpAny_pure h)))
abbrev freshSet (led : Bool) : Obj := { cls := .type "set", dict := none, data := .set #[] 0 (.fresh 0 0 led) }
set_option maxHeartbeats 8000000 in
/-- set(a list of numbers) -/
theorem set_list {l : Addr} {items : Array Value} {ns : List Int} {Q : Value → Shared → Prop} (hh : A.handled = none) (hl : s.heap.IsList l items) (hi : IntsAre items.toList ns) (hb : items.size + 1 < scanBound)
    (h : ∀ (h' : Heap) (tk : Nat), SetW prog w (ledW w) s.heap.objs.size (fun k' => (firstMet (fun i => ns.getD i 0) items.size).any (· == k')) (firstMet (fun i => ns.getD i 0) items.size).length h' →
      (∀ b o, b < s.heap.objs.size → s.heap.get? b = some o → h'.get? b = some o) → Q (.ref s.heap.objs.size) { s with heap := h', toks := tk }) :
    wpAny (model prog w) A (call (.type "set") [.ref l]) Q E s := by
  obtain ⟨c, tl, hmro⟩ := PySem.F.called_set.mro
  have hmade := PySem.F.called_set.made
  have hsub := PySem.F.called_set.sub
  refine wpAny_call (codeAny_of_tree ?_)
  show wpAny _ _ (callAny (.type "set") _) _ _ _
  refine wpAny_pure ⟨Code.quiet_builtin _ (by decide +kernel), codeAny_builtin PySem.F.entry_type_call ?_⟩
  rw [Around.under_plain (weight_type_call_type "set" [.ref l] []) rfl]
  have h1 := PySem.F.called_set.notType
  have h2 := PySem.F.called_set.canCreate
  have hct := PySem.F.typeCall_set_1 (.ref l)
  repeat (any_goals (first | assumption | wp_step))
  refine codeAny_mono (set_new1 (.ref l) (E := E) (Q₁ := fun obj s₁ => obj = .ref s.heap.objs.size ∧ s₁ = { s with heap := s.heap.push (freshSet (ledW w)) }) ⟨rfl, rfl⟩) fun r s₁ hr => ?_
  cases r with
  | error e => exact hr
  | ok fl =>
    cases fl with
    | ret obj =>
      obtain ⟨rfl, rfl⟩ := hr
      have hS : (s.heap.push (freshSet (ledW w))).get? s.heap.objs.size = some (freshSet (ledW w)) := Heap.get?_push_size _ rfl
      have hT : Shared.TypeIs { s with heap := s.heap.push (freshSet (ledW w)) } (.ref s.heap.objs.size) "set" := ⟨_, hS, rfl⟩
      have hli := PySem.F.called_set.init.lookup
      have hbi := PySem.F.called_set.init.bind (.ref s.heap.objs.size)
      repeat (any_goals (first | assumption | wp_step))
      refine codeAny_mono (codeAny_call_builtin (R := wants (fun r s₂ => r = .none ∧ ∃ h' tk, s₂ = { s with heap := h', toks := tk } ∧
          SetW prog w (ledW w) s.heap.objs.size (fun k' => (firstMet (fun i => ns.getD i 0) items.size).any (· == k')) (firstMet (fun i => ns.getD i 0) items.size).length h' ∧
          (∀ b o, b < s.heap.objs.size → s.heap.get? b = some o → h'.get? b = some o)) E) PySem.F.called_set.init.plain PySem.F.entry_set_init (check_set_init_1 hT ?_)) fun r₂ s₂ hr₂ => ?_
      · obtain ⟨⟨ocls, odict, odata, oslots⟩, hol, hcl, nl, hdl⟩ := hl
        simp only at hcl hdl
        subst hcl; subst hdl
        have hol' : (s.heap.push (freshSet (ledW w))).get? l = some { cls := .type "list", dict := odict, data := .seq items nl, slots := oslots } := Heap.get?_push_of_some _ hol
        have hsls := PySem.F.sub_list_set
        have hslf := PySem.F.sub_list_frozenset
        have hne : (Value.type "list" == Value.type "dict") = false := by decide
        have hl1 : (s.heap.push (freshSet (ledW w))).IsList l items := ⟨_, hol', rfl, nl, rfl⟩
        unfold Builtin.«set.__init__» noKeywords Builtin.Frozenset.updateFrom
        generalize hPI : pyIter = PI
        wp_walk
        subst hPI
        refine wpAny_pyIter_list hl1 (wpAny_bind (wpAny_runValue ?_))
        have hlS : l < s.heap.objs.size := Heap.lt_size hol
        have hh3 : A.in1.in1.in1.handled = none := by simp [hh]
        have hneI : l ≠ (s.heap.push (freshSet (ledW w))).objs.size := by
          rw [Heap.size_push]; exact Nat.ne_of_lt (Nat.lt_succ_of_lt hlS)
        have hSf : s.heap.objs.size ∉ [(s.heap.push (freshSet (ledW w))).objs.size, l] := by
          rw [Heap.size_push]; simp only [List.mem_cons, List.mem_singleton, List.not_mem_nil, or_false, not_or]
          exact ⟨Nat.ne_of_lt (Nat.lt_succ_self _), Nat.ne_of_gt hlS⟩
        refine update_loop (led := ledW w) ((Walks.list hh3 _ l hneI items).toS) s.heap.objs.size hSf (fun i => ns.getD i 0) (fun i v hv => IntsAre.int_at hi i v (by rw [Array.getElem?_toList]; exact hv)) hb (items.size - 0) 0 _ (by omega) (Nat.zero_le _)
          ⟨⟨_, Heap.get?_push_size _ rfl, rfl, rfl⟩, (hl1.push _)⟩ ?hS0 ?hR
        case hS0 =>
          have hget : ((s.heap.push (freshSet (ledW w))).push { cls := .type "list_iterator", data := .fields #[.ref l, .int 0 0] }).get? s.heap.objs.size = some (freshSet (ledW w)) := Heap.get?_push_of_some _ hS
          refine SetW.congr (S := fun _ => false) (n := 0) ⟨_, #[], 0, _, hget, ⟨rfl, rfl, rfl⟩, rfl, fun e he => by simp at he, fun k => by simp, by decide, by rfl, rfl, TI.fresh _⟩ (fun _ => rfl) rfl
        case hR =>
          intro s' hm hS'
          obtain ⟨h', g', d', tk', os'⟩ := s'
          have eg : g' = s.gens := hm.gens
          have ed : d' = s.drawn := hm.drawn
          have eo : os' = s.os := hm.os
          subst eg; subst ed; subst eo
          show wpAny _ _ _ _ _ _
          refine wpAny_pure ?_
          show wpAny _ _ (ret Value.none) _ _ _
          refine wpAny_pure ⟨rfl, h', tk', rfl, hS', fun b o hb e => ?_⟩
          have hb2 : b ≠ (s.heap.push (freshSet (ledW w))).objs.size := by
            rw [Heap.size_push]; exact Nat.ne_of_lt (Nat.lt_succ_of_lt hb)
          exact hm.heap b o (by simp only [List.mem_cons, List.mem_singleton, List.not_mem_nil, or_false, not_or]; exact ⟨Nat.ne_of_lt hb, hb2⟩) (Heap.get?_push_of_some _ (Heap.get?_push_of_some _ e))
      · cases r₂ with
        | error e => exact hr₂
        | ok fl₂ =>
          cases fl₂ with
          | ret r =>
            obtain ⟨rfl, h', tk, rfl, hS', hk'⟩ := hr₂
            repeat (any_goals (first | assumption | wp_step))
            exact h _ _ hS' hk'
          | _ => exact hr₂.elim
    | _ => exact hr.elim
end
end Sr

set_option maxHeartbeats 4000000
/-! ### a walk over a set -/
namespace Sr
open PySem PyProof.Rows
theorem si_slot : Slot "set_iterator" "__next__" "set_iterator.__next__" :=
  Slot.of (owner := "set_iterator") (n := "__next__") (by rw [typeLookup_type, builtinLookup_eq_fast]; kernel_rfl) (by decide +kernel) (by decide +kernel) (by decide +kernel) (by first | exact .inl (by decide +kernel) | exact .inr (by decide +kernel)) (by rw [isSubtype_type]; kernel_rfl)
theorem si_entry : entryFor table "set_iterator.__next__" = some Builtin.«set_iterator.__next__» := entryFor_of_tree (by kernel_rfl)
theorem si_args (a : Value) : argsOk "set_iterator.__next__" ⟨[a], []⟩ := by unfold argsOk; kernel_rfl
theorem it_entry : entryFor table "set.__iter__" = some Builtin.«frozenset.__iter__» := entryFor_alias (id' := "frozenset.__iter__") (by kernel_rfl) rfl (by decide +kernel) (by kernel_rfl)
def IsSI (h : Heap) (I : Addr) (f : Value) (i : Nat) (a : Addr) (n ep : Nat) : Prop := ∃ o, h.get? I = some o ∧ o.cls = .type "set_iterator" ∧ o.data = .fields #[f, .int i 0, .ref a, .int n 0, .int ep 0]
theorem IsSI.typeIs {s : Shared} {I a : Addr} {f : Value} {i n ep : Nat} (x : IsSI s.heap I f i a n ep) : s.TypeIs (.ref I) "set_iterator" := let ⟨o, e, c, _⟩ := x; ⟨o, e, c⟩
theorem IsSI.at {h h' : Heap} {I a : Addr} {f : Value} {i n ep : Nat} (x : IsSI h I f i a n ep) (k : ∀ o, h.get? I = some o → h'.get? I = some o) : IsSI h' I f i a n ep := let ⟨o, e, r⟩ := x; ⟨o, k o e, r⟩
section
variable {prog : Program} {w : World} {A : Around} {E : Value → Shared → Prop} {s : Shared} {I a : Addr} {o : Obj} {es : Array (Int × Value)} {ep i n : Nat} {t : SetTable}
theorem wpAny_choose {M : Model} {src : Source} {n : Nat} {Q : Nat → Shared → Prop} (hn : n ≠ 0) (h : ∀ i d', i < n → Q i { s with drawn := d' }) : wpAny M A (choose src n) Q E s := fun Γ p hΓ => by
  unfold choose
  rw [Sem.wp_choose]
  exact ⟨hn, h _ _ (Nat.mod_lt _ (Nat.pos_of_ne_zero hn))⟩
theorem erase_perm {α : Type} : ∀ (xs : List α) (i : Nat) (h : i < xs.length), (xs[i] :: xs.eraseIdx i).Perm xs
  | x :: xs, 0, _ => List.Perm.refl _
  | x :: xs, i + 1, h => by
    rw [List.eraseIdx_cons_succ]
    exact (List.Perm.swap x _ _).trans ((erase_perm xs i (by simpa using h)).cons x)
theorem wpAny_draw {M : Model} {α : Type} {Q : List α → Shared → Prop} : ∀ (n : Nat) (xs : List α) (s : Shared), xs.length = n → (∀ ys d', ys.Perm xs → Q ys { s with drawn := d' }) → wpAny M A (drawOrder n xs) Q E s
  | 0, xs, s, hl, h => by
    have : xs = [] := List.length_eq_zero_iff.mp hl
    subst this
    unfold drawOrder
    exact wpAny_pure (by have := h [] s.drawn (List.Perm.refl _); exact this)
  | n + 1, [], s, hl, h => by cases hl
  | n + 1, x :: xs, s, hl, h => by
    unfold drawOrder
    refine wpAny_bind (wpAny_choose (by simp) fun i d' hi => ?_)
    rw [List.getElem?_eq_getElem hi]
    dsimp only
    refine wpAny_bind (wpAny_draw n _ _ (by rw [List.length_eraseIdx_of_lt hi]; simp at hl ⊢; exact hl) fun ys d2 hp => wpAny_pure (h _ d2 ?_))
    refine (hp.cons _).trans ?_
    exact erase_perm _ _ hi
theorem wpAny_byText {M : Model} {Q : Bool → Shared → Prop} (h : Q (M.w.params.followText "set-order") s) : wpAny M A setsByText Q E s := by
  unfold setsByText
  exact wpAny_bind (wpAny_askSetting (wpAny_pure h))
theorem si_item_int {Q : Option Value → Shared → Prop} {slot nxt : Nat} {x : Value} (hit : IsSI s.heap I (.int slot 0) i a n ep) (ho : s.heap.get? a = some o) (hd : o.data = .set es ep t) (hf : t.fits es.size = true) (hn : es.size = n)
    (hx : ∀ (A' : Around) (E' : Value → Shared → Prop) (Q' : Option (Value × Nat) → Shared → Prop), Q' (some (x, nxt)) s → wpAny (model prog w) A' (setNext a slot i ep) Q' E' s)
    (hQ : ∀ h', IsSI h' I (.int nxt 0) (i + 1) a n ep → Heap.SameBut I s.heap h' → Q (some x) { s with heap := h' }) : wpAny (model prog w) A (pyNext (.ref I)) Q E s := by
  obtain ⟨oI, e1, e2, e3⟩ := id hit
  unfold pyNext
  refine wpAny_bind (wpAny_attempt (wpAny_callSpecial?_slot (name := Str.ofString "__next__") hit.typeIs si_slot (wpAny_call_entry si_slot hit.typeIs si_entry ?_ (si_args _))))
  unfold Builtin.«set_iterator.__next__»
  refine wpAny_bind (m := slotArgs "__next__" 0 _) (wpAny_pure ?_)
  dsimp only
  refine wpAny_bind (wpAny_fieldsOf e1 e3 ?_)
  show wpAny _ _ (setEntries a >>= _) _ _ s
  refine wpAny_bind (wpAny_setEntries_of ho hd hf ?_)
  rw [if_neg (by rw [hn]; simp)]
  dsimp only
  refine wpAny_bind (hx _ _ _ ?_)
  dsimp only
  refine wpAny_bind (wpAny_setField e1 e3 (by simp) ?_)
  have g1 : (s.heap.update I (Obj.mapFields (·.setIfInBounds 0 (rawInt nxt)))).get? I = some _ := Heap.get?_update_self _ e1 (Obj.isFreed_of_fields (Obj.data_mapFields e3 _))
  have d1 := Obj.data_mapFields e3 (·.setIfInBounds 0 (rawInt (nxt : Int)))
  refine wpAny_bind (wpAny_setField g1 d1 (by simp) ?_)
  have g2 := Heap.get?_update_self (Obj.mapFields (·.setIfInBounds 1 (rawInt ((i : Int) + 1)))) g1 (Obj.isFreed_of_fields (Obj.data_mapFields d1 _))
  have d2 := Obj.data_mapFields d1 (·.setIfInBounds 1 (rawInt ((i : Int) + 1)))
  refine wpAny_pure ⟨_, rfl, wpAny_pure (hQ _ ⟨_, g2, (Obj.cls_mapFields ..).trans ((Obj.cls_mapFields ..).trans e2), by rw [d2]; simp [rawInt]⟩ ((Heap.SameBut.update ..).trans (Heap.SameBut.update ..)))⟩
theorem si_stop {A' : Around} {E' : Value → Shared → Prop} {P : PySem.Fin → Shared → Prop} (hh : A'.handled = none) (h : ∀ e h', Heap.ExtBut I s.heap h' → Shared.TypeIs { s with heap := h' } e "StopIteration" → E' e { s with heap := h' }) :
    wpAny (model prog w) A' (do raiseNew (← newExc (.type "StopIteration") [])) P E' s := by
  refine wpAny_bind ?_
  simp only [newExc, newTuple]
  refine wpAny_bind (wpAny_newObj_type ?_ (by size_fits))
  refine wpAny_bind (m := firstArgMember _ _) (wpAny_of_eq (a := Value.none) (by first | rfl | (simp only [firstArgMember]; rfl)) ?_)
  refine wpAny_newObj_type ?_ (by size_fits)
  simp only [raiseNew]
  refine wpAny_bind (wpAny_handled ?_)
  rw [hh]
  refine wpAny_bind (wpAny_pure (wpAny_throw ?_))
  exact h _ _ ((Heap.ExtBut.push (h := s.heap) (fun b o _ e => e) _).push _) ⟨_, Heap.get?_push_size _ rfl, rfl⟩
theorem si_end_int {Q : Option Value → Shared → Prop} {slot : Nat} (hh : A.handled = none) (hit : IsSI s.heap I (.int slot 0) i a n ep) (ho : s.heap.get? a = some o) (hd : o.data = .set es ep t) (hf : t.fits es.size = true) (hn : es.size = n)
    (hx : ∀ (A' : Around) (E' : Value → Shared → Prop) (Q' : Option (Value × Nat) → Shared → Prop), Q' none s → wpAny (model prog w) A' (setNext a slot i ep) Q' E' s)
    (hQ : ∀ h', Heap.ExtBut I s.heap h' → Q none { s with heap := h' }) : wpAny (model prog w) A (pyNext (.ref I)) Q E s := by
  obtain ⟨oI, e1, e2, e3⟩ := id hit
  unfold pyNext
  refine wpAny_bind (wpAny_attempt (wpAny_callSpecial?_slot (name := Str.ofString "__next__") hit.typeIs si_slot (wpAny_call_entry si_slot hit.typeIs si_entry ?_ (si_args _))))
  unfold Builtin.«set_iterator.__next__»
  refine wpAny_bind (m := slotArgs "__next__" 0 _) (wpAny_pure ?_)
  dsimp only
  refine wpAny_bind (wpAny_fieldsOf e1 e3 ?_)
  show wpAny _ _ (setEntries a >>= _) _ _ s
  refine wpAny_bind (wpAny_setEntries_of ho hd hf ?_)
  rw [if_neg (by rw [hn]; simp)]
  dsimp only
  refine wpAny_bind (hx _ _ _ ?_)
  dsimp only
  refine wpAny_bind (wpAny_setField e1 e3 (by simp) ?_)
  refine si_stop (I := I) (by first | exact hh | simpa using hh) fun e h' hx' hT => ?_
  refine wpAny_bind (wpAny_isInstance (T := "StopIteration") (b := true) hT isSubtype_stop ?_)
  exact wpAny_pure (hQ _ ((Heap.SameBut.update ..).extBut.trans hx'))
end
end Sr

set_option maxHeartbeats 4000000
namespace Sr
open PySem PyProof.Rows
theorem sii_slot : Slot "set_iterator" "__iter__" "set_iterator.__iter__" :=
  Slot.of (owner := "set_iterator") (n := "__iter__") (by rw [typeLookup_type, builtinLookup_eq_fast]; kernel_rfl) (by decide +kernel) (by decide +kernel) (by decide +kernel) (by first | exact .inl (by decide +kernel) | exact .inr (by decide +kernel)) (by rw [isSubtype_type]; kernel_rfl)
theorem sii_entry : entryFor table "set_iterator.__iter__" = some Builtin.«dict_keyiterator.__iter__» := entryFor_alias (id' := "dict_keyiterator.__iter__") (by kernel_rfl) rfl (by decide +kernel) (by kernel_rfl)
theorem sii_args (a : Value) : argsOk "set_iterator.__iter__" ⟨[a], []⟩ := by unfold argsOk; kernel_rfl
section
variable {prog : Program} {w : World} {A : Around} {E : Value → Shared → Prop} {s : Shared} {I a : Addr} {o : Obj} {es : Array (Int × Value)} {ep i n : Nat} {t : SetTable}
theorem si_self {Q : Value → Shared → Prop} {f : Value} (hit : IsSI s.heap I f i a n ep) (h : Q (.ref I) s) : wpAny (model prog w) A (pyIter (.ref I)) Q E s := by
  refine wpAny_pyIter_slot hit.typeIs sii_slot (wpAny_call_entry sii_slot hit.typeIs sii_entry ?_ (sii_args _))
  show wpAny _ _ (ret (.ref I)) _ _ s
  exact wpAny_pure ⟨_, rfl, "set_iterator", _, hit.typeIs, si_slot.lookup, h⟩
theorem si_item_ref {Q : Option Value → Shared → Prop} {T : Addr} {oT : Obj} {pl : Array Value} {c p : Nat} {tk : Tok} {hv : Int} {x : Value} (hit : IsSI s.heap I (.ref T) i a n ep) (ho : s.heap.get? a = some o) (hd : o.data = .set es ep t) (hf : t.fits es.size = true) (hn : es.size = n)
    (hT : s.heap.get? T = some oT) (dT : oT.data = .seq pl c) (e1 : pl[i]? = some (.int p tk)) (e2 : es[p]? = some (hv, x))
    (hQ : ∀ h', IsSI h' I (.ref T) (i + 1) a n ep → Heap.SameBut I s.heap h' → Q (some x) { s with heap := h' }) : wpAny (model prog w) A (pyNext (.ref I)) Q E s := by
  obtain ⟨oI, f1, f2, f3⟩ := id hit
  unfold pyNext
  refine wpAny_bind (wpAny_attempt (wpAny_callSpecial?_slot (name := Str.ofString "__next__") hit.typeIs si_slot (wpAny_call_entry si_slot hit.typeIs si_entry ?_ (si_args _))))
  unfold Builtin.«set_iterator.__next__»
  refine wpAny_bind (m := slotArgs "__next__" 0 _) (wpAny_pure ?_)
  dsimp only
  refine wpAny_bind (wpAny_fieldsOf f1 f3 ?_)
  show wpAny _ _ (setEntries a >>= _) _ _ s
  refine wpAny_bind (wpAny_setEntries_of ho hd hf ?_)
  rw [if_neg (by rw [hn]; simp)]
  dsimp only
  refine wpAny_bind (wpAny_seqItems hT dT ?_)
  dsimp only
  simp only [Int.toNat_natCast]
  rw [e1]
  dsimp only
  refine wpAny_bind ?_
  unfold setNextDrawn
  refine wpAny_bind (wpAny_setState_of ho hd hf ?_)
  dsimp only
  simp only [bne_self_eq_false, Bool.false_eq_true, if_false, Int.toNat_natCast]
  rw [e2]
  refine wpAny_pure ?_
  refine wpAny_bind (wpAny_setField f1 f3 (by simp) ?_)
  have g2 := Heap.get?_update_self (Obj.mapFields (·.setIfInBounds 1 (rawInt ((i : Int) + 1)))) f1 (Obj.isFreed_of_fields (Obj.data_mapFields f3 _))
  have d2 := Obj.data_mapFields f3 (·.setIfInBounds 1 (rawInt ((i : Int) + 1)))
  exact wpAny_pure ⟨_, rfl, wpAny_pure (hQ _ ⟨_, g2, (Obj.cls_mapFields ..).trans f2, by rw [d2]; simp [rawInt]⟩ (Heap.SameBut.update ..))⟩
theorem si_end_ref {Q : Option Value → Shared → Prop} {T : Addr} {oT : Obj} {pl : Array Value} {c : Nat} (hh : A.handled = none) (hit : IsSI s.heap I (.ref T) i a n ep) (ho : s.heap.get? a = some o) (hd : o.data = .set es ep t) (hf : t.fits es.size = true) (hn : es.size = n)
    (hT : s.heap.get? T = some oT) (dT : oT.data = .seq pl c) (e1 : pl[i]? = none)
    (hQ : ∀ h', Heap.ExtBut I s.heap h' → Q none { s with heap := h' }) : wpAny (model prog w) A (pyNext (.ref I)) Q E s := by
  obtain ⟨oI, f1, f2, f3⟩ := id hit
  unfold pyNext
  refine wpAny_bind (wpAny_attempt (wpAny_callSpecial?_slot (name := Str.ofString "__next__") hit.typeIs si_slot (wpAny_call_entry si_slot hit.typeIs si_entry ?_ (si_args _))))
  unfold Builtin.«set_iterator.__next__»
  refine wpAny_bind (m := slotArgs "__next__" 0 _) (wpAny_pure ?_)
  dsimp only
  refine wpAny_bind (wpAny_fieldsOf f1 f3 ?_)
  show wpAny _ _ (setEntries a >>= _) _ _ s
  refine wpAny_bind (wpAny_setEntries_of ho hd hf ?_)
  rw [if_neg (by rw [hn]; simp)]
  dsimp only
  refine wpAny_bind (wpAny_seqItems hT dT ?_)
  dsimp only
  simp only [Int.toNat_natCast]
  rw [e1]
  dsimp only
  refine wpAny_bind (wpAny_setField f1 f3 (by simp) ?_)
  have g1 := Heap.get?_update_self (Obj.mapFields (·.setIfInBounds 0 (rawInt 0))) f1 (Obj.isFreed_of_fields (Obj.data_mapFields f3 _))
  have d1 := Obj.data_mapFields f3 (·.setIfInBounds 0 (rawInt 0))
  refine wpAny_bind (wpAny_setField g1 d1 (by simp) ?_)
  refine si_stop (I := I) (by first | exact hh | simpa using hh) fun e h' hx' hT => ?_
  refine wpAny_bind (wpAny_isInstance (T := "StopIteration") (b := true) hT isSubtype_stop ?_)
  exact wpAny_pure (hQ _ (((Heap.SameBut.update ..).trans (Heap.SameBut.update ..)).extBut.trans hx'))
/-- the next by the text's order -/
theorem next_text {Q : Option (Value × Nat) → Shared → Prop} {slot : Nat} (hb : w.params.followText "set-order" = true) (ho : s.heap.get? a = some o) (hd : o.data = .set es ep t) (hf : t.fits es.size = true)
    (h : Q ((pickOrder (w.params.setOrder a ep) es)[i]?.map fun e => (e.2, slot)) s) : wpAny (model prog w) A (setNext a slot i ep) Q E s := by
  unfold setNext
  refine wpAny_bind (wpAny_setState_of ho hd hf (wpAny_bind (wpAny_byText ?_)))
  show wpAny _ _ (if (w.params.followText "set-order") = true then _ else _) _ _ _
  rw [if_pos hb]
  simp only [bne_self_eq_false, Bool.false_eq_true, if_false]
  refine wpAny_bind ?_
  unfold setWalk
  refine wpAny_bind (wpAny_setState_of ho hd hf (wpAny_bind (wpAny_byText ?_)))
  show wpAny _ _ (if (w.params.followText "set-order") = true then _ else _) _ _ _
  rw [if_pos hb]
  exact wpAny_bind (wpAny_askSetting (wpAny_pure (wpAny_pure h)))
/-- the next by the table -/
theorem next_tab {Q : Option (Value × Nat) → Shared → Prop} {slot : Nat} (hb : w.params.followText "set-order" = false) (ti : TI (ledW w) t) (nd : (!t.plain && decide (es.size > 1)) = false) (ho : s.heap.get? a = some o) (hd : o.data = .set es ep t) (hf : t.fits es.size = true)
    (h : Q (match es[SetTable.below t.place slot]?, t.place[SetTable.below t.place slot]? with | some (_, x), some j => some (x, j + 1) | _, _ => none) s) : wpAny (model prog w) A (setNext a slot i ep) Q E s := by
  unfold setNext
  refine wpAny_bind (wpAny_setState_of ho hd hf (wpAny_bind (wpAny_byText ?_)))
  show wpAny _ _ (if (w.params.followText "set-order") = true then _ else _) _ _ _
  rw [if_neg (by rw [hb]; simp)]
  show wpAny _ _ (if (!t.plain && decide (es.size > 1)) = true then _ else _) _ _ _
  rw [if_neg (by rw [nd]; simp)]
  have l : t.led = true := by rw [ti.1]; unfold ledW; rw [hb]; rfl
  show wpAny _ _ ((if (!t.led && !es.isEmpty) = true then unsupported _ else pure PUnit.unit) >>= _) _ _ _
  rw [if_neg (by rw [l]; simp)]
  exact wpAny_bind (wpAny_pure (wpAny_pure h))
end
theorem pick_perm {α : Type} (next : Nat → Nat) : ∀ (f k : Nat) (left : List α) (out : Array α), left.length = f → (pickOrder.go next f k left out).toList.Perm (out.toList ++ left)
  | 0, k, left, out, h => by
    have : left = [] := List.length_eq_zero_iff.mp h
    subst this
    unfold pickOrder.go
    simp
  | f + 1, k, left, out, h => by
    unfold pickOrder.go
    have hi : next k % left.length < left.length := Nat.mod_lt _ (by omega)
    rw [List.getElem?_eq_getElem hi]
    dsimp only
    refine (pick_perm next f (k + 1) _ _ (by rw [List.length_eraseIdx_of_lt hi]; omega)).trans ?_
    rw [Array.toList_push, List.append_assoc]
    exact (erase_perm left _ hi).append_left _
theorem pickOrder_perm {α : Type} (next : Nat → Nat) (xs : Array α) : (pickOrder next xs).toList.Perm xs.toList := by
  unfold pickOrder
  have := pick_perm next xs.size 0 xs.toList #[] (by simp)
  simpa using this
section
variable {prog : Program} {w : World} {A : Around} {I a : Addr} {o : Obj} {es : Array (Int × Value)} {ep n : Nat} {t : SetTable}
theorem walk_text (hh : A.handled = none) (ne : a ≠ I) (hb : w.params.followText "set-order" = true) (hd : o.data = .set es ep t) (hf : t.fits es.size = true) (hn : es.size = n) :
    Walks prog w A I [I, a] [I] n (fun i v => ((pickOrder (w.params.setOrder a ep) es).toList.map (·.2))[i]? = some v) (fun i h => IsSI h I (.int (0 : Nat) 0) i a n ep ∧ h.get? a = some o) where
  sub := fun b hb => by simp at hb; simp [hb]
  frame := fun _ _ _ st hk => ⟨st.1.at fun o e => hk I (by simp) o e, hk a (by simp) o st.2⟩
  item := fun i s Q E hi st hQ => by
    have sz : (pickOrder (w.params.setOrder a ep) es).size = n := by
      have := (pickOrder_perm (w.params.setOrder a ep) es).length_eq
      simpa [hn] using this
    have e : (pickOrder (w.params.setOrder a ep) es)[i]? = some (pickOrder (w.params.setOrder a ep) es)[i] := Array.getElem?_eq_getElem (by omega)
    refine si_item_int (x := (pickOrder (w.params.setOrder a ep) es)[i].2) (nxt := 0) st.1 st.2 hd hf hn (fun A' E' Q' hq => next_text hb st.2 hd hf ?_) fun h' hi' hs' => ?_
    · rw [e]; exact hq
    · exact hQ _ h' s.toks (by rw [List.getElem?_map, Array.getElem?_toList, e]; rfl) ⟨hi', (hs'.2 a ne).trans st.2⟩ fun b o hb e => (hs'.2 b (fun z => hb (by simp [z]))).trans e
  done := fun s Q E st hQ => by
    have sz : (pickOrder (w.params.setOrder a ep) es).size = n := by
      have := (pickOrder_perm (w.params.setOrder a ep) es).length_eq
      simpa [hn] using this
    refine si_end_int hh st.1 st.2 hd hf hn (fun A' E' Q' hq => next_text hb st.2 hd hf ?_) fun h' hx => hQ h' s.toks fun b o hb e => hx b o (fun z => hb (by simp [z])) e
    rw [Array.getElem?_eq_none (by omega)]; exact hq
  self := fun _ _ _ _ st hQ => si_self st.1 hQ
def slotOf (t : SetTable) : Nat → Nat
  | 0 => 0
  | i + 1 => t.place.getD i 0 + 1
theorem below_slot {t : SetTable} (h : Up t.place) {i : Nat} (hi : i ≤ t.place.size) : SetTable.below t.place (slotOf t i) = i := by
  obtain ⟨b1, b2, b3⟩ := below_spec (j := slotOf t i) h
  rcases Nat.lt_trichotomy (SetTable.below t.place (slotOf t i)) i with z | z | z
  · exfalso
    obtain ⟨k, rfl⟩ : ∃ k, i = k + 1 := ⟨i - 1, by omega⟩
    have hk : k < t.place.size := by omega
    have e : t.place[k]? = some t.place[k] := Array.getElem?_eq_getElem hk
    have := b3 k _ (by omega) e
    have g : slotOf t (k + 1) = t.place[k] + 1 := by simp [slotOf, Array.getD, hk]
    omega
  · exact z
  · exfalso
    have hi' : i < t.place.size := by omega
    have e : t.place[i]? = some t.place[i] := Array.getElem?_eq_getElem hi'
    have l := b2 i _ z e
    cases i with
    | zero => simp [slotOf] at l
    | succ k =>
      have hk : k < t.place.size := by omega
      have g : slotOf t (k + 1) = t.place[k] + 1 := by simp [slotOf, Array.getD, hk]
      have := h.lt (Nat.lt_succ_self k) (Array.getElem?_eq_getElem hk) e
      omega
theorem walk_tab (hh : A.handled = none) (ne : a ≠ I) (hb : w.params.followText "set-order" = false) (ti : TI (ledW w) t) (nd : (!t.plain && decide (es.size > 1)) = false) (hd : o.data = .set es ep t) (hf : t.fits es.size = true) (hn : es.size = n) :
    Walks prog w A I [I, a] [I] n (fun i v => (es.toList.map (·.2))[i]? = some v) (fun i h => IsSI h I (.int (slotOf t i : Nat) 0) i a n ep ∧ h.get? a = some o) := by
  have ps : t.place.size = es.size := by
    unfold SetTable.fits at hf
    simp only [Bool.and_eq_true, beq_iff_eq] at hf
    exact hf.1
  have up : Up t.place := by
    cases hp : t.plain with
    | true => exact ti.2 hp
    | false =>
      rw [hp] at nd
      simp at nd
      unfold Up
      match e : t.place.toList with
      | [] => exact List.Pairwise.nil
      | [x] => exact List.pairwise_singleton _ _
      | _ :: _ :: _ =>
        exfalso
        have := congrArg List.length e
        simp at this
        omega
  exact {
    sub := fun b hb => by simp at hb; simp [hb]
    frame := fun _ _ _ st hk => ⟨st.1.at fun o e => hk I (by simp) o e, hk a (by simp) o st.2⟩
    item := fun i s Q E hi st hQ => by
      have e : es[i]? = some es[i] := Array.getElem?_eq_getElem (by omega)
      have e' : t.place[i]? = some t.place[i] := Array.getElem?_eq_getElem (by omega)
      refine si_item_int (x := es[i].2) (nxt := t.place[i] + 1) st.1 st.2 hd hf hn (fun A' E' Q' hq => next_tab hb ti nd st.2 hd hf ?_) fun h' hi' hs' => ?_
      · rw [below_slot up (by omega), e, e']; exact hq
      · refine hQ _ h' s.toks (by rw [List.getElem?_map, Array.getElem?_toList, e]; rfl) ⟨?_, (hs'.2 a ne).trans st.2⟩ fun b o hb e => (hs'.2 b (fun z => hb (by simp [z]))).trans e
        have g : slotOf t (i + 1) = t.place[i] + 1 := by
          have : i < t.place.size := by omega
          simp [slotOf, Array.getD, this]
        rw [g]; exact hi'
    done := fun s Q E st hQ => by
      refine si_end_int hh st.1 st.2 hd hf hn (fun A' E' Q' hq => next_tab hb ti nd st.2 hd hf ?_) fun h' hx => hQ h' s.toks fun b o hb e => hx b o (fun z => hb (by simp [z])) e
      rw [below_slot up (by omega), Array.getElem?_eq_none (by omega)]
      exact hq
    self := fun _ _ _ _ st hQ => si_self st.1 hQ }
theorem walk_drawn {T : Addr} {ps : List Nat} (hh : A.handled = none) (ne : a ≠ I) (nT : T ≠ I) (hd : o.data = .set es ep t) (hf : t.fits es.size = true) (hn : es.size = n) (hp : ps.Perm (List.range n)) :
    Walks prog w A I [I, a, T] [I] n (fun i v => (ps.map fun p => (es.getD p (0, .none)).2)[i]? = some v)
      (fun i h => IsSI h I (.ref T) i a n ep ∧ h.get? a = some o ∧ h.get? T = some { cls := .type "tuple", data := .seq (ps.map fun (p : Nat) => rawInt p).toArray 0 }) where
  sub := fun b hb => by simp at hb; simp [hb]
  frame := fun _ _ _ st hk => ⟨st.1.at fun o e => hk I (by simp) o e, hk a (by simp) o st.2.1, hk T (by simp) _ st.2.2⟩
  item := fun i s Q E hi st hQ => by
    have pl : ps.length = n := by rw [hp.length_eq]; simp
    have ei : ps[i]? = some ps[i] := List.getElem?_eq_getElem (by omega)
    have lt : ps[i] < es.size := by
      have : ps[i] ∈ List.range n := hp.mem_iff.mp (List.getElem_mem _)
      rw [List.mem_range] at this
      omega
    have e : es[ps[i]]? = some (es[ps[i]].1, es[ps[i]].2) := Array.getElem?_eq_getElem lt
    refine si_item_ref (tk := 0) (p := ps[i]) (c := 0) st.1 st.2.1 hd hf hn st.2.2 rfl ?_ e fun h' hi' hs' => ?_
    · rw [List.getElem?_toArray, List.getElem?_map, ei]; rfl
    · exact hQ _ h' s.toks (by rw [List.getElem?_map, ei]; simp [Array.getD, lt]) ⟨hi', (hs'.2 a ne).trans st.2.1, (hs'.2 T nT).trans st.2.2⟩ fun b o hb e => (hs'.2 b (fun z => hb (by simp [z]))).trans e
  done := fun s Q E st hQ => by
    have pl : ps.length = n := by rw [hp.length_eq]; simp
    refine si_end_ref hh st.1 st.2.1 hd hf hn st.2.2 (c := 0) rfl ?_ fun h' hx => hQ h' s.toks fun b o hb e => hx b o (fun z => hb (by simp [z])) e
    rw [List.getElem?_toArray, List.getElem?_map, List.getElem?_eq_none (by omega)]; rfl
  self := fun _ _ _ _ st hQ => si_self st.1 hQ
end
end Sr

set_option maxHeartbeats 4000000
namespace Sr
open PySem PyProof.Rows
abbrev siObj (f : Value) (a : Addr) (n ep : Nat) : Obj := { cls := .type "set_iterator", data := .fields #[f, .int 0 0, .ref a, .int n 0, .int ep 0] }
abbrev plObj (ps : List Nat) : Obj := { cls := .type "tuple", data := .seq (ps.map fun (p : Nat) => rawInt p).toArray 0 }
section
variable {prog : Program} {w : World} {A : Around} {E : Value → Shared → Prop} {s : Shared} {I a : Addr} {o : Obj} {es : Array (Int × Value)} {ep i n : Nat} {t : SetTable}
theorem iter_set {Q : Value → Shared → Prop} (ho : s.heap.get? a = some o) (hex : o.ExactSet) (hd : o.data = .set es ep t) (hf : t.fits es.size = true) (hz : es.size ≤ sizeLine)
    (h0 : (!w.params.followText "set-order" && (!t.plain && decide (es.size > 1))) = false → Q (.ref s.heap.objs.size) { s with heap := s.heap.push (siObj (.int 0 0) a es.size ep) })
    (h1 : (!w.params.followText "set-order" && (!t.plain && decide (es.size > 1))) = true → ∀ ps d', ps.Perm (List.range es.size) → Q (.ref (s.heap.objs.size + 1)) { s with drawn := d', heap := (s.heap.push (plObj ps)).push (siObj (.ref s.heap.objs.size) a es.size ep) }) :
    wpAny (model prog w) A (pyIter (.ref a)) Q E s := by
  have hT : s.TypeIs (.ref a) "set" := ⟨o, ho, hex.1⟩
  refine wpAny_pyIter_slot hT PySem.F.slot_set_iter (wpAny_call_entry PySem.F.slot_set_iter hT it_entry ?_ (PySem.F.args_set_iter_1 _))
  unfold Builtin.«frozenset.__iter__» Builtin.Frozenset.slot0 slotArgs
  simp only [List.isEmpty_nil, Bool.not_true, Bool.false_eq_true, ↓reduceIte, bind_assoc, List.length_nil, bne_self_eq_false]
  unfold Builtin.Frozenset.addrOf Builtin.Frozenset.sizeOf setDrawn
  refine wpAny_bind (wpAny_pure ?_)
  try dsimp only
  refine wpAny_bind (wpAny_pure ?_)
  refine wpAny_bind (wpAny_bind (wpAny_setEntries_of ho hd hf (wpAny_pure ?_)))
  refine wpAny_bind (wpAny_bind (wpAny_setState_of ho hd hf (wpAny_bind (wpAny_byText (wpAny_pure ?_)))))
  show wpAny _ _ (if (!w.params.followText "set-order" && (!t.plain && decide (es.size > 1))) = true then _ else _) _ _ _
  cases hb : (!w.params.followText "set-order" && (!t.plain && decide (es.size > 1))) with
  | false =>
    rw [if_neg (by simp)]
    refine wpAny_bind (wpAny_pure (wpAny_bind (wpAny_setEpoch_of ho hd hf ?_)))
    unfold newFields
    refine wpAny_bind (wpAny_newObj_type (wpAny_pure ⟨_, rfl, "set_iterator", _, ⟨_, Heap.get?_push_size _ rfl, rfl⟩, si_slot.lookup, ?_⟩))
    simpa [rawInt] using h0 hb
  | true =>
    rw [if_pos rfl]
    refine wpAny_bind (wpAny_draw es.size _ _ (by simp) fun ps d' hp => ?_)
    have pl : ps.length = es.size := by rw [hp.length_eq]; simp
    refine wpAny_bind (wpAny_newTuple ?_ (by rw [List.length_map, pl]; exact hz))
    have ho' : (s.heap.push (plObj ps)).get? a = some o := Heap.get?_push_of_some _ ho
    refine wpAny_bind (wpAny_setEpoch_of ho' hd hf ?_)
    unfold newFields
    refine wpAny_bind (wpAny_newObj_type (wpAny_pure ⟨_, rfl, "set_iterator", _, ⟨_, Heap.get?_push_size _ rfl, rfl⟩, si_slot.lookup, ?_⟩))
    have := h1 hb ps d' hp
    show Q (.ref (s.heap.push (plObj ps)).objs.size) _
    rw [Heap.size_push]
    exact this
theorem hint_set {Q : Bool → Shared → Prop} (hT : s.TypeIs (.ref a) "set") (h : Q false s) : wpAny (model prog w) A (Builtin.List.listLengthHint (.ref a)) Q E s := by
  unfold Builtin.List.listLengthHint
  refine wpAny_bind (wpAny_specialOf hT PySem.F.slot_set_len.lookup ?_)
  generalize hid : ("set.__len__" : String) = id0
  wp_delta
  rw [show splitId id0 = some ("set", "__len__") from by subst hid; decide +kernel]
  subst hid
  refine wpAny_bind (wpAny_isInstance (T := "set") (b := true) hT (by rw [isSubtype_type]; kernel_rfl) ?_)
  refine wpAny_ite_split (fun hab => absurd hab (by decide)) (fun _ => ?_)
  refine wpAny_ite_split (fun _ => ?_) (fun hab => absurd (by decide +kernel) hab)
  refine wpAny_bind (wpAny_typeOf hT ?_)
  exact wpAny_pure h
/-- what a walk of a set leaves in a list -/
def Taken (es : Array (Int × Value)) (acc : Array Value) : Prop := acc.toList.Perm (es.toList.map (·.2))
theorem taken_of {ord : List Value} {acc : Array Value} (hp : ord.Perm (es.toList.map (·.2))) (hi : ItemsOf (fun i v => ord[i]? = some v) acc es.size) : Taken es acc := by
  have e : acc.toList = ord := by
    apply List.ext_getElem
    · have := hp.length_eq
      simp at this
      simp [hi.1, this]
    · intro j h1 h2
      have this : ord[j]? = some acc.toList[j] := hi.2 j acc.toList[j] (by rw [← Array.getElem?_toList]; exact List.getElem?_eq_getElem h1)
      rw [List.getElem?_eq_getElem h2] at this
      exact (Option.some.inj this).symm
  unfold Taken
  rw [e]; exact hp
theorem set_extend {R : Result → Shared → Prop} (hh : A.handled = none) (ho : s.heap.get? a = some o) (hex : o.ExactSet) (hd : o.data = .set es ep t) (hf : t.fits es.size = true) (hz : es.size ≤ sizeLine) (ti : TI (ledW w) t)
    (S : Addr) (hSa : S ≠ a) (res : Value) (hS : s.heap.get? S = some { cls := .type "list", data := .seq #[] 0 })
    (hR : ∀ h' tk d' acc' c', (∀ b o, b ≠ S → s.heap.get? b = some o → h'.get? b = some o) → h'.get? S = some { cls := .type "list", dict := none, data := .seq acc' c', slots := #[] } → Taken es acc' → R (.ok (.ret res)) { s with heap := h', toks := tk, drawn := d' }) :
    wpAny (model prog w) A.in1 (Builtin.List.listExtendWith (.ref S) (.ref a) res)
      (fun fin s' => match fin with | .done f => R (.ok f) s' | .again c' => c'.quiet = true ∧ codeAny (model prog w) A c' R s') (fun e s' => R (.error e) s') s := by
  have hT : s.TypeIs (.ref a) "set" := ⟨o, ho, hex.1⟩
  have aS : a < s.heap.objs.size := Heap.lt_size ho
  have lS : S < s.heap.objs.size := Heap.lt_size hS
  unfold Builtin.List.listExtendWith
  refine wpAny_bind (wpAny_typeOf (T := "set") hT ?_)
  have h1 : Builtin.List.listSameRef (.ref S) (.ref a) = false := by simp [Builtin.List.listSameRef, hSa]
  have n1 : (Value.type "set" == Value.type "list") = false := by decide
  have n2 : (Value.type "set" == Value.type "tuple") = false := by decide
  simp only [h1, n1, n2, Bool.or_false, Bool.false_eq_true, if_false]
  -- from a walk at I on
  have go : ∀ (I : Addr) (fp : List Addr) (ord : List Value) (St : Nat → Heap → Prop) (h : Heap) (d' : Drawn), Walks prog w A.in1 I fp [I] es.size (fun i v => ord[i]? = some v) St → St 0 h → ord.Perm (es.toList.map (·.2)) → S ∉ fp → s.heap.objs.size ≤ I →
      (∀ b o, s.heap.get? b = some o → h.get? b = some o) →
      ∀ B : Bool, wpAny (model prog w) A.in1 (do
        let x ← holding [Value.ref I] (Builtin.List.listLengthHint (.ref a))
        if (x || B) = true then do
          rule "list.extend.makes-room"
          Builtin.List.listTouch (.ref S)
          again (.builtin "list.extend.loop" ⟨[.ref S, .ref I, res], []⟩)
        else again (.builtin "list.extend.loop" ⟨[.ref S, .ref I, res], []⟩))
      (fun fin s' => match fin with | .done f => R (.ok f) s' | .again c' => c'.quiet = true ∧ codeAny (model prog w) A c' R s') (fun e s' => R (.error e) s') { s with heap := h, drawn := d' } := by
    intro I fp ord St h d' W st hp hSf hI hk B
    have key : ∀ (g : Heap) (c₁ tk : Nat), St 0 g → (∀ b ob, b ≠ S → s.heap.get? b = some ob → g.get? b = some ob) → g.get? S = some { cls := .type "list", data := .seq #[] c₁ } →
        codeAny (model prog w) A (.builtin "list.extend.loop" ⟨[.ref S, .ref I, res], []⟩) R { s with heap := g, toks := tk, drawn := d' } := by
      intro g c₁ tk hst hg hS₁
      refine codeAny_extend_loopS W.toS hz S hSf res es.size 0 _ #[] c₁ rfl (Nat.zero_le _) hst hS₁ (ItemsOf.nil _) fun s' acc' c' hm hS' hacc => ?_
      rw [Moved.eq_with hm]
      refine hR s'.heap s'.toks d' acc' c' (fun b ob hb e => hm.heap b ob (fun hmem => ?_) (hg b ob hb e)) hS' (taken_of hp hacc)
      rcases List.mem_cons.mp hmem with e' | hmem
      · exact hb e'
      · exact absurd (Heap.lt_size e) (by rw [List.mem_singleton.mp hmem]; exact Nat.not_lt.mpr hI)
    have hS₁ := hk _ _ hS
    refine wpAny_bind (wpAny_holding (hint_set (s := { s with heap := h, drawn := d' }) ⟨o, hk _ _ ho, hex.1⟩ ?_))
    refine wpAny_ite_split (fun _ => ?_) (fun _ => wpAny_pure ⟨plainId_quiet PySem.F.plain_extend_loop _, key _ 0 _ st (fun b ob _ e => hk b ob e) hS₁⟩)
    refine wpAny_bind (wpAny_rule (wpAny_bind ?_))
    show wpAny _ _ (updateSeq S (·.push .none) >>= fun _ => updateSeq S (·.pop)) _ _ _
    refine wpAny_bind (wpAny_updateSeq hS₁ rfl ?_)
    have hS₂ := Heap.get?_update_self (Obj.mapSeq (·.push Value.none)) hS₁ rfl
    refine wpAny_updateSeq (hz := by seq_fits) hS₂ rfl ?_
    have hS₃ := Heap.get?_update_self (Obj.mapSeq (·.pop)) hS₂ rfl
    refine wpAny_pure ⟨plainId_quiet PySem.F.plain_extend_loop _, key _ _ _ ?_ (fun b ob hb e => ?_) hS₃⟩
    · refine W.frame 0 _ _ st fun b hb ob e => ?_
      have hbS : b ≠ S := fun h => hSf (h ▸ hb)
      exact (Heap.get?_update_other _ _ (Ne.symm hbS)).trans ((Heap.get?_update_other _ _ (Ne.symm hbS)).trans e)
    · exact (Heap.get?_update_other _ _ (Ne.symm hb)).trans ((Heap.get?_update_other _ _ (Ne.symm hb)).trans (hk b ob e))
  refine wpAny_bind (iter_set ho hex hd hf hz (fun hb => ?_) fun hb ps d' hp => ?_)
  · cases hc : w.params.followText "set-order" with
    | true =>
      refine go _ _ _ _ _ s.drawn (walk_text (es := es) (ep := ep) (t := t) (A := A.in1) (by simpa using hh) (Nat.ne_of_lt aS) hc hd hf rfl) ⟨⟨siObj (.int 0 0) a es.size ep, Heap.get?_push_size _ rfl, rfl, rfl⟩, Heap.get?_push_of_some _ ho⟩ ((pickOrder_perm _ _).map _) ?_ (Nat.le_refl _) (fun b ob e => Heap.get?_push_of_some _ e) _
      simp only [List.mem_cons, List.not_mem_nil, or_false, not_or]; exact ⟨Nat.ne_of_lt lS, hSa⟩
    | false =>
      rw [hc] at hb
      have nd : (!t.plain && decide (es.size > 1)) = false := by simpa using hb
      refine go _ _ _ _ _ s.drawn (walk_tab (es := es) (ep := ep) (t := t) (A := A.in1) (by simpa using hh) (Nat.ne_of_lt aS) hc ti nd hd hf rfl) ⟨⟨siObj (.int 0 0) a es.size ep, Heap.get?_push_size _ rfl, rfl, rfl⟩, Heap.get?_push_of_some _ ho⟩ (List.Perm.refl _) ?_ (Nat.le_refl _) (fun b ob e => Heap.get?_push_of_some _ e) _
      simp only [List.mem_cons, List.not_mem_nil, or_false, not_or]; exact ⟨Nat.ne_of_lt lS, hSa⟩
  · have sz : (s.heap.push (plObj ps)).objs.size = s.heap.objs.size + 1 := Heap.size_push ..
    refine go _ _ _ _ _ d' (walk_drawn (es := es) (ep := ep) (t := t) (A := A.in1) (T := s.heap.objs.size) (I := s.heap.objs.size + 1) (by simpa using hh) (Nat.ne_of_lt (Nat.lt_succ_of_lt aS)) (Nat.ne_of_lt (Nat.lt_succ_self _)) hd hf rfl hp)
      ⟨⟨siObj (.ref s.heap.objs.size) a es.size ep, by rw [← sz]; exact Heap.get?_push_size _ rfl, rfl, rfl⟩, Heap.get?_push_of_some _ (Heap.get?_push_of_some _ ho), Heap.get?_push_of_some _ (Heap.get?_push_size _ rfl)⟩ ?_ ?_ (Nat.le_succ _) (fun b ob e => Heap.get?_push_of_some _ (Heap.get?_push_of_some _ e)) _
    · refine (hp.map _).trans (List.Perm.of_eq ?_)
      apply List.ext_getElem
      · simp
      · intro j h1 h2
        have : j < es.size := by simpa using h1
        simp [Array.getD, this]
    · simp only [List.mem_cons, List.not_mem_nil, or_false, not_or]; exact ⟨Nat.ne_of_lt (Nat.lt_succ_of_lt lS), hSa, Nat.ne_of_lt lS⟩
end
end Sr

set_option maxHeartbeats 4000000
namespace Sr
open PySem PyProof.Rows PySem.Calls
theorem nodup_sub_perm : ∀ {ds zs : List Int}, ds.Nodup → (∀ k ∈ ds, k ∈ zs) → zs.length ≤ ds.length → ds.Perm zs
  | [], zs, _, _, h => by
    have : zs = [] := List.length_eq_zero_iff.mp (Nat.le_zero.mp h)
    rw [this]
  | d :: ds, zs, hn, hs, h => by
    have hd := hs d (List.mem_cons_self ..)
    refine List.Perm.trans ?_ (List.perm_cons_erase hd).symm
    refine (nodup_sub_perm (List.nodup_cons.mp hn).2 (fun k hk => ?_) ?_).cons d
    · refine (List.mem_erase_of_ne ?_).mpr (hs k (List.mem_cons_of_mem _ hk))
      rintro rfl
      exact (List.nodup_cons.mp hn).1 hk
    · rw [List.length_erase_of_mem hd]
      simp at h
      omega
theorem firstMet_nodup (val : Nat → Int) : ∀ i, (firstMet val i).Nodup
  | 0 => by rw [firstMet_zero]; exact List.nodup_nil
  | i + 1 => by
    rw [firstMet_succ]
    unfold step_dedup
    split
    · exact firstMet_nodup val i
    · rename_i h
      refine List.nodup_append.mpr ⟨firstMet_nodup val i, by simp, fun a ha b hb => ?_⟩
      cases List.mem_singleton.mp hb
      rintro rfl
      exact h (List.any_eq_true.mpr ⟨_, ha, by simp⟩)
theorem mem_firstMet {ns : List Int} {k : Int} : k ∈ firstMet (fun i => ns.getD i 0) ns.length ↔ k ∈ ns := by
  have h := firstMet_any (fun i => ns.getD i 0) ns.length k
  have e : (List.range ns.length).map (fun i => ns.getD i 0) = ns := by
    apply List.ext_getElem
    · simp
    · intro i h1 h2
      simp [List.getD_eq_getElem?_getD, h2]
  rw [e] at h
  have any_mem : ∀ l : List Int, l.any (· == k) = true ↔ k ∈ l := fun l => by
    rw [List.any_eq_true]
    exact ⟨fun ⟨x, hx, e⟩ => by rw [← beq_iff_eq.mp e]; exact hx, fun hx => ⟨k, hx, by simp⟩⟩
  rw [← any_mem, h, any_mem]
section
variable {prog : Program} {w : World} {A : Around} {E : Value → Shared → Prop} {s : Shared} {a : Addr} {o : Obj} {es : Array (Int × Value)} {ep : Nat} {t : SetTable}
theorem collect_set {R : List Value → Shared → Prop} (hh : A.handled = none) (ho : s.heap.get? a = some o) (hex : o.ExactSet) (hd : o.data = .set es ep t) (hf : t.fits es.size = true) (hz : es.size ≤ sizeLine) (ti : TI (ledW w) t)
    (h : ∀ (h' : Heap) (tk : Nat) (d' : Drawn) (acc : Array Value), (∀ b o, s.heap.get? b = some o → h'.get? b = some o) → s.heap.objs.size ≤ h'.objs.size → Taken es acc → R acc.toList { s with heap := h', toks := tk, drawn := d' }) :
    wpAny (model prog w) A (collect (.ref a)) R E s := by
  have hlt := Heap.lt_size ho
  unfold collect
  refine wpAny_bind (wpAny_runValue (codeAny_builtin entry_proto_collect' ?_))
  rw [Around.under_plainId PySem.F.plain_proto_collect _]
  show wpAny _ A.in1 (newList [] >>= fun l => again (.builtin "list.__iadd__" ⟨[l, .ref a], []⟩)) _ _ s
  refine wpAny_bind (wpAny_newObj_type (wpAny_pure ⟨plainId_quiet PySem.F.plain_list_iadd _, codeAny_builtin entry_list_iadd' ?_⟩))
  rw [Around.under_plainId PySem.F.plain_list_iadd _]
  have hS₁ : (s.heap.push { cls := .type "list", data := .seq ([] : List Value).toArray }).get? s.heap.objs.size = some { cls := .type "list", data := .seq #[] } := Heap.get?_push_size _ rfl
  show wpAny _ A.in1 (Builtin.List.listExtendWith (.ref s.heap.objs.size) (.ref a) (.ref s.heap.objs.size)) _ _ _
  have key := set_extend (prog := prog) (A := A) (s := { s with heap := s.heap.push { cls := .type "list", data := .seq ([] : List Value).toArray } })
    (R := fun (q : Result) (s' : Shared) => ∃ (h' : Heap) (tk : Nat) (d' : Drawn) (acc' : Array Value) (c' : Nat), q = .ok (.ret (.ref s.heap.objs.size)) ∧ s' = { s with heap := h', toks := tk, drawn := d' } ∧
      (∀ b o, s.heap.get? b = some o → h'.get? b = some o) ∧ h'.get? s.heap.objs.size = some { cls := .type "list", dict := none, data := .seq acc' c', slots := #[] } ∧ Taken es acc')
    hh (Heap.get?_push_of_some _ ho) hex hd hf hz ti s.heap.objs.size (Nat.ne_of_gt hlt) (.ref s.heap.objs.size) hS₁
    (fun h' tk d' acc' c' hk hS' hacc => ⟨h', tk, d', acc', c', rfl, rfl, fun b o e => hk b o (Nat.ne_of_lt (Heap.lt_size e)) (Heap.get?_push_of_some _ e), hS', hacc⟩)
  refine wpAny_mono key (fun fin s' x => ?_) fun e s' x => ?_
  · cases fin with
    | done f =>
      obtain ⟨h', tk, d', acc', c', e, rfl, hk, hS', hacc⟩ := x
      cases e
      show wpAny _ A (load s.heap.objs.size >>= _) _ _ _
      exact wpAny_bind (wpAny_load hS' (wpAny_pure (h h' tk d' acc' hk (Nat.le_of_lt (Heap.lt_size hS')) hacc)))
    | again c₁ =>
      refine ⟨x.1, codeAny_mono x.2 fun q s₂ y => ?_⟩
      obtain ⟨h', tk, d', acc', c', rfl, rfl, hk, hS', hacc⟩ := y
      show wpAny _ A (load s.heap.objs.size >>= _) _ _ _
      exact wpAny_bind (wpAny_load hS' (wpAny_pure (h h' tk d' acc' hk (Nat.le_of_lt (Heap.lt_size hS')) hacc)))
  · obtain ⟨_, _, _, _, _, e', _⟩ := x
    cases e'
/-- the numbers of a set -/
theorem set_vals {led : Bool} {ds : List Int} (hel : ElemsOf (intKind prog w) es.toList) (hm : ∀ k, ds.any (· == k) = true ↔ ∃ e ∈ es.toList, (intKind prog w).is k e.2 = true) (hn : es.size = ds.length) (nd : ds.Nodup) :
    IntsAre (es.toList.map (·.2)) (es.toList.map fun e => numOf e.2) ∧ (es.toList.map fun e => numOf e.2).Perm ds := by
  have shape : ∀ e ∈ es.toList, ∃ k t, e.2 = .int k t := fun e he => by
    obtain ⟨⟨k, hk, _⟩, _⟩ := hel e he
    obtain ⟨t, e⟩ := Value.isInt_shape (k := k) (v := e.2) hk
    exact ⟨k, t, e⟩
  refine ⟨?_, ?_⟩
  · have := intsAre_map (es.toList.map (·.2)) (by
      intro v hv
      obtain ⟨e, he, rfl⟩ := List.mem_map.mp hv
      exact shape e he)
    rwa [List.map_map] at this
  · refine (nodup_sub_perm nd (fun k hk => ?_) (by simp; omega)).symm
    obtain ⟨e, he, hi⟩ := (hm k).mp (List.any_eq_true.mpr ⟨k, hk, by simp⟩)
    obtain ⟨t, e'⟩ := Value.isInt_shape (k := k) (v := e.2) hi
    exact List.mem_map.mpr ⟨e, he, by rw [e']; rfl⟩
end
end Sr
namespace L2
open PySem PySem.Spec PyProof.Rows PySem.W
section
variable {X : Cx}
/-- a set of numbers that can be walked -/
abbrev setO (X : Cx) (a : Addr) (ds : List Int) : HO := .ext (Sr.SetW X.prog X.w (Sr.ledW X.w) a (fun k => ds.any (· == k)) ds.length)
theorem call_setL (hc : X.calm = true) : CallR X (.type "set") (fun xs H Q => ∃ (l : Addr) (ns : List Int), xs = [.ref l] ∧ H l = some (.lst (ns.map V.int)) ∧ ns.length < 4000 ∧
    ∀ (a : Addr) (ds : List Int), H a = none → ds.Nodup → (∀ k, k ∈ ds ↔ k ∈ ns) → ds.length ≤ ns.length → Q (.ref a) (upd H a (setO X a ds))) := by
  intro pins s σ H xs us Q I r h
  obtain ⟨l, ns, rfl, hq, hl, q⟩ := h
  obtain ⟨u, rfl, rx⟩ := vals1 r
  cases rx
  obtain ⟨_, its, n, rv, e⟩ := I.hok l _ hq
  have ln : its.length = ns.length := by
    have := rv.length
    rw [List.length_map] at this
    omega
  have sz : its.toArray.size = ns.length := by simp [ln]
  refine Sr.set_list (items := its.toArray) (ns := ns) (I.ok.hd hc) ⟨_, e, rfl, n, rfl⟩ (by simpa using ints_are rv) (by rw [sz]; unfold scanBound; omega) fun h' tk hS hk => ?_
  rw [sz] at hS
  have I1 := I.laid (a := s.heap.objs.size) (o := setO X s.heap.objs.size (firstMet (fun i => ns.getD i 0) ns.length)) (t' := tk) (fun b ob e => hk b ob (Heap.lt_size e) e) (Nat.le_refl _)
    (show ObjOk _ _ _ _ _ _ from ⟨hS, let ⟨o, _, _, _, e, _⟩ := hS; ⟨o, e⟩, fun h1 h2 x k => x.at k⟩)
  exact ⟨.ref s.heap.objs.size, _, I1, rfl, q _ _ (I.hok.fresh (Nat.le_refl _)) (Sr.firstMet_nodup _ _) (fun k => Sr.mem_firstMet) (firstMet_length_le _ _)⟩
/-- sorted(a set of numbers) -/
theorem call_sortedS (hc : X.calm = true) : CallR X (.builtin "sorted") (fun xs H Q => ∃ (a : Addr) (ds : List Int), xs = [.ref a] ∧ H a = some (setO X a ds) ∧ ds.Nodup ∧ ds.length < 4000 ∧
    ∀ (l : Addr) (ns' : List Int), H l = none → ns'.Perm ds → ns'.Pairwise (· ≤ ·) → Q (.ref l) (upd H l (.lst (ns'.map V.int)))) := by
  intro pins s σ H xs us Q I r h
  obtain ⟨a, ds, rfl, hq, nd, hl, q⟩ := h
  obtain ⟨u, rfl, rx⟩ := vals1 r
  cases rx
  obtain ⟨⟨o, es, ep, t, e1, e2, e3, e4, e5, e6, e7, e8, e9⟩, _, _⟩ := I.hok a _ hq
  have sl : sizeLine = 16777216 := sizeLine_eq
  obtain ⟨iv, pv⟩ := Sr.set_vals (led := Sr.ledW X.w) e4 e5 e8 nd
  refine Calls.call_function_entry kind_sorted plain_sorted entry_sorted (args_sorted1 _) ?_
  unfold Builtin.«sorted»
  refine wpAny_bind (m := checkCount "sorted" 1 1 _) (wpAny_pure ?_)
  refine wpAny_bind (Sr.collect_set (A := X.A.in1) (by simpa using I.ok.hd hc) e1 e2 e3 e7 (by omega) e9 fun h' tk d' acc hk ge hacc => ?_)
  have al : acc.toList.length = ds.length := by rw [hacc.length_eq]; simp; omega
  refine wpAny_bind (wpAny_newList ?_ (by rw [al]; omega))
  -- the numbers as they came
  obtain ⟨zs, rz, pz⟩ : ∃ zs : List Int, Vals (zs.map V.int) acc.toList ∧ zs.Perm ds := by
    refine ⟨acc.toList.map numOf, ints_vals (intsAre_map _ fun v hv => ?_), ?_⟩
    · exact iv.all v (hacc.mem_iff.mp hv)
    · refine ((hacc.map numOf).trans (List.Perm.of_eq ?_)).trans pv
      rw [List.map_map]; rfl
  have hD : (h'.push { cls := .type "list", data := .seq acc.toList.toArray }).get? h'.objs.size = some (seqObj "list" acc.toList.toArray 0) := Heap.get?_push_size _ rfl
  refine wpAny_bind (wpAny_holding (sort_intsA (n := 0) hD rz (by rw [al]; omega) fun os ns' r' pm pw => ?_))
  refine wpAny_pure ⟨_, rfl, ?_⟩
  obtain ⟨c, at_⟩ := sortedHeap_at (out := os.toArray) hD
  have old : ∀ b ob, s.heap.get? b = some ob → (sortedHeap (h'.push { cls := .type "list", data := .seq acc.toList.toArray }) h'.objs.size acc.toList os.toArray).get? b = some ob := fun b ob e => by
    have e' := hk b ob e
    rw [sortedHeap_old (Nat.ne_of_lt (Heap.lt_size e')) (by rw [Heap.size_push]; exact Nat.lt_succ_of_lt (Heap.lt_size e'))]
    exact Heap.get?_push_of_some _ e'
  have I0 : Inv X pins σ H { s with drawn := d' } := I.step (h' := s.heap) (g' := s.gens) (d' := d') (t' := s.toks) (ch := []) (fun _ z => nomatch z) (fun b o _ _ _ e _ => e) (fun b o _ _ _ e _ => ⟨o.slots, e⟩) (fun b o _ _ n => n) (fun b o _ e => ⟨o, e⟩) (fun _ _ e => e) (fun _ _ _ e => e) (fun b ps e => ⟨#[], by rw [e]; simp⟩) (fun m hm => hm) I.hok I.bare
  have I1 := I0.laid (a := h'.objs.size) (o := .lst (ns'.map V.int)) (t' := tk) old ge (show ObjOk _ _ _ _ _ _ from ⟨by rw [List.length_map, pm.length_eq, pz.length_eq]; omega, os, c, r', at_⟩)
  exact ⟨.ref h'.objs.size, _, I1, rfl, q _ _ (I.hok.fresh ge) (pm.trans pz) pw⟩
end
end L2

namespace Lm
abbrev Ps := List (Int × Int)
/-- the places of stretches -/
def mem (ps : Ps) (x : Int) : Prop := ∃ p ∈ ps, p.1 ≤ x ∧ x < p.2
theorem mem_nil {x : Int} : mem [] x ↔ False := by simp [mem]
theorem mem_cons {p : Int × Int} {t : Ps} {x : Int} : mem (p :: t) x ↔ (p.1 ≤ x ∧ x < p.2) ∨ mem t x := by simp [mem]
theorem mem_app {s t : Ps} {x : Int} : mem (s ++ t) x ↔ mem s x ∨ mem t x := by
  induction s with
  | nil => simp [mem_nil]
  | cons p s ih => rw [List.cons_append, mem_cons, mem_cons, ih, or_assoc]
theorem mem_perm {s t : Ps} (h : s.Perm t) {x : Int} : mem s x ↔ mem t x := by
  unfold mem
  constructor
  · rintro ⟨p, hp, z⟩
    exact ⟨p, h.mem_iff.mp hp, z⟩
  · rintro ⟨p, hp, z⟩
    exact ⟨p, h.mem_iff.mpr hp, z⟩
/-- a work, and one in its short form -/
def Wk : Ps → Prop
  | [] => True
  | p :: t => p.1 < p.2 ∧ (∀ q ∈ t, p.2 ≤ q.1) ∧ Wk t
def Sh : Ps → Prop
  | [] => True
  | p :: t => p.1 < p.2 ∧ (∀ q ∈ t, p.2 < q.1) ∧ Sh t
theorem Sh.wk : ∀ {t : Ps}, Sh t → Wk t
  | [], _ => trivial
  | _ :: _, ⟨h1, h2, h3⟩ => ⟨h1, fun q hq => Int.le_of_lt (h2 q hq), Sh.wk h3⟩
theorem Sh.lt : ∀ {t : Ps}, Sh t → ∀ q ∈ t, q.1 < q.2
  | _ :: _, ⟨h1, h2, h3⟩, q, hq => by
    rcases List.mem_cons.mp hq with rfl | hq
    · exact h1
    · exact Sh.lt h3 q hq
theorem Wk.lt : ∀ {t : Ps}, Wk t → ∀ q ∈ t, q.1 < q.2
  | _ :: _, ⟨h1, h2, h3⟩, q, hq => by
    rcases List.mem_cons.mp hq with rfl | hq
    · exact h1
    · exact Wk.lt h3 q hq
theorem mem_ge {t : Ps} {b x : Int} (h : ∀ q ∈ t, b ≤ q.1) (hx : mem t x) : b ≤ x := by
  obtain ⟨p, hp, z, _⟩ := hx
  have := h p hp
  omega
theorem sh_first {p : Int × Int} {t : Ps} (h : Sh (p :: t)) {x : Int} (hx : mem (p :: t) x) : p.1 ≤ x := by
  rcases mem_cons.mp hx with z | z
  · exact z.1
  · have := mem_ge (b := p.2) (fun q hq => Int.le_of_lt (h.2.1 q hq)) z
    have := h.1
    omega
theorem sh_rest {p : Int × Int} {t : Ps} (h : Sh (p :: t)) {x : Int} : mem t x ↔ mem (p :: t) x ∧ p.2 ≤ x := by
  constructor
  · intro z
    exact ⟨mem_cons.mpr (.inr z), mem_ge (fun q hq => Int.le_of_lt (h.2.1 q hq)) z⟩
  · rintro ⟨z, w⟩
    rcases mem_cons.mp z with z | z
    · omega
    · exact z
theorem sh_end {p : Int × Int} {t : Ps} (h : Sh (p :: t)) : ¬ mem (p :: t) p.2 := by
  intro z
  rcases mem_cons.mp z with z | z
  · omega
  · obtain ⟨q, hq, z1, _⟩ := z
    have := h.2.1 q hq
    omega
/-- one short form for the same places -/
theorem sh_same : ∀ {s t : Ps}, Sh s → Sh t → (∀ x, mem s x ↔ mem t x) → s = t
  | [], [], _, _, _ => rfl
  | [], q :: t, _, ht, e => by
    have := (e q.1).mpr (mem_cons.mpr (.inl ⟨Int.le_refl _, ht.1⟩))
    exact (mem_nil.mp this).elim
  | p :: s, [], hs, _, e => by
    have := (e p.1).mp (mem_cons.mpr (.inl ⟨Int.le_refl _, hs.1⟩))
    exact (mem_nil.mp this).elim
  | p :: s, q :: t, hs, ht, e => by
    have l1 : q.1 ≤ p.1 := sh_first ht ((e p.1).mp (mem_cons.mpr (.inl ⟨Int.le_refl _, hs.1⟩)))
    have l2 : p.1 ≤ q.1 := sh_first hs ((e q.1).mpr (mem_cons.mpr (.inl ⟨Int.le_refl _, ht.1⟩)))
    have h1 : ¬ p.2 < q.2 := fun z => sh_end hs ((e p.2).mpr (mem_cons.mpr (.inl ⟨by have := hs.1; omega, z⟩)))
    have h2 : ¬ q.2 < p.2 := fun z => sh_end ht ((e q.2).mp (mem_cons.mpr (.inl ⟨by have := ht.1; omega, z⟩)))
    have pq : p = q := by
      apply Prod.ext
      · omega
      · omega
    subst pq
    have : s = t := sh_same hs.2.2 ht.2.2 fun x => by rw [sh_rest hs, sh_rest ht, e x]
    rw [this]
theorem sh_app : ∀ {s t : Ps}, Sh s → Sh t → (∀ p ∈ s, ∀ q ∈ t, p.2 < q.1) → Sh (s ++ t)
  | [], _, _, ht, _ => ht
  | p :: s, t, hs, ht, h => by
    refine ⟨hs.1, fun q hq => ?_, sh_app hs.2.2 ht fun a ha b hb => h a (List.mem_cons_of_mem _ ha) b hb⟩
    rcases List.mem_append.mp hq with hq | hq
    · exact hs.2.1 q hq
    · exact h p (List.mem_cons_self ..) q hq

/-! ### merging -/
def mg : Int × Int → Ps → Ps
  | c, [] => [c]
  | c, p :: t => if p.1 ≤ c.2 then mg (c.1, if p.2 > c.2 then p.2 else c.2) t else c :: mg p t
def merged : Ps → Ps
  | [] => []
  | p :: t => mg p t
/-- rising by their lows -/
def Lo : Ps → Prop
  | [] => True
  | p :: t => p.1 < p.2 ∧ (∀ q ∈ t, p.1 ≤ q.1) ∧ Lo t
theorem Wk.lo : ∀ {t : Ps}, Wk t → Lo t
  | [], _ => trivial
  | _ :: _, ⟨h1, h2, h3⟩ => ⟨h1, fun q hq => by have := h2 q hq; omega, Wk.lo h3⟩
theorem mg_ok : ∀ {t : Ps} {c : Int × Int}, c.1 < c.2 → (∀ q ∈ t, c.1 ≤ q.1) → Lo t → Sh (mg c t) ∧ (∀ p ∈ mg c t, c.1 ≤ p.1) ∧ (∀ x, mem (mg c t) x ↔ (c.1 ≤ x ∧ x < c.2) ∨ mem t x) ∧ (mg c t).length ≤ t.length + 1
  | [], c, h, _, _ => by
    refine ⟨⟨h, by simp, trivial⟩, fun p hp => ?_, fun x => ?_, Nat.le_refl _⟩
    · rw [List.mem_singleton.mp hp]
      exact Int.le_refl _
    · show mem [c] x ↔ _
      rw [mem_cons]
  | p :: t, c, h, hq, hl => by
    have hp := hq p (List.mem_cons_self ..)
    have hpp := hl.1
    by_cases z : p.1 ≤ c.2
    · have e : mg c (p :: t) = mg (c.1, if p.2 > c.2 then p.2 else c.2) t := by
        show (if p.1 ≤ c.2 then _ else _) = _
        rw [if_pos z]
      rw [e]
      have hm : c.1 < (if p.2 > c.2 then p.2 else c.2) := by split <;> omega
      obtain ⟨i1, i2, i3, i4⟩ := mg_ok (t := t) (c := (c.1, if p.2 > c.2 then p.2 else c.2)) hm (fun q hq' => by have := hl.2.1 q hq'; show c.1 ≤ q.1; omega) hl.2.2
      refine ⟨i1, i2, fun x => ?_, by rw [List.length_cons]; omega⟩
      rw [i3 x, mem_cons]
      show (c.1 ≤ x ∧ x < (if p.2 > c.2 then p.2 else c.2)) ∨ mem t x ↔ _
      by_cases m : mem t x
      · simp [m]
      · simp only [m, or_false]
        split <;> omega
    · have e : mg c (p :: t) = c :: mg p t := by
        show (if p.1 ≤ c.2 then _ else _) = _
        rw [if_neg z]
      rw [e]
      obtain ⟨i1, i2, i3, i4⟩ := mg_ok (t := t) (c := p) hpp hl.2.1 hl.2.2
      refine ⟨⟨h, fun q hq' => by have := i2 q hq'; omega, i1⟩, fun q hq' => ?_, fun x => ?_, by rw [List.length_cons, List.length_cons]; omega⟩
      · rcases List.mem_cons.mp hq' with rfl | hq'
        · exact Int.le_refl _
        · have := i2 q hq'
          omega
      · rw [mem_cons, mem_cons, i3 x]
theorem merged_ok : ∀ {t : Ps}, Lo t → Sh (merged t) ∧ (∀ x, mem (merged t) x ↔ mem t x) ∧ (merged t).length ≤ t.length
  | [], _ => ⟨trivial, fun x => Iff.rfl, Nat.le_refl _⟩
  | p :: t, h => by
    obtain ⟨i1, i2, i3, i4⟩ := mg_ok h.1 h.2.1 h.2.2
    exact ⟨i1, fun x => by rw [show merged (p :: t) = mg p t from rfl, i3 x, mem_cons], i4⟩

/-! ### without -/
def cut (at_ high : Int) : Ps → Ps
  | [] => if at_ < high then [(at_, high)] else []
  | g :: gs => if g.1 < high then (if at_ < g.1 then [(at_, g.1)] else []) ++ cut g.2 high gs else if at_ < high then [(at_, high)] else []
def skip (low : Int) : Ps → Ps
  | [] => []
  | g :: gs => if g.2 ≤ low then skip low gs else g :: gs
def wo : Ps → Ps → Ps
  | [], _ => []
  | p :: t, gs => cut p.1 p.2 (skip p.1 gs) ++ wo t (skip p.1 gs)
theorem one_ok {a b : Int} : Sh (if a < b then [(a, b)] else []) ∧ (∀ p ∈ (if a < b then [(a, b)] else []), a ≤ p.1 ∧ p.2 ≤ b) ∧ (∀ x, mem (if a < b then [(a, b)] else []) x ↔ a ≤ x ∧ x < b) ∧ (if a < b then [(a, b)] else ([] : Ps)).length ≤ 1 := by
  by_cases h : a < b
  · rw [if_pos h]
    refine ⟨⟨h, by simp, trivial⟩, fun p hp => ?_, fun x => ?_, Nat.le_refl _⟩
    · rw [List.mem_singleton.mp hp]
      exact ⟨Int.le_refl _, Int.le_refl _⟩
    · rw [mem_cons, mem_nil, or_false]
  · rw [if_neg h]
    refine ⟨trivial, by simp, fun x => ?_, Nat.zero_le _⟩
    rw [mem_nil]
    exact ⟨False.elim, fun z => by omega⟩
theorem cut_ok : ∀ {gs : Ps} {a b : Int}, Sh gs → (∀ g ∈ gs, a < g.2) → Sh (cut a b gs) ∧ (∀ p ∈ cut a b gs, a ≤ p.1 ∧ p.2 ≤ b) ∧ (∀ x, mem (cut a b gs) x ↔ (a ≤ x ∧ x < b) ∧ ¬ mem gs x) ∧ (cut a b gs).length ≤ gs.length + 1
  | [], a, b, _, _ => by
    obtain ⟨i1, i2, i3, i4⟩ := one_ok (a := a) (b := b)
    exact ⟨i1, i2, fun x => by rw [show cut a b [] = (if a < b then [(a, b)] else []) from rfl, i3 x, mem_nil]; simp, i4⟩
  | g :: gs, a, b, hs, hg => by
    have h1 := hs.1
    have h2 := hg g (List.mem_cons_self ..)
    by_cases z : g.1 < b
    · have e : cut a b (g :: gs) = (if a < g.1 then [(a, g.1)] else []) ++ cut g.2 b gs := by
        show (if g.1 < b then _ else _) = _
        rw [if_pos z]
      rw [e]
      obtain ⟨i1, i2, i3, i4⟩ := one_ok (a := a) (b := g.1)
      obtain ⟨j1, j2, j3, j4⟩ := cut_ok (gs := gs) (a := g.2) (b := b) hs.2.2 fun q hq => by
        have := hs.2.1 q hq
        have := Sh.lt hs.2.2 q hq
        omega
      refine ⟨sh_app i1 j1 fun p hp q hq => ?_, fun p hp => ?_, fun x => ?_, ?_⟩
      · have := (i2 p hp).2
        have := (j2 q hq).1
        omega
      · rcases List.mem_append.mp hp with hp | hp
        · have := i2 p hp
          exact ⟨this.1, by omega⟩
        · have := j2 p hp
          exact ⟨by omega, this.2⟩
      · rw [mem_app, i3 x, j3 x, mem_cons]
        have ge : mem gs x → g.2 ≤ x := fun m => mem_ge (fun q hq => Int.le_of_lt (hs.2.1 q hq)) m
        by_cases m : mem gs x
        · have := ge m
          simp only [m, not_true_eq_false, and_false, or_false, or_true, iff_false, false_and]
          omega
        · simp only [m, not_false_eq_true, and_true, or_false]
          omega
      · rw [List.length_append, List.length_cons]
        omega
    · have e : cut a b (g :: gs) = if a < b then [(a, b)] else [] := by
        show (if g.1 < b then _ else _) = _
        rw [if_neg z]
      rw [e]
      obtain ⟨i1, i2, i3, i4⟩ := one_ok (a := a) (b := b)
      refine ⟨i1, i2, fun x => ?_, by rw [List.length_cons]; omega⟩
      rw [i3 x]
      have ge : mem (g :: gs) x → g.1 ≤ x := fun m => sh_first hs m
      constructor
      · intro h
        exact ⟨h, fun m => by have := ge m; omega⟩
      · exact fun h => h.1
theorem skip_ok : ∀ {gs : Ps} {a : Int}, Sh gs → Sh (skip a gs) ∧ (∀ g ∈ skip a gs, a < g.2) ∧ (∀ x, a ≤ x → (mem (skip a gs) x ↔ mem gs x)) ∧ (skip a gs).length ≤ gs.length
  | [], a, _ => ⟨trivial, by simp [skip], fun x _ => Iff.rfl, Nat.le_refl _⟩
  | g :: gs, a, hs => by
    by_cases z : g.2 ≤ a
    · have e : skip a (g :: gs) = skip a gs := by
        show (if g.2 ≤ a then _ else _) = _
        rw [if_pos z]
      rw [e]
      obtain ⟨i1, i2, i3, i4⟩ := skip_ok (gs := gs) (a := a) hs.2.2
      refine ⟨i1, i2, fun x hx => ?_, by rw [List.length_cons]; omega⟩
      rw [i3 x hx, mem_cons]
      constructor
      · exact .inr
      · rintro (h | h)
        · omega
        · exact h
    · have e : skip a (g :: gs) = g :: gs := by
        show (if g.2 ≤ a then _ else _) = _
        rw [if_neg z]
      rw [e]
      refine ⟨hs, fun q hq => ?_, fun x _ => Iff.rfl, Nat.le_refl _⟩
      rcases List.mem_cons.mp hq with rfl | hq
      · omega
      · have := hs.2.1 q hq
        have := Sh.lt hs.2.2 q hq
        omega
theorem wo_ok : ∀ {ks gs : Ps}, Sh ks → Sh gs → Sh (wo ks gs) ∧ (∀ p ∈ wo ks gs, ∃ k ∈ ks, k.1 ≤ p.1) ∧ (∀ x, mem (wo ks gs) x ↔ mem ks x ∧ ¬ mem gs x)
  | [], gs, _, _ => ⟨trivial, by simp [wo], fun x => by rw [show wo [] gs = [] from rfl, mem_nil]; simp⟩
  | p :: t, gs, hk, hg => by
    obtain ⟨s1, s2, s3, s4⟩ := skip_ok (a := p.1) hg
    obtain ⟨i1, i2, i3, i4⟩ := cut_ok (b := p.2) s1 s2
    obtain ⟨j1, j2, j3⟩ := wo_ok (ks := t) (gs := skip p.1 gs) hk.2.2 s1
    have far : ∀ q ∈ wo t (skip p.1 gs), p.2 < q.1 := fun q hq => by
      obtain ⟨k, hk', z⟩ := j2 q hq
      have := hk.2.1 k hk'
      omega
    refine ⟨sh_app i1 j1 fun a ha q hq => ?_, fun q hq => ?_, fun x => ?_⟩
    · have := (i2 a ha).2
      have := far q hq
      omega
    · rcases List.mem_append.mp hq with hq | hq
      · exact ⟨p, List.mem_cons_self .., (i2 q hq).1⟩
      · obtain ⟨k, hk', z⟩ := j2 q hq
        exact ⟨k, List.mem_cons_of_mem _ hk', z⟩
    · show mem (cut p.1 p.2 (skip p.1 gs) ++ wo t (skip p.1 gs)) x ↔ _
      rw [mem_app, i3 x, j3 x, mem_cons]
      have ge : mem t x → p.2 ≤ x := fun m => mem_ge (fun q hq => Int.le_of_lt (hk.2.1 q hq)) m
      have h1 := hk.1
      by_cases hx : p.1 ≤ x
      · rw [s3 x hx]
        constructor
        · rintro (⟨a, b⟩ | ⟨a, b⟩)
          · exact ⟨.inl a, b⟩
          · exact ⟨.inr a, b⟩
        · rintro ⟨a | a, b⟩
          · exact .inl ⟨a, b⟩
          · exact .inr ⟨a, b⟩
      · constructor
        · rintro (⟨a, b⟩ | ⟨a, b⟩)
          · omega
          · have := ge a
            omega
        · rintro ⟨a | a, b⟩
          · omega
          · have := ge a
            omega
/-! ### how many stretches -/
theorem skip_cnt (f : Int × Int → Bool) (a : Int) : ∀ gs : Ps, (skip a gs).countP f ≤ gs.countP f
  | [] => Nat.le_refl _
  | g :: gs => by
    show (if g.2 ≤ a then skip a gs else g :: gs).countP f ≤ _
    split
    · have := skip_cnt f a gs
      rw [List.countP_cons]
      omega
    · exact Nat.le_refl _
theorem cut_len : ∀ {gs : Ps} {a b : Int}, Sh gs → (∀ g ∈ gs, a < g.2) → (cut a b gs).length ≤ 1 + gs.countP fun g => decide (a < g.1 ∧ g.1 < b)
  | [], a, b, _, _ => by
    have := (one_ok (a := a) (b := b)).2.2.2
    show (if a < b then [(a, b)] else ([] : Ps)).length ≤ _
    omega
  | g :: gs, a, b, hs, hg => by
    have h1 := hs.1
    have h2 := hg g (List.mem_cons_self ..)
    rw [List.countP_cons]
    by_cases z : g.1 < b
    · have e : cut a b (g :: gs) = (if a < g.1 then [(a, g.1)] else []) ++ cut g.2 b gs := by
        show (if g.1 < b then _ else _) = _
        rw [if_pos z]
      rw [e, List.length_append]
      have i := cut_len (gs := gs) (a := g.2) (b := b) hs.2.2 fun q hq => by
        have := hs.2.1 q hq
        have := Sh.lt hs.2.2 q hq
        omega
      have m : (gs.countP fun q => decide (g.2 < q.1 ∧ q.1 < b)) ≤ gs.countP fun q => decide (a < q.1 ∧ q.1 < b) := List.countP_mono_left fun q hq hz => by
        have := of_decide_eq_true hz
        exact decide_eq_true ⟨by omega, this.2⟩
      by_cases y : a < g.1
      · rw [if_pos y, decide_eq_true (show a < g.1 ∧ g.1 < b from ⟨y, z⟩)]
        show 1 + _ ≤ 1 + (_ + 1)
        omega
      · rw [if_neg y]
        show 0 + _ ≤ _
        omega
    · have e : cut a b (g :: gs) = if a < b then [(a, b)] else [] := by
        show (if g.1 < b then _ else _) = _
        rw [if_neg z]
      rw [e]
      have := (one_ok (a := a) (b := b)).2.2.2
      omega
theorem cnt_two {α : Type} (f g h : α → Bool) (d : ∀ x, f x = true → g x = true → False) (e : ∀ x, f x = true ∨ g x = true → h x = true) : ∀ l : List α, l.countP f + l.countP g ≤ l.countP h
  | [] => Nat.le_refl _
  | x :: l => by
    have := cnt_two f g h d e l
    rw [List.countP_cons, List.countP_cons, List.countP_cons]
    by_cases a : f x = true
    · by_cases b : g x = true
      · exact (d x a b).elim
      · rw [if_pos a, if_neg b, if_pos (e x (.inl a))]
        omega
    · by_cases b : g x = true
      · rw [if_neg a, if_pos b, if_pos (e x (.inr b))]
        omega
      · rw [if_neg a, if_neg b]
        omega
theorem wo_cnt : ∀ {ks gs : Ps} {L : Int}, Sh ks → Sh gs → (∀ k ∈ ks, L ≤ k.1) → (wo ks gs).length ≤ ks.length + gs.countP fun g => decide (L < g.1)
  | [], gs, L, _, _, _ => Nat.zero_le _
  | p :: t, gs, L, hk, hg, hL => by
    obtain ⟨s1, s2, s3, s4⟩ := skip_ok (a := p.1) hg
    have i := cut_len (b := p.2) s1 s2
    have j := wo_cnt (ks := t) (gs := skip p.1 gs) (L := p.2) hk.2.2 s1 fun k hk' => Int.le_of_lt (hk.2.1 k hk')
    have hp := hL p (List.mem_cons_self ..)
    have c := cnt_two (fun g : Int × Int => decide (p.1 < g.1 ∧ g.1 < p.2)) (fun g => decide (p.2 < g.1)) (fun g => decide (L < g.1)) (fun x a b => by
        have := of_decide_eq_true a
        have := of_decide_eq_true b
        omega) (fun x z => by
        refine decide_eq_true ?_
        have h1 := hk.1
        rcases z with z | z
        · have := of_decide_eq_true z
          omega
        · have := of_decide_eq_true z
          omega) (skip p.1 gs)
    have d := skip_cnt (fun g => decide (L < g.1)) p.1 gs
    show (cut p.1 p.2 (skip p.1 gs) ++ wo t (skip p.1 gs)).length ≤ _
    rw [List.length_append, List.length_cons]
    omega
theorem wo_len {ks gs : Ps} (hk : Sh ks) (hg : Sh gs) : (wo ks gs).length ≤ ks.length + gs.length := by
  match ks, hk with
  | [], _ => exact Nat.zero_le _
  | p :: t, hk =>
    have := wo_cnt (L := p.1) hk hg fun k hk' => by
      rcases List.mem_cons.mp hk' with rfl | hk'
      · exact Int.le_refl _
      · have := hk.2.1 k hk'
        have := hk.1
        omega
    have := List.countP_le_length (p := fun g : Int × Int => decide (p.1 < g.1)) (l := gs)
    omega

/-! ### how many places -/
def sz : Ps → Int
  | [] => 0
  | p :: t => (p.2 - p.1) + sz t
open Classical in
noncomputable def ind (P : Int → Prop) (x : Int) : Int := if P x then 1 else 0
noncomputable def cnt (P : Int → Prop) (lo : Int) : Nat → Int
  | 0 => 0
  | n + 1 => cnt P lo n + ind P (lo + n)
end Lm

set_option maxHeartbeats 4000000
namespace Lw
open PySem L2 PySem.W

/-! ### the text by places -/
def top (i : Nat) : Stmt := PySem.Challenge.pw_lentwork_k02_places_of_works.main.body.getD i (.Pass ⟨0, 0, 0, 0⟩)
abbrev sWhole : Stmt := top 4
abbrev sStretch : Stmt := top 5
abbrev sWork : Stmt := top 6
abbrev sCheck : Stmt := top 7
abbrev sMerged : Stmt := top 8
abbrev sShort : Stmt := top 9
abbrev sEither : Stmt := top 10
abbrev sBoth : Stmt := top 11
abbrev sWithout : Stmt := top 12
abbrev sSize : Stmt := top 13
abbrev sHas : Stmt := top 14
abbrev sCell : Stmt := top 16
abbrev sDraws : Stmt := top 17
abbrev sMake : Stmt := top 18
abbrev sMoved : Stmt := top 19
abbrev sPlaces : Stmt := top 20
abbrev sIsShort : Stmt := top 21
abbrev sLaw : Stmt := top 22

/-! ### kinds of things -/
inductive Kn (H : Hp) : V → Prop where
  | non : Kn H .non
  | bl (b : Bool) : Kn H (.bl b)
  | int (i : Int) : Kn H (.int i)
  | str (x : Str) : Kn H (.str x)
  | lst {a : Addr} {xs : List V} (e : H a = some (.lst xs)) : Kn H (.ref a)
  | dK {a : Addr} {kvs : List (Key × V)} (e : H a = some (.dK kvs)) : Kn H (.ref a)
inductive Knd (H : Hp) : V → Prop where
  | kn {x : V} (h : Kn H x) : Knd H x
  | tup {a : Addr} {xs : List V} (e : H a = some (.tup xs)) : Knd H (.ref a)
def wholeB : V → Bool
  | .int _ => true
  | _ => false
theorem Kn.same {H H' : Hp} {x : V} (e : Same H H') (h : Kn H x) : Kn H' x := by
  cases h with
  | non => exact .non
  | bl b => exact .bl b
  | int i => exact .int i
  | str x => exact .str x
  | lst q => exact .lst (e _ _ q)
  | dK q => exact .dK (e _ _ q)
theorem Knd.same {H H' : Hp} {x : V} (e : Same H H') (h : Knd H x) : Knd H' x := by
  cases h with
  | kn h => exact .kn (h.same e)
  | tup q => exact .tup (e _ _ q)

/-- isinstance's answers -/
theorem ans_int {K : Frag} {H : Hp} {x : V} (h : Knd H x) : ∃ t, TyOf K H x t ∧ kitOne K t (.type "int") = some (match x with | .int _ => true | .bl _ => true | _ => false) := by
  cases h with
  | kn h =>
    cases h with
    | non => exact ⟨_, .non, by kernel_rfl⟩
    | bl b => exact ⟨_, .bl b, by kernel_rfl⟩
    | int i => exact ⟨_, .int i, by rfl⟩
    | str x => exact ⟨_, .str x, by kernel_rfl⟩
    | lst q => exact ⟨_, .lst q, by kernel_rfl⟩
    | dK q => exact ⟨_, .dK q, by kernel_rfl⟩
  | tup q => exact ⟨_, .tup q, by kernel_rfl⟩
theorem ans_bool {K : Frag} {H : Hp} {x : V} (h : Knd H x) : ∃ t, TyOf K H x t ∧ kitOne K t (.type "bool") = some (match x with | .bl _ => true | _ => false) := by
  cases h with
  | kn h =>
    cases h with
    | non => exact ⟨_, .non, by kernel_rfl⟩
    | bl b => exact ⟨_, .bl b, by rfl⟩
    | int i => exact ⟨_, .int i, by kernel_rfl⟩
    | str x => exact ⟨_, .str x, by kernel_rfl⟩
    | lst q => exact ⟨_, .lst q, by kernel_rfl⟩
    | dK q => exact ⟨_, .dK q, by kernel_rfl⟩
  | tup q => exact ⟨_, .tup q, by kernel_rfl⟩
theorem ans_tupN {K : Frag} {H : Hp} {x : V} (h : Kn H x) : ∃ t, TyOf K H x t ∧ kitOne K t (.type "tuple") = some false := by
  cases h with
  | non => exact ⟨_, .non, by kernel_rfl⟩
  | bl b => exact ⟨_, .bl b, by kernel_rfl⟩
  | int i => exact ⟨_, .int i, by kernel_rfl⟩
  | str x => exact ⟨_, .str x, by kernel_rfl⟩
  | lst q => exact ⟨_, .lst q, by kernel_rfl⟩
  | dK q => exact ⟨_, .dK q, by kernel_rfl⟩
theorem ans_tupT {K : Frag} {H : Hp} {a : Addr} {xs : List V} (q : H a = some (.tup xs)) : ∃ t, TyOf K H (.ref a) t ∧ kitOne K t (.type "tuple") = some true := ⟨_, .tup q, by rfl⟩

/-- the built-in names that the text does not bind -/
structure Gb (mg : Str → Option Value) : Prop where
  isi : mg "isinstance" = none
  int : mg "int" = none
  bool : mg "bool" = none
  tuple : mg "tuple" = none
  len : mg "len" = none
  range : mg "range" = none
  list : mg "list" = none
  max : mg "max" = none
  sum : mg "sum" = none
  sorted : mg "sorted" = none
  any : mg "any" = none
  all : mg "all" = none
  set : mg "set" = none

/-! ### the promises -/
def spWhole : Sp := fun vs H Q _ => ∃ x, vs = [x] ∧ Knd H x ∧ Q (.bl (wholeB x)) H
/-- a thing read as a stretch -/
inductive StrV (H : Hp) : V → Option (Int × Int) → Prop where
  | no {x : V} (h : Kn H x) : StrV H x none
  | len {a : Addr} {xs : List V} (e : H a = some (.tup xs)) (h : xs.length ≠ 2) : StrV H (.ref a) none
  | one {a : Addr} {x y : V} (e : H a = some (.tup [x, y])) (hx : Knd H x) (hy : Knd H y) (h : wholeB x = false ∨ wholeB y = false) : StrV H (.ref a) none
  | turned {a : Addr} {l h : Int} (e : H a = some (.tup [.int l, .int h])) (n : h ≤ l) : StrV H (.ref a) none
  | yes {a : Addr} {l h : Int} (e : H a = some (.tup [.int l, .int h])) (n : l < h) : StrV H (.ref a) (some (l, h))
def spStretch : Sp := fun vs H Q _ => ∃ x o, vs = [x] ∧ StrV H x o ∧ Q (.bl o.isSome) H

section
variable {P : Program} {w : World} {K : PySem.W.Frag} {mg : Str → Option Value} {base : Heap}
theorem boot_isi : bootBuiltins "isinstance" = some (.builtin "isinstance") := by decide +kernel
theorem boot_i : bootBuiltins "int" = some (.type "int") := by decide +kernel
theorem boot_b : bootBuiltins "bool" = some (.type "bool") := by decide +kernel
theorem boot_t : bootBuiltins "tuple" = some (.type "tuple") := by decide +kernel
theorem boot_l : bootBuiltins "list" = some (.type "list") := by decide +kernel
theorem boot_mx : bootBuiltins "max" = some (.builtin "max") := by decide +kernel
theorem boot_sum : bootBuiltins "sum" = some (.builtin "sum") := by decide +kernel
theorem boot_srt : bootBuiltins "sorted" = some (.builtin "sorted") := by decide +kernel

theorem scWhole : FnScope ["thing"] ["thing"] (defScope sWhole) := ⟨rfl, rfl, rfl, by decide +kernel, rfl, by decide +kernel, by decide +kernel⟩
theorem ok_whole {f : Addr} {fd : FuncData} (F : Fun K "is_whole" "is_whole" sWhole f fd) (G : Gb mg) : FnOk P w K mg base CX0 1 f fd ["thing"] spWhole := by
  refine F.ok scWhole (fun vs H Q E h => ?_) (fun cdv A outer s H vs Q E hr h => ?_)
  · obtain ⟨x, rfl, _⟩ := h
    rfl
  · obtain ⟨x, rfl, hx, q⟩ := h
    refine ⟨_, pss_one (ps_ret (pe_and (pe_callB call_isinst (by rfl) G.isi boot_isi (pa_cons (pv 0) (pa_cons (pe_bltn (v := .ty "int") (by rfl) G.int boot_i rfl) pa_nil)))
      (pe_one (pe_not (pe_callB call_isinst (by rfl) G.isi boot_isi (pa_cons (pv 0) (pa_cons (pe_bltn (v := .ty "bool") (by rfl) G.bool boot_b rfl) pa_nil))))))), ?_⟩
    obtain ⟨t, ty, e⟩ := ans_int (K := K) hx
    obtain ⟨t2, ty2, e2⟩ := ans_bool (K := K) hx
    refine ⟨_, rfl, _, _, _, _, rfl, .ty "int", .inl ⟨t, ty, e⟩, _, rfl, ?_⟩
    refine ite2 (fun hc => ?_) (fun hc => ?_)
    · refine ⟨_, rfl, _, _, _, _, rfl, .ty "bool", .inl ⟨t2, ty2, e2⟩, _, rfl, ?_⟩
      cases x <;> first | exact q | cases hc
    · cases x <;> first | exact q | exact absurd rfl hc

theorem scStretch : FnScope ["thing"] ["thing"] (defScope sStretch) := ⟨rfl, rfl, rfl, by decide +kernel, rfl, by decide +kernel, by decide +kernel⟩
theorem ok_stretch {f fW : Addr} {fd fdW : FuncData} (F : Fun K "is_stretch" "is_stretch" sStretch f fd) (G : Gb mg) (FW : Fun K "is_whole" "is_whole" sWhole fW fdW) (bW : Binds K fdW ["thing"] []) (mW : mg "is_whole" = some (.ref fW)) : FnOk P w K mg base CX0 2 f fd ["thing"] spStretch := by
  have GW : FnOk P w K mg base CX0 1 fW fdW ["thing"] spWhole := ok_whole FW G
  refine F.ok scStretch (fun vs H Q E h => ?_) (fun cdv A outer s H vs Q E hr h => ?_)
  · obtain ⟨x, o, rfl, _⟩ := h
    rfl
  · obtain ⟨x, o, rfl, hx, q⟩ := h
    refine ⟨_, pss_cons (ps_if (PW.pt (pw_or (pt_not (pt_val (pe_callB call_isinst (by rfl) G.isi boot_isi (pa_cons (pv 0) (pa_cons (pe_bltn (v := .ty "tuple") (by rfl) G.tuple boot_t rfl) pa_nil)))))
        (pw_or1 (pt_cmpR op_ne (pe_callB call_len_seq (by rfl) G.len PySem.boot_len (pa_cons (pv 0) pa_nil)) pe_int (nomark _))))) (pss_one (ps_ret pe_bl)) pss_nil)
      (pss_one (ps_ret (pe_and (pe_call GW hr rfl mW FW.kp bW .nil pass0 (pa_cons (pe_ix ix_tup (pv 0) pe_int (fun _ _ => rfl)) pa_nil))
        (pe_and (pe_call GW hr rfl mW FW.kp bW .nil pass0 (pa_cons (pe_ix ix_tup (pv 0) pe_int (fun _ _ => rfl)) pa_nil))
          (pe_one (pe_cmpR op_lt (pe_ix ix_tup (pv 0) pe_int (fun _ _ => rfl)) (pe_ix ix_tup (pv 0) pe_int (fun _ _ => rfl)) (nomark _))))))), ?_⟩
    -- a thing that is a tuple
    have tupA : ∀ {a : Addr} {xs : List V}, x = .ref a → H a = some (.tup xs) → (xs.length ≠ 2 → Q (.bl false) H) → (∀ u v, xs = [u, v] → Knd H u ∧ Knd H v ∧ (wholeB u = false → Q (.bl false) H) ∧ (wholeB v = false → Q (.bl false) H) ∧ ∀ l h, u = .int l → v = .int h → Q (.bl (decide (l < h))) H) →
      (tSeq (tIfS (tOr (tNot (tB (tCB (rIsi K) (tCons (tVar 0) (tCons (tC (.ty "tuple")) tNil))))) (tTest (tOp rNe (tCB (fun xs H Q => ∃ p ys, xs = [.ref p] ∧ (SqL K H p ys ∨ SqT K H p ys) ∧ Q (.int ys.length) H) (tCons (tVar 0) tNil)) (tC (.int 2))))) (tRet (tC (.bl false))) tNext)
        (tRet (tAndV (tCall spWhole [] E0 (tCons (tOp (rIxT K) (tVar 0) (tC (.int 0))) tNil)) (tAndV (tCall spWhole [] E0 (tCons (tOp (rIxT K) (tVar 0) (tC (.int 1))) tNil)) (tOp (rI0 fun i j => .bl (decide (i < j))) (tOp (rIxT K) (tVar 0) (tC (.int 0))) (tOp (rIxT K) (tVar 0) (tC (.int 1))))))))
        { nx := fun _ H' => Q .non H', rt := Q } (start ["thing"] [x]) H := fun {a xs} ex ea q1 q2 => by
      subst ex
      obtain ⟨t, ty, e⟩ := ans_tupT (K := K) ea
      refine ⟨_, rfl, _, _, _, _, rfl, .ty "tuple", .inl ⟨t, ty, e⟩, _, rfl, ?_⟩
      refine iteF ?_
      refine ⟨_, rfl, a, xs, rfl, .inr (SqT.of ea), rfl, _, rfl, ?_⟩
      refine ite2 (fun hc => ?_) (fun hc => ?_)
      · refine q1 fun z => ?_
        rw [z] at hc
        cases hc
      · have z : xs.length = 2 := by
          by_cases z : xs.length = 2
          · exact z
          · refine absurd ?_ hc
            have : decide (V.int (xs.length : Int) = V.int 2) = false := decide_eq_false fun w => z (by injection w with w; omega)
            rw [this]
            rfl
        obtain ⟨u, v, rfl⟩ : ∃ u v, xs = [u, v] := by
          match xs, z with
          | [u, v], _ => exact ⟨u, v, rfl⟩
        obtain ⟨ku, kv, qu, qv, ql⟩ := q2 u v rfl
        refine ⟨_, rfl, a, _, _, _, rfl, rfl, SqT.of ea, atI_nat (j := 0) rfl, _, rfl, ku, _, rfl, ?_⟩
        refine ite2 (fun hu => ?_) (fun hu => qu (by simpa using hu))
        refine ⟨_, rfl, a, _, _, _, rfl, rfl, SqT.of ea, atI_nat (j := 1) rfl, _, rfl, kv, _, rfl, ?_⟩
        refine ite2 (fun hv => ?_) (fun hv => qv (by simpa using hv))
        obtain ⟨l, rfl⟩ : ∃ l, u = .int l := by
          cases u <;> first | exact ⟨_, rfl⟩ | cases hu
        obtain ⟨h, rfl⟩ : ∃ h, v = .int h := by
          cases v <;> first | exact ⟨_, rfl⟩ | cases hv
        exact ⟨_, rfl, a, _, _, _, rfl, rfl, SqT.of ea, atI_nat (j := 0) rfl, _, rfl, a, _, _, _, rfl, rfl, SqT.of ea, atI_nat (j := 1) rfl, _, _, rfl, rfl, ql l h rfl rfl⟩
    cases hx with
    | no h =>
      obtain ⟨t, ty, e⟩ := ans_tupN (K := K) h
      refine ⟨_, rfl, _, _, _, _, rfl, .ty "tuple", .inl ⟨t, ty, e⟩, _, rfl, ?_⟩
      refine iteT ?_
      exact iteT q
    | len ea hl => exact tupA rfl ea (fun _ => q) fun u v z => absurd (by rw [z]; rfl) hl
    | one ea hu hv hw =>
      refine tupA rfl ea (fun z => absurd rfl z) fun u v z => ?_
      cases z
      refine ⟨hu, hv, fun _ => q, fun _ => q, fun l h z1 z2 => ?_⟩
      subst z1
      subst z2
      rcases hw with z | z <;> cases z
    | turned ea n =>
      refine tupA rfl ea (fun z => absurd rfl z) fun u v z => ?_
      cases z
      refine ⟨.kn (.int _), .kn (.int _), fun _ => q, fun _ => q, fun l h z1 z2 => ?_⟩
      cases z1
      cases z2
      rw [decide_eq_false (by omega)]
      exact q
    | yes ea n =>
      refine tupA rfl ea (fun z => absurd rfl z) fun u v z => ?_
      cases z
      refine ⟨.kn (.int _), .kn (.int _), fun z => (nomatch z), fun z => (nomatch z), fun l h z1 z2 => ?_⟩
      cases z1
      cases z2
      rw [decide_eq_true n]
      exact q
end
theorem paired_get {α β : Type} {F : α → β → Prop} : ∀ {xs : List α} {ys : List β} {i : Nat} {x : α}, Paired F xs ys → xs[i]? = some x → ∃ y, ys[i]? = some y ∧ F x y
  | _, _, _, _, .nil, e => by simp at e
  | _, _, 0, _, .cons r _, e => by
    simp at e
    subst e
    exact ⟨_, rfl, r⟩
  | _, _, i + 1, x, .cons _ t, e => by
    obtain ⟨u, h1, h2⟩ := paired_get (i := i) (x := x) t (by simpa using e)
    exact ⟨u, by simpa using h1, h2⟩

/-- what makes stretches a work -/
def WorkP (os : List (Option (Int × Int))) : Prop := (∀ (j : Nat) (o : Option (Int × Int)), os[j]? = some o → o.isSome = true) ∧ ∀ (k : Nat) (l h l' h' : Int), os[k]? = some (some (l, h)) → os[k + 1]? = some (some (l', h')) → h ≤ l'
inductive WorkV (H : Hp) : V → Bool → Prop where
  | no {x : V} (h : Kn H x) : WorkV H x false
  | tup {a : Addr} {xs : List V} {os : List (Option (Int × Int))} {b : Bool} (e : H a = some (.tup xs)) (hl : xs.length ≤ 1000) (h : Paired (StrV H) xs os) (hb : b = true ↔ WorkP os) : WorkV H (.ref a) b
def spWork : Sp := fun vs H Q _ => ∃ x b, vs = [x] ∧ WorkV H x b ∧ Q (.bl b) H

section
variable {P : Program} {w : World} {K : PySem.W.Frag} {mg : Str → Option Value} {base : Heap}
theorem scWork : FnScope ["thing", "stretch", "index"] ["thing"] (defScope sWork) := ⟨rfl, rfl, rfl, by decide +kernel, rfl, by decide +kernel, by decide +kernel⟩
theorem ok_work {f fS fW : Addr} {fd fdS fdW : FuncData} (F : Fun K "is_work" "is_work" sWork f fd) (G : Gb mg) (FW : Fun K "is_whole" "is_whole" sWhole fW fdW) (bW : Binds K fdW ["thing"] []) (mW : mg "is_whole" = some (.ref fW))
    (FS : Fun K "is_stretch" "is_stretch" sStretch fS fdS) (bS : Binds K fdS ["thing"] []) (mS : mg "is_stretch" = some (.ref fS)) : FnOk P w K mg base CX0 3 f fd ["thing"] spWork := by
  have GS : FnOk P w K mg base CX0 2 fS fdS ["thing"] spStretch := ok_stretch FS G FW bW mW
  refine F.ok scWork (fun vs H Q E h => ?_) (fun cdv A outer s H vs Q E hr h => ?_)
  · obtain ⟨x, b, rfl, _⟩ := h
    rfl
  · obtain ⟨x, b, rfl, hx, q⟩ := h
    refine ⟨_, pss_cons (ps_if (pt_not (pt_val (pe_callB call_isinst (by rfl) G.isi boot_isi (pa_cons (pv 0) (pa_cons (pe_bltn (v := .ty "tuple") (by rfl) G.tuple boot_t rfl) pa_nil))))) (pss_one (ps_ret pe_bl)) pss_nil)
      (pss_cons (ps_for PassesOwn.never rfl (pi_tup (pv 0)) (pg_name (i := 1) scWork.nd rfl (Or.inl rfl)) (pss_one (ps_if (pt_not (pt_val (pe_call GS hr rfl mS FS.kp bS .nil pass0 (pa_cons (pv 1) pa_nil)))) (pss_one (ps_ret pe_bl)) pss_nil)))
      (pss_cons (ps_for PassesOwn.never rfl (pi_range2 rfl G.range (pa_cons pe_int (pa_cons (pe_callB call_len_seq (by rfl) G.len PySem.boot_len (pa_cons (pv 0) pa_nil)) pa_nil))) (pg_name (i := 2) scWork.nd rfl (Or.inl rfl))
        (pss_one (ps_if (pt_cmpR op_lt (pe_ix ix_tup (pe_ix ix_tup (pv 0) (pv 2) (fun _ _ => rfl)) pe_int (fun _ _ => rfl)) (pe_ix ix_tup (pe_ix ix_tup (pv 0) (pe_op op_sub (pv 2) pe_int) (fun _ _ => rfl)) pe_int (fun _ _ => rfl)) (nomark _)) (pss_one (ps_ret pe_bl)) pss_nil)))
      (pss_one (ps_ret pe_bl)))), ?_⟩
    cases hx with
    | no h =>
      obtain ⟨t, ty, e⟩ := ans_tupN (K := K) h
      refine ⟨_, rfl, _, _, _, _, rfl, .ty "tuple", .inl ⟨t, ty, e⟩, _, rfl, ?_⟩
      exact iteT q
    | @tup a xs os b ea hl hp hb =>
      obtain ⟨t, ty, e⟩ := ans_tupT (K := K) ea
      refine ⟨_, rfl, _, _, _, _, rfl, .ty "tuple", .inl ⟨t, ty, e⟩, _, rfl, ?_⟩
      refine iteF ?_
      refine ⟨_, rfl, a, rfl, ⟨_, SqT.of ea⟩, for_tup (K := K) (a := a) (xs := xs) (fun i σ H2 => H2 = H ∧ (∃ v, σ = [some (.ref a), v, none]) ∧ ∀ (j : Nat) (o : Option (Int × Int)), j < i → os[j]? = some o → o.isSome = true)
        ⟨rfl, ⟨none, rfl⟩, fun j o hj => absurd hj (Nat.not_lt_zero _)⟩ (fun i σ H2 _ ⟨e2, _⟩ => by subst e2; exact SqT.of ea) ?_ ?_⟩
      · rintro i y σ H2 hi ⟨rfl, ⟨v, rfl⟩, hall⟩
        obtain ⟨o, ho, hs⟩ := paired_get hp hi
        refine ⟨_, rfl, y, o, rfl, hs, _, rfl, ?_⟩
        cases o with
        | none =>
          refine iteT ?_
          have : b = false := by
            cases b with
            | false => rfl
            | true => exact absurd ((hb.mp rfl).1 i none ho) (by simp)
          rw [this] at q
          exact q
        | some p =>
          refine iteF ?_
          refine ⟨rfl, ⟨_, rfl⟩, fun j o' hj hj' => ?_⟩
          by_cases hji : j < i
          · exact hall j o' hji hj'
          · have : j = i := by omega
            subst this
            rw [ho] at hj'
            cases hj'
            rfl
      · rintro σ H2 ⟨rfl, ⟨v, rfl⟩, hall⟩
        have len : os.length = xs.length := hp.length.symm
        have at_ : ∀ (k : Nat), k < xs.length → ∃ (c : Addr) (l h : Int), xs[k]? = some (.ref c) ∧ H2 c = some (.tup [.int l, .int h]) ∧ os[k]? = some (some (l, h)) := fun k hk => by
          have e1 : xs[k]? = some xs[k] := List.getElem?_eq_getElem hk
          obtain ⟨o, ho, hs⟩ := paired_get hp e1
          have hso := hall k o hk ho
          cases o with
          | none => cases hso
          | some p =>
            generalize xs[k] = y at e1 hs
            cases hs with
            | @yes c l h ec n => exact ⟨c, l, h, e1, ec, ho⟩
        have hz : xs.length < 2 ^ 62 := Nat.lt_of_le_of_lt hl (by decide)
        refine ⟨_, rfl, a, xs, rfl, .inr (SqT.of ea), 1, (xs.length : Int), rfl, ⟨by decide, by decide, by omega, by omega⟩, for_range (lo := 1) (n := ((xs.length : Int) - 1).toNat)
          (fun i σ H3 => H3 = H2 ∧ (∃ v u, σ = [some (.ref a), v, u]) ∧ ∀ (k : Nat) (l h l' h' : Int), k < i → os[k]? = some (some (l, h)) → os[k + 1]? = some (some (l', h')) → h ≤ l') ⟨rfl, ⟨_, _, rfl⟩, fun k l h l' h' hk => absurd hk (Nat.not_lt_zero _)⟩ ?_ ?_⟩
        · rintro i σ H3 hi ⟨rfl, ⟨v, u, rfl⟩, hr2⟩
          obtain ⟨c, l, h, x1, x2, x3⟩ := at_ i (by omega)
          obtain ⟨c', l', h', y1, y2, y3⟩ := at_ (i + 1) (by omega)
          have i1 : (1 : Int) + (i : Int) = ((i + 1 : Nat) : Int) := by omega
          have i2 : ((i + 1 : Nat) : Int) - 1 = ((i : Nat) : Int) := by omega
          rw [i1]
          refine ⟨_, rfl, _, rfl, a, xs, _, _, rfl, rfl, SqT.of ea, atI_nat y1, c', _, _, _, rfl, rfl, SqT.of y2, atI_nat (j := 0) rfl, _, rfl, _, rfl, _, _, rfl, rfl, a, xs, _, _, rfl, rfl, SqT.of ea, (by rw [i2]; exact atI_nat x1), c, _, _, _, rfl, rfl, SqT.of x2, atI_nat (j := 1) rfl, _, _, rfl, rfl, _, rfl, ?_⟩
          refine ite2 (fun hc => ?_) (fun hc => ?_)
          · have hc' : l' < h := by simpa using hc
            have : b = false := by
              cases b with
              | false => rfl
              | true =>
                have := (hb.mp rfl).2 i l h l' h' x3 y3
                omega
            rw [this] at q
            exact q
          · have hc' : ¬ l' < h := by simpa using hc
            refine ⟨rfl, ⟨_, _, rfl⟩, fun k l2 h2 l3 h3 hk e1 e2 => ?_⟩
            by_cases hki : k < i
            · exact hr2 k l2 h2 l3 h3 hki e1 e2
            · have : k = i := by omega
              subst this
              rw [x3] at e1
              rw [y3] at e2
              cases e1
              cases e2
              omega
        · rintro σ H3 ⟨rfl, ⟨v, u, rfl⟩, hr2⟩
          have : b = true := hb.mpr ⟨fun j o hj => hall j o (by rw [← len]; exact (List.getElem?_eq_some_iff.mp hj).1) hj, fun k l h l' h' e1 e2 => hr2 k l h l' h' (by
            have := (List.getElem?_eq_some_iff.mp e2).1
            omega) e1 e2⟩
          rw [this] at q
          exact q

/-! ### the works of the law -/
def PairAt (H : Hp) (v : V) (p : Int × Int) : Prop := ∃ b, v = .ref b ∧ H b = some (.tup [.int p.1, .int p.2])
theorem paired_map {α β : Type} {F G : α → β → Prop} (f : ∀ a b, F a b → G a b) : ∀ {xs : List α} {ys : List β}, Paired F xs ys → Paired G xs ys
  | _, _, .nil => .nil
  | _, _, .cons r t => .cons (f _ _ r) (paired_map f t)
theorem paired_snoc {α β : Type} {F : α → β → Prop} {x : α} {y : β} : ∀ {xs : List α} {ys : List β}, Paired F xs ys → F x y → Paired F (xs ++ [x]) (ys ++ [y])
  | _, _, .nil, h => .cons h .nil
  | _, _, .cons r t, h => .cons r (paired_snoc t h)
theorem paired_app {α β : Type} {F : α → β → Prop} : ∀ {xs : List α} {ys : List β} {us : List α} {vs : List β}, Paired F xs ys → Paired F us vs → Paired F (xs ++ us) (ys ++ vs)
  | _, _, _, _, .nil, h => h
  | _, _, _, _, .cons r t, h => .cons r (paired_app t h)
def PairsAt (H : Hp) (xs : List V) (ps : Lm.Ps) : Prop := Paired (PairAt H) xs ps
theorem PairsAt.same {H H' : Hp} {xs : List V} {ps : Lm.Ps} (e : Same H H') (h : PairsAt H xs ps) : PairsAt H' xs ps := paired_map (fun v q ⟨b, z1, z2⟩ => ⟨b, z1, e _ _ z2⟩) h
def WorkM (H : Hp) (p : Addr) (ps : Lm.Ps) : Prop := ∃ xs, H p = some (.tup xs) ∧ PairsAt H xs ps
theorem WorkM.same {H H' : Hp} {p : Addr} {ps : Lm.Ps} (e : Same H H') (h : WorkM H p ps) : WorkM H' p ps := by
  obtain ⟨xs, h1, h2⟩ := h
  exact ⟨xs, e _ _ h1, h2.same e⟩
theorem pairs_str {H : Hp} : ∀ {xs : List V} {ps : Lm.Ps}, PairsAt H xs ps → (∀ q ∈ ps, q.1 < q.2) → Paired (StrV H) xs (ps.map some)
  | _, _, .nil, _ => .nil
  | _, q :: ps, .cons ⟨b, e1, e2⟩ t, h => by
    subst e1
    exact .cons (.yes e2 (h q (List.mem_cons_self ..))) (pairs_str t fun r hr => h r (List.mem_cons_of_mem _ hr))
theorem wk_next : ∀ {ps : Lm.Ps}, Lm.Wk ps → ∀ (k : Nat) (l h l' h' : Int), ps[k]? = some (l, h) → ps[k + 1]? = some (l', h') → h ≤ l'
  | p :: t, ⟨h1, h2, h3⟩, 0, l, h, l', h', e1, e2 => by
    cases e1
    exact h2 _ (List.mem_of_getElem? (i := 0) (by simpa using e2))
  | p :: t, ⟨h1, h2, h3⟩, k + 1, l, h, l', h', e1, e2 => wk_next h3 k l h l' h' (by simpa using e1) (by simpa using e2)
theorem WorkM.workV {H : Hp} {p : Addr} {ps : Lm.Ps} (h : WorkM H p ps) (wk : Lm.Wk ps) (hl : ps.length ≤ 1000) : WorkV H (.ref p) true := by
  obtain ⟨xs, h1, h2⟩ := h
  refine .tup h1 (by rw [h2.length]; exact hl) (pairs_str h2 wk.lt) ⟨fun _ => ⟨fun j o e => ?_, fun k l h l' h' e1 e2 => ?_⟩, fun _ => rfl⟩
  · rw [List.getElem?_map] at e
    cases z : ps[j]? with
    | none => rw [z] at e; cases e
    | some q => rw [z] at e; cases e; rfl
  · rw [List.getElem?_map] at e1 e2
    cases z1 : ps[k]? with
    | none => rw [z1] at e1; cases e1
    | some q1 =>
      cases z2 : ps[k + 1]? with
      | none => rw [z2] at e2; cases e2
      | some q2 =>
        rw [z1] at e1
        rw [z2] at e2
        cases e1
        cases e2
        exact wk_next wk k l h l' h' z1 z2
def spCheck : Sp := fun vs H Q _ => ∃ (p : Addr) (ps : Lm.Ps), vs = [.ref p] ∧ WorkM H p ps ∧ Lm.Wk ps ∧ ps.length ≤ 1000 ∧ Q .non H
theorem scCheck : FnScope ["work"] ["work"] (defScope sCheck) := ⟨rfl, rfl, rfl, by decide +kernel, rfl, by decide +kernel, by decide +kernel⟩
theorem ok_check {f fK : Addr} {fd fdK : FuncData} (F : Fun K "check_work" "check_work" sCheck f fd) (GK : FnOk P w K mg base CX0 3 fK fdK ["thing"] spWork) (kp : keepIn K (.ref fK) = true) (bK : Binds K fdK ["thing"] []) (mK : mg "is_work" = some (.ref fK)) :
    FnOk P w K mg base CX0 4 f fd ["work"] spCheck := by
  refine F.ok scCheck (fun vs H Q E h => ?_) (fun cdv A outer s H vs Q E hr h => ?_)
  · obtain ⟨p, ps, rfl, _⟩ := h
    rfl
  · obtain ⟨p, ps, rfl, hw, wk, hl, q⟩ := h
    refine ⟨_, pss_one (ps_if (pt_not (pt_val (pe_call GK hr rfl mK kp bK .nil pass0 (pa_cons (pv 0) pa_nil)))) (pss_one ps_never) pss_nil), ?_⟩
    exact ⟨_, rfl, _, true, rfl, hw.workV wk hl, _, rfl, iteF q⟩
end
end Lw

set_option maxHeartbeats 4000000
namespace Lw
open PySem L2 PySem.W

def spMerged (K : Frag) : Sp := fun vs H Q _ => ∃ (p : Addr) (xs : List V) (ps : Lm.Ps), vs = [.ref p] ∧ (SqL K H p xs ∨ H p = some (.tup xs)) ∧ PairsAt H xs ps ∧ ps.length ≤ 1000 ∧ ∀ r H', Same H H' → WorkM H' r (Lm.merged ps) → Q (.ref r) H'
def spShort : Sp := fun vs H Q _ => ∃ (p : Addr) (ps : Lm.Ps), vs = [.ref p] ∧ WorkM H p ps ∧ Lm.Wk ps ∧ ps.length ≤ 1000 ∧ ∀ r H', Same H H' → WorkM H' r (Lm.merged ps) → Q (.ref r) H'
theorem paired_last {α β : Type} {F : α → β → Prop} : ∀ {xs : List α} {ys : List β} {y : β}, Paired F xs (ys ++ [y]) → ∃ us u, xs = us ++ [u] ∧ Paired F us ys ∧ F u y
  | _, [], y, .cons r .nil => ⟨[], _, rfl, .nil, r⟩
  | x :: xs, b :: ys, y, .cons r t => by
    obtain ⟨us, u, e, p, f⟩ := paired_last (ys := ys) t
    exact ⟨x :: us, u, by rw [e]; rfl, .cons r p, f⟩
theorem set_last {α : Type} (us : List α) (u v : α) : (us ++ [u]).set us.length v = us ++ [v] := by
  induction us with
  | nil => rfl
  | cons a us ih =>
    show a :: (us ++ [u]).set us.length v = a :: (us ++ [v])
    rw [ih]
theorem ixN_last {n : Nat} : ixN (n + 1) (-1) = some n := by
  unfold ixN
  rw [if_neg (by decide), if_pos (by omega)]
  congr 1
  omega
/-- what is found ahead of the rest -/
def Found (qs ps : Lm.Ps) (i : Nat) : Prop := (qs = [] ∧ i = 0) ∨ ∃ done c, qs = done ++ [c] ∧ done ++ Lm.mg c (ps.drop i) = Lm.merged ps
theorem for_seq {K : PySem.W.Frag} {a : Addr} {xs : List V} {g : TG} {tb : TS} {D : Ends} {σ : St} {H : Hp} (Pv : Nat → St → Hp → Prop) (h0 : Pv 0 σ H)
    (hk : (∀ i σ H, i ≤ xs.length → Pv i σ H → SqL K H a xs) ∨ (∀ i σ H, i ≤ xs.length → Pv i σ H → SqT K H a xs))
    (hs : ∀ i x σ H, xs[i]? = some x → Pv i σ H → g x σ H fun σ2 H2 => tb { D with nx := Pv (i + 1), ct := Pv (i + 1), bk := D.nx } σ2 H2) (hd : ∀ σ H, Pv xs.length σ H → D.nx σ H) :
    ((∃ xs, SqL K H a xs) ∧ ∃ W : Nat → Nat → St → Hp → Prop, (∃ m, W 0 m σ H) ∧ ∀ i m σ H, W i m σ H →
      ((Itl K a).stop i H ∧ D.nx σ H) ∨ ((Itl K a).go i H ∧ ∃ N : St → Hp → Prop, (∀ σ' H', N σ' H' → ∃ m', m' < m ∧ W (i + 1) m' σ' H') ∧ ∀ x H', (Itl K a).yld i H x H' → g x σ H' fun σ2 H2 => tb { D with nx := N, ct := N, bk := D.nx } σ2 H2)) ∨
    ((∃ xs, SqT K H a xs) ∧ ∃ W : Nat → Nat → St → Hp → Prop, (∃ m, W 0 m σ H) ∧ ∀ i m σ H, W i m σ H →
      ((Itt K a).stop i H ∧ D.nx σ H) ∨ ((Itt K a).go i H ∧ ∃ N : St → Hp → Prop, (∀ σ' H', N σ' H' → ∃ m', m' < m ∧ W (i + 1) m' σ' H') ∧ ∀ x H', (Itt K a).yld i H x H' → g x σ H' fun σ2 H2 => tb { D with nx := N, ct := N, bk := D.nx } σ2 H2)) :=
  hk.elim (fun k => .inl ⟨⟨xs, k 0 σ H (Nat.zero_le _) h0⟩, for_list Pv h0 k hs hd⟩) fun k => .inr ⟨⟨xs, k 0 σ H (Nat.zero_le _) h0⟩, for_tup Pv h0 k hs hd⟩
section
variable {P : Program} {w : World} {K : PySem.W.Frag} {mg : Str → Option Value} {base : Heap}
theorem scMerged : FnScope ["stretches", "whole", "low", "high"] ["stretches"] (defScope sMerged) := ⟨rfl, rfl, rfl, by decide +kernel, rfl, by decide +kernel, by decide +kernel⟩
theorem ok_merged {f : Addr} {fd : FuncData} (F : Fun K "merged" "merged" sMerged f fd) (G : Gb mg) : FnOk P w K mg base CX0 1 f fd ["stretches"] (spMerged K) := by
  refine F.ok scMerged (fun vs H Q E h => ?_) (fun cdv A outer s H vs Q E hr h => ?_)
  · obtain ⟨p, xs, ps, rfl, _⟩ := h
    rfl
  · obtain ⟨p, xs, ps, rfl, hp, pr, hl, q⟩ := h
    refine ⟨_, (pss_cons (ps_set (i := 1) scMerged.nd rfl (Or.inl rfl) (pe_lst pa_nil)) (pss_cons (ps_for PassesOwn.never rfl (pi_seq (pv 0)) (pg_tup rfl (pgs_cons (pg_name (i := 2) scMerged.nd rfl (Or.inl rfl)) (pgs_cons (pg_name (i := 3) scMerged.nd rfl (Or.inl rfl)) pgs_nil))) (pss_one (ps_if (PW.pt (pw_and (pt_truth (pv 1) (fun _ => rfl)) (pw_and1 (pt_cmpR op_le (pv 2) (pe_ix ix_tup (pe_ix ix_list (pv 1) (pe_un un_neg pe_int) (fun _ _ => rfl)) pe_int (fun _ _ => rfl)) (nomark _))))) (pss_one (ps_asg (pe_tup (pa_cons (pe_ix ix_tup (pe_ix ix_list (pv 1) (pe_un un_neg pe_int) (fun _ _ => rfl)) pe_int (fun _ _ => rfl)) (pa_cons (pe_callB (call_max2 rfl) (by rfl) G.max boot_mx (pa_cons (pe_ix ix_tup (pe_ix ix_list (pv 1) (pe_un un_neg pe_int) (fun _ _ => rfl)) pe_int (fun _ _ => rfl)) (pa_cons (pv 3) pa_nil))) pa_nil))) (pg_sub (pv 1) (pe_un un_neg pe_int) set_list))) (pss_one (ps_expr (pe_bm PySem.F.plainAttrs_list PySem.F.slot_list_append PySem.F.type_list_append mt_append (pv 1) (pa_cons (pe_tup (pa_cons (pv 2) (pa_cons (pv 3) pa_nil))) pa_nil))))))) (pss_one (ps_ret (pe_callTy call_tuple_of (by rfl) G.tuple boot_t (pa_cons (pv 1) pa_nil)))))), ?_⟩
    have sl : sizeLine = 16777216 := sizeLine_eq
    have lx : xs.length = ps.length := pr.length
    refine ⟨Nat.zero_le _, fun l hn => ?_⟩
    have hk : (∀ {H2 : Hp}, Same H H2 → SqL K H2 p xs) ∨ (∀ {H2 : Hp}, Same H H2 → SqT K H2 p xs) := hp.elim (fun z => .inl fun e => e.seq z) fun z => .inr fun e => SqT.of (e _ _ z)
    refine ⟨_, rfl, p, rfl, for_seq (K := K) (a := p) (xs := xs) (fun i σ H2 => Same H H2 ∧ ∃ ws qs u v, H2 l = some (.lst ws) ∧ PairsAt H2 ws qs ∧ Found qs ps i ∧ qs.length ≤ i ∧ σ = [some (.ref p), some (.ref l), u, v])
      ⟨same_upd hn, [], [], _, _, upd_same, .nil, .inl ⟨rfl, rfl⟩, Nat.le_refl _, rfl⟩ (hk.elim (fun z => .inl fun i σ H2 _ ⟨e, _⟩ => z e) fun z => .inr fun i σ H2 _ ⟨e, _⟩ => z e) ?_ ?_⟩
    · rintro i x σ H2 hi ⟨sm, ws, qs, u, v, hL, pq, fo, ql, rfl⟩
      obtain ⟨y, hy, b', rfl, hb'⟩ := paired_get pr hi
      have il : i < xs.length := (List.getElem?_eq_some_iff.mp hi).1
      have dr : ps.drop i = y :: ps.drop (i + 1) := by
        rw [List.drop_eq_getElem_cons (by omega)]
        congr 1
        exact Option.some.inj ((List.getElem?_eq_getElem (by omega)).symm.trans hy)
      have wl : ws.length = qs.length := pq.length
      refine ⟨b', _, rfl, SqT.of (sm _ _ hb'), rfl, _, _, rfl, _, _, rfl, rfl, ?_⟩
      have put : ∀ H3 (o : HO), Same H2 H3 → Same H (upd H3 l o) := fun H3 o e b z hz => by
        rw [upd_ne (ne_of_none hz hn)]
        exact e _ _ (sm _ _ hz)
      have keep : ∀ {H3 : Hp} {o : HO} {us : List V} {rs : Lm.Ps}, Same H2 H3 → PairsAt H2 us rs → PairsAt (upd H3 l o) us rs := fun {H3 o us rs} e h => paired_map (fun v q ⟨b, z1, z2⟩ => ⟨b, z1, by
        rw [upd_ne (ne_of z2 hL (by intro z; cases z))]
        exact e _ _ z2⟩) h
      have app : Found (qs ++ [y]) ps (i + 1) → ∀ D : Ends, (∀ H3 ws qs, Same H H3 → H3 l = some (.lst ws) → PairsAt H3 ws qs → Found qs ps (i + 1) → qs.length ≤ i + 1 → D.nx [some (.ref p), some (.ref l), some (.int y.1), some (.int y.2)] H3) →
          (tDrop (tBM K "list" rAppend (tVar 1) (tCons (tTup (tCons (tVar 2) (tCons (tVar 3) tNil))) tNil))) D [some (.ref p), some (.ref l), some (.int y.1), some (.int y.2)] H2 := fun fo D hN => by
        refine ⟨_, rfl, .inl ⟨rfl, _, SqL.of hL⟩, _, rfl, _, rfl, by show 2 ≤ sizeLine; decide, fun t ht => ?_⟩
        have nt : l ≠ t := ne_of_none hL ht
        refine ⟨l, _, _, rfl, rfl, by rw [upd_ne nt]; exact hL, by omega, ?_⟩
        refine hN _ _ (qs ++ [y]) (put _ _ (same_upd ht)) upd_same (paired_snoc (keep (same_upd ht) pq) ⟨t, rfl, ?_⟩) fo (by rw [List.length_append]; show qs.length + 1 ≤ i + 1; omega)
        rw [upd_ne nt.symm]
        exact upd_same
      refine ⟨_, rfl, _, .inl ⟨ws, SqL.of hL, rfl⟩, ?_⟩
      rcases fo with ⟨rfl, rfl⟩ | ⟨done, c, rfl, fo⟩
      · cases pq
        refine iteF ?_
        exact app (.inr ⟨[], y, rfl, by rw [List.nil_append]; cases ps with | nil => cases hy | cons a ps => (cases hy; rfl)⟩) _ fun H3 ws qs e1 e2 e3 e4 e5 => ⟨e1, ws, qs, _, _, e2, e3, e4, e5, rfl⟩
      · obtain ⟨us, u', rfl, pu, cb, rfl, hcb⟩ := paired_last pq
        have ne : (!(us ++ [V.ref cb]).isEmpty) = true := by
          cases us <;> rfl
        rw [ne]
        refine iteT ?_
        rw [dr] at fo
        refine ⟨_, rfl, _, rfl, _, rfl, l, _, _, _, rfl, rfl, SqL.of hL, atI_last _ _, cb, _, _, _, rfl, rfl, SqT.of hcb, atI_nat (j := 1) rfl, _, _, rfl, rfl, _, rfl, ?_⟩
        refine ite2 (fun hc => ?_) (fun hc => ?_)
        · have hc' : y.1 ≤ c.2 := of_decide_eq_true hc
          have fo2 : done ++ Lm.mg (c.1, if y.2 > c.2 then y.2 else c.2) (ps.drop (i + 1)) = Lm.merged ps := by
            rw [← fo]
            congr 1
            show _ = (if y.1 ≤ c.2 then _ else _)
            rw [if_pos hc']
          refine ⟨_, rfl, _, rfl, l, _, _, _, rfl, rfl, SqL.of hL, atI_last _ _, cb, _, _, _, rfl, rfl, SqT.of hcb, atI_nat (j := 0) rfl, ?_⟩
          refine ⟨_, rfl, _, rfl, l, _, _, _, rfl, rfl, SqL.of hL, atI_last _ _, cb, _, _, _, rfl, rfl, SqT.of hcb, atI_nat (j := 1) rfl, _, rfl, _, _, rfl, by show 2 ≤ sizeLine; decide, fun t ht => ?_⟩
          have nt : l ≠ t := ne_of_none hL ht
          refine ⟨_, rfl, _, rfl, l, _, _, us.length, rfl, rfl, by rw [upd_ne nt]; exact hL, by rw [List.length_append]; exact ixN_last, ?_⟩
          refine ⟨put _ _ (same_upd ht), us ++ [.ref t], done ++ [(c.1, if y.2 > c.2 then y.2 else c.2)], _, _, ?_, ?_, .inr ⟨done, _, rfl, fo2⟩, ?_, rfl⟩
          · rw [set_last]
            exact upd_same
          · refine paired_snoc (keep (same_upd ht) pu) ⟨t, rfl, ?_⟩
            rw [upd_ne nt.symm]
            exact upd_same
          · rw [List.length_append] at ql ⊢
            show done.length + 1 ≤ i + 1
            have : done.length + 1 ≤ i := ql
            omega
        · have hc' : ¬ y.1 ≤ c.2 := fun z => hc (decide_eq_true z)
          refine app (.inr ⟨done ++ [c], y, rfl, ?_⟩) _ fun H3 ws qs e1 e2 e3 e4 e5 => ⟨e1, ws, qs, _, _, e2, e3, e4, e5, rfl⟩
          rw [← fo, List.append_assoc]
          congr 1
          show _ = (if y.1 ≤ c.2 then _ else _)
          rw [if_neg hc']
          rfl
    · rintro σ H2 ⟨sm, ws, qs, u, v, hL, pq, fo, ql, rfl⟩
      have eq : qs = Lm.merged ps := by
        have dn : ps.drop xs.length = [] := List.drop_of_length_le (by omega)
        rcases fo with ⟨rfl, h0⟩ | ⟨done, c, rfl, fo⟩
        · cases ps with
          | nil => rfl
          | cons a t => rw [lx] at h0; cases h0
        · rw [← fo, dn]
          rfl
      subst eq
      refine ⟨_, rfl, l, _, rfl, .inl ⟨SqL.of hL, fun r hr' => ?_⟩⟩
      exact q r _ (sm.trans (same_upd hr')) ⟨ws, upd_same, pq.same (same_upd hr')⟩
theorem scShort : FnScope ["work"] ["work"] (defScope sShort) := ⟨rfl, rfl, rfl, by decide +kernel, rfl, by decide +kernel, by decide +kernel⟩
theorem ok_short {f fC fM : Addr} {fd fdC fdM : FuncData} (F : Fun K "short_form" "short_form" sShort f fd) (GC : FnOk P w K mg base CX0 4 fC fdC ["work"] spCheck) (kC : keepIn K (.ref fC) = true) (bC : Binds K fdC ["work"] []) (mC : mg "check_work" = some (.ref fC))
    (GM : FnOk P w K mg base CX0 4 fM fdM ["stretches"] (spMerged K)) (kM : keepIn K (.ref fM) = true) (bM : Binds K fdM ["stretches"] []) (mM : mg "merged" = some (.ref fM)) : FnOk P w K mg base CX0 5 f fd ["work"] spShort := by
  refine F.ok scShort (fun vs H Q E h => ?_) (fun cdv A outer s H vs Q E hr h => ?_)
  · obtain ⟨p, ps, rfl, _⟩ := h
    rfl
  · obtain ⟨p, ps, rfl, hw, wk, hl, q⟩ := h
    refine ⟨_, pss_cons (ps_expr (pe_call GC hr rfl mC kC bC .nil pass0 (pa_cons (pv 0) pa_nil))) (pss_one (ps_ret (pe_call GM hr rfl mM kM bM .nil pass0 (pa_cons (pv 0) pa_nil)))), ?_⟩
    obtain ⟨xs, h1, h2⟩ := id hw
    exact ⟨_, rfl, p, ps, rfl, hw, wk, hl, _, rfl, p, xs, ps, rfl, .inr h1, h2, hl, q⟩
end
end Lw

set_option maxHeartbeats 4000000
namespace Lw
open PySem L2 PySem.W

def spWithout : Sp := fun vs H Q _ => ∃ (p q : Addr) (a b : Lm.Ps), vs = [.ref p, .ref q] ∧ WorkM H p a ∧ WorkM H q b ∧ Lm.Wk a ∧ Lm.Wk b ∧ a.length ≤ 1000 ∧ b.length ≤ 1000 ∧ ∀ r H', Same H H' → WorkM H' r (Lm.wo (Lm.merged a) (Lm.merged b)) → Q (.ref r) H'
theorem pair_ref {H : Hp} {xs : List V} {ps : Lm.Ps} (h : PairsAt H xs ps) {i : Nat} (hi : i < ps.length) : ∃ b, xs[i]? = some (.ref b) ∧ H b = some (.tup [.int ps[i].1, .int ps[i].2]) := by
  have hx : i < xs.length := by rw [h.length]; exact hi
  obtain ⟨y, hy, b, e1, e2⟩ := paired_get h (List.getElem?_eq_getElem hx)
  have : y = ps[i] := Option.some.inj (hy.symm.trans (List.getElem?_eq_getElem hi))
  subst this
  exact ⟨b, by rw [List.getElem?_eq_getElem hx, e1], e2⟩
section
variable {P : Program} {w : World} {K : PySem.W.Frag} {mg : Str → Option Value} {base : Heap}
theorem scWithout : FnScope ["one", "other", "kept", "gone", "rest", "first", "low", "high", "at", "index"] ["one", "other"] (defScope sWithout) := ⟨rfl, rfl, rfl, by decide +kernel, rfl, by decide +kernel, by decide +kernel⟩
theorem ok_without {f fS : Addr} {fd fdS : FuncData} (F : Fun K "without" "without" sWithout f fd) (G : Gb mg) (GS : FnOk P w K mg base CX0 5 fS fdS ["work"] spShort) (kS : keepIn K (.ref fS) = true) (bS : Binds K fdS ["work"] []) (mS : mg "short_form" = some (.ref fS)) :
    FnOk P w K mg base CX0 6 f fd ["one", "other"] spWithout := by
  refine F.ok scWithout (fun vs H Q E h => ?_) (fun cdv A outer s H vs Q E hr h => ?_)
  · obtain ⟨p, q, a, b, rfl, _⟩ := h
    rfl
  · obtain ⟨p, q, a, b, rfl, ha, hb, wa, wb, la, lb, fin⟩ := h
    refine ⟨_, (pss_cons (ps_set (i := 2) scWithout.nd rfl (Or.inl rfl) (pe_call GS hr rfl mS kS bS .nil pass0 (pa_cons (pv 0) pa_nil))) (pss_cons (ps_set (i := 3) scWithout.nd rfl (Or.inl rfl) (pe_call GS hr rfl mS kS bS .nil pass0 (pa_cons (pv 1) pa_nil))) (pss_cons (ps_set (i := 4) scWithout.nd rfl (Or.inl rfl) (pe_lst pa_nil)) (pss_cons (ps_set (i := 5) scWithout.nd rfl (Or.inl rfl) pe_int) (pss_cons (ps_for PassesOwn.never rfl (pi_tup (pv 2)) (pg_tup rfl (pgs_cons (pg_name (i := 6) scWithout.nd rfl (Or.inl rfl)) (pgs_cons (pg_name (i := 7) scWithout.nd rfl (Or.inl rfl)) pgs_nil))) (pss_cons (ps_while PassesOwn.never (PW.pt (pw_and (pt_cmpR op_lt (pv 5) (pe_callB call_len_seq (by rfl) G.len PySem.boot_len (pa_cons (pv 3) pa_nil)) (nomark _)) (pw_and1 (pt_cmpR op_le (pe_ix ix_tup (pe_ix ix_tup (pv 3) (pv 5) (fun _ _ => rfl)) pe_int (fun _ _ => rfl)) (pv 6) (nomark _))))) (pss_one (ps_aug (i := 5) scWithout.nd rfl (Or.inl rfl) pe_int ip_add))) (pss_cons (ps_set (i := 8) scWithout.nd rfl (Or.inl rfl) (pv 6)) (pss_cons (ps_set (i := 9) scWithout.nd rfl (Or.inl rfl) (pv 5)) (pss_cons (ps_while PassesOwn.never (PW.pt (pw_and (pt_cmpR op_lt (pv 9) (pe_callB call_len_seq (by rfl) G.len PySem.boot_len (pa_cons (pv 3) pa_nil)) (nomark _)) (pw_and1 (pt_cmpR op_lt (pe_ix ix_tup (pe_ix ix_tup (pv 3) (pv 9) (fun _ _ => rfl)) pe_int (fun _ _ => rfl)) (pv 7) (nomark _))))) (pss_cons (ps_if (pt_cmpR op_lt (pv 8) (pe_ix ix_tup (pe_ix ix_tup (pv 3) (pv 9) (fun _ _ => rfl)) pe_int (fun _ _ => rfl)) (nomark _)) (pss_one (ps_expr (pe_bm PySem.F.plainAttrs_list PySem.F.slot_list_append PySem.F.type_list_append mt_append (pv 4) (pa_cons (pe_tup (pa_cons (pv 8) (pa_cons (pe_ix ix_tup (pe_ix ix_tup (pv 3) (pv 9) (fun _ _ => rfl)) pe_int (fun _ _ => rfl)) pa_nil))) pa_nil)))) pss_nil) (pss_cons (ps_set (i := 8) scWithout.nd rfl (Or.inl rfl) (pe_ix ix_tup (pe_ix ix_tup (pv 3) (pv 9) (fun _ _ => rfl)) pe_int (fun _ _ => rfl))) (pss_one (ps_aug (i := 9) scWithout.nd rfl (Or.inl rfl) pe_int ip_add))))) (pss_one (ps_if (pt_cmpR op_lt (pv 8) (pv 7) (nomark _)) (pss_one (ps_expr (pe_bm PySem.F.plainAttrs_list PySem.F.slot_list_append PySem.F.type_list_append mt_append (pv 4) (pa_cons (pe_tup (pa_cons (pv 8) (pa_cons (pv 7) pa_nil))) pa_nil)))) pss_nil))))))) (pss_one (ps_ret (pe_callTy call_tuple_of (by rfl) G.tuple boot_t (pa_cons (pv 4) pa_nil))))))))), ?_⟩
    have sl : sizeLine = 16777216 := sizeLine_eq
    refine ⟨_, rfl, p, a, rfl, ha, wa, la, fun kp H1 s1 hk => ?_⟩
    refine ⟨_, rfl, q, b, rfl, hb.same s1, wb, lb, fun gn H0 s2 hg => ?_⟩
    obtain ⟨sk, mk, lk⟩ := Lm.merged_ok wa.lo
    obtain ⟨sg, mg', lg⟩ := Lm.merged_ok wb.lo
    generalize Lm.merged a = ks at hk sk lk fin
    generalize Lm.merged b = gs at hg sg lg fin
    obtain ⟨kx, hk1, hk2⟩ := hk.same s2
    obtain ⟨gx, hg1, hg2⟩ := hg
    have s0 := s1.trans s2
    have wl := Lm.wo_len sk sg
    have lkx : kx.length = ks.length := hk2.length
    have lgx : gx.length = gs.length := hg2.length
    refine ⟨Nat.zero_le _, fun l hn => ?_⟩
    refine ⟨_, rfl, kp, rfl, ⟨_, SqT.of (same_upd hn _ _ hk1)⟩, for_tup (K := K) (a := kp) (xs := kx) (fun i σ H2 => Same H0 H2 ∧ ∃ ws rs fi u1 u2 u3 u4, H2 l = some (.lst ws) ∧ PairsAt H2 ws rs ∧ rs ++ Lm.wo (ks.drop i) (gs.drop fi) = Lm.wo ks gs ∧ fi ≤ gs.length ∧ σ = [some (.ref p), some (.ref q), some (.ref kp), some (.ref gn), some (.ref l), some (.int (fi : Nat)), u1, u2, u3, u4])
      ⟨same_upd hn, [], [], 0, _, _, _, _, upd_same, .nil, rfl, Nat.zero_le _, rfl⟩ (fun i σ H2 _ ⟨e, _⟩ => SqT.of (e _ _ hk1)) ?_ ?_⟩
    · rintro i x σ H2 hi ⟨sm, ws, rs, fi, u1, u2, u3, u4, hL, pq, eq, fl, rfl⟩
      obtain ⟨y, hy, b', rfl, hb'⟩ := paired_get hk2 hi
      have il : i < kx.length := (List.getElem?_eq_some_iff.mp hi).1
      have dr : ks.drop i = y :: ks.drop (i + 1) := by
        rw [List.drop_eq_getElem_cons (by omega)]
        congr 1
        exact Option.some.inj ((List.getElem?_eq_getElem (by omega)).symm.trans hy)
      refine ⟨b', _, rfl, SqT.of (sm _ _ hb'), rfl, _, _, rfl, _, _, rfl, rfl, ?_⟩
      have gat : ∀ {H3 : Hp} {k : Nat}, Same H0 H3 → k < gs.length → ∃ gb, atI gx (k : Int) = some (.ref gb) ∧ H3 gb = some (.tup [.int (gs.getD k (0, 0)).1, .int (gs.getD k (0, 0)).2]) := fun {H3 k} e hk => by
        obtain ⟨gb, e1, e2⟩ := pair_ref hg2 hk
        refine ⟨gb, atI_nat e1, ?_⟩
        rw [List.getD_eq_getElem?_getD, List.getElem?_eq_getElem hk]
        exact e _ _ e2
      have gdr : ∀ {k : Nat}, k < gs.length → gs.drop k = gs.getD k (0, 0) :: gs.drop (k + 1) := fun {k} hk => by
        rw [List.drop_eq_getElem_cons hk, List.getD_eq_getElem?_getD, List.getElem?_eq_getElem hk]
        rfl
      have hg3 : ∀ {H3 : Hp}, Same H0 H3 → SqT K H3 gn gx := fun e => SqT.of (e _ _ hg1)
      rw [dr] at eq
      have eq0 : rs ++ (Lm.cut y.1 y.2 (Lm.skip y.1 (gs.drop fi)) ++ Lm.wo (ks.drop (i + 1)) (Lm.skip y.1 (gs.drop fi))) = Lm.wo ks gs := eq
      have put : ∀ {H3 H4 : Hp} {o : HO}, Same H0 H3 → Same H3 H4 → Same H0 (upd H4 l o) := fun {H3 H4 o} e1 e2 b z hz => by
        rw [upd_ne (ne_of_none hz hn)]
        exact e2 _ _ (e1 _ _ hz)
      have keep : ∀ {H3 H4 : Hp} {o : HO} {us vs : List V} {rs : Lm.Ps}, H3 l = some (.lst vs) → Same H3 H4 → PairsAt H3 us rs → PairsAt (upd H4 l o) us rs := fun {H3 H4 o us vs rs} hL e h => paired_map (fun v q ⟨b, z1, z2⟩ => ⟨b, z1, by
        rw [upd_ne (ne_of z2 hL (by intro z; cases z))]
        exact e _ _ z2⟩) h
      -- the first loop
      refine while_by (fun σ H3 => H3 = H2 ∧ ∃ f : Nat, f ≤ gs.length ∧ Lm.skip y.1 (gs.drop f) = Lm.skip y.1 (gs.drop fi) ∧ σ = [some (.ref p), some (.ref q), some (.ref kp), some (.ref gn), some (.ref l), some (.int (f : Nat)), some (.int y.1), some (.int y.2), u3, u4])
        (fun σ _ => match σ with | [_, _, _, _, _, some (.int f), _, _, _, _] => gs.length - f.toNat | _ => 0) ⟨rfl, fi, fl, rfl, rfl⟩ ?_ ?_
      · rintro σ H3 ⟨rfl, f, hf, es, rfl⟩
        refine ⟨_, rfl, _, rfl, gn, gx, rfl, .inr (hg3 sm), _, _, rfl, rfl, _, rfl, ?_⟩
        refine ite2 (fun h1 => ?_) (fun h1 => iteF ?_)
        have f1 : f < gs.length := by
          have := of_decide_eq_true h1
          omega
        obtain ⟨gb, g1, g2⟩ := gat sm f1
        refine ⟨_, rfl, _, rfl, gn, gx, _, _, rfl, rfl, hg3 sm, g1, gb, _, _, _, rfl, rfl, SqT.of g2, atI_nat (j := 1) rfl, _, rfl, _, _, rfl, rfl, _, rfl, ?_⟩
        refine ite2 (fun h2 => ?_) (fun h2 => ?_)
        · have h2' : (gs.getD f (0, 0)).2 ≤ y.1 := of_decide_eq_true h2
          refine ⟨_, rfl, _, _, rfl, rfl, ⟨rfl, f + 1, f1, ?_, by rfl⟩, ?_⟩
          · rw [← es, gdr f1]
            show _ = (if (gs.getD f (0, 0)).2 ≤ y.1 then _ else _)
            rw [if_pos h2']
          · show gs.length - ((f : Int) + 1).toNat < gs.length - (f : Int).toNat
            omega
        have ef : Lm.skip y.1 (gs.drop f) = gs.drop f := by
          have h2' : ¬ (gs.getD f (0, 0)).2 ≤ y.1 := fun z => h2 (decide_eq_true z)
          rw [gdr f1]
          show (if (gs.getD f (0, 0)).2 ≤ y.1 then _ else _) = _
          rw [if_neg h2']
        rotate_left
        have ef : Lm.skip y.1 (gs.drop f) = gs.drop f := by
          have h1' : ¬ (f : Int) < (gx.length : Int) := fun z => h1 (decide_eq_true z)
          rw [List.drop_of_length_le (by omega)]
          rfl
        all_goals
          rw [← es, ef] at eq0
          refine ⟨_, rfl, _, rfl, ?_⟩
          refine while_by (fun σ H3 => Same H0 H3 ∧ ∃ (ws : List V) (rs : Lm.Ps) (at_ : Int) (ix : Nat), ix ≤ gs.length ∧ H3 l = some (.lst ws) ∧ PairsAt H3 ws rs ∧ rs ++ (Lm.cut at_ y.2 (gs.drop ix) ++ Lm.wo (ks.drop (i + 1)) (gs.drop f)) = Lm.wo ks gs ∧
              σ = [some (.ref p), some (.ref q), some (.ref kp), some (.ref gn), some (.ref l), some (.int (f : Nat)), some (.int y.1), some (.int y.2), some (.int at_), some (.int (ix : Nat))])
            (fun σ _ => match σ with | [_, _, _, _, _, _, _, _, _, some (.int f)] => gs.length - f.toNat | _ => 0) ⟨sm, ws, rs, y.1, f, hf, hL, pq, eq0, rfl⟩ ?_ ?_
          · rintro σ H4 ⟨sm4, ws4, rs4, at_, jx, hj, hL4, pq4, eq4, rfl⟩
            have wl4 : ws4.length = rs4.length := pq4.length
            have bound : rs4.length ≤ 2000 := by
              have := congrArg List.length eq4
              rw [List.length_append] at this
              omega
            refine ⟨_, rfl, _, rfl, gn, gx, rfl, .inr (hg3 sm4), _, _, rfl, rfl, _, rfl, ?_⟩
            refine ite2 (fun h3 => ?_) (fun h3 => iteF ?_)
            have j1 : jx < gs.length := by
              have := of_decide_eq_true h3
              omega
            obtain ⟨gb, g1, g2⟩ := gat sm4 j1
            refine ⟨_, rfl, _, rfl, gn, gx, _, _, rfl, rfl, hg3 sm4, g1, gb, _, _, _, rfl, rfl, SqT.of g2, atI_nat (j := 0) rfl, _, rfl, _, _, rfl, rfl, _, rfl, ?_⟩
            refine ite2 (fun h4 => ?_) (fun h4 => ?_)
            · have h4' : (gs.getD jx (0, 0)).1 < y.2 := of_decide_eq_true h4
              have ec : Lm.cut at_ y.2 (gs.drop jx) = (if at_ < (gs.getD jx (0, 0)).1 then [(at_, (gs.getD jx (0, 0)).1)] else []) ++ Lm.cut (gs.getD jx (0, 0)).2 y.2 (gs.drop (jx + 1)) := by
                rw [gdr j1]
                show (if (gs.getD jx (0, 0)).1 < y.2 then _ else _) = _
                rw [if_pos h4']
              rw [ec] at eq4
              have ms : gs.length - ((jx : Int) + 1).toNat < gs.length - (jx : Int).toNat := by omega
              refine ⟨_, rfl, _, rfl, _, rfl, gn, gx, _, _, rfl, rfl, hg3 sm4, g1, gb, _, _, _, rfl, rfl, SqT.of g2, atI_nat (j := 0) rfl, _, _, rfl, rfl, _, rfl, ?_⟩
              refine ite2 (fun h5 => ?_) (fun h5 => ?_)
              · rw [if_pos (of_decide_eq_true h5)] at eq4
                refine ⟨_, rfl, .inl ⟨rfl, _, SqL.of hL4⟩, _, rfl, _, rfl, _, rfl, gn, gx, _, _, rfl, rfl, hg3 sm4, g1, gb, _, _, _, rfl, rfl, SqT.of g2, atI_nat (j := 0) rfl, by show 2 ≤ sizeLine; decide, fun t ht => ?_⟩
                have nt : l ≠ t := ne_of_none hL4 ht
                refine ⟨l, _, _, rfl, rfl, by rw [upd_ne nt]; exact hL4, by omega, ?_⟩
                have sm5 := put (o := .lst (ws4 ++ [.ref t])) sm4 (same_upd (o := .tup [.int at_, .int (gs.getD jx (0, 0)).1]) ht)
                have pq5 : PairsAt (upd (upd H4 t (.tup [.int at_, .int (gs.getD jx (0, 0)).1])) l (.lst (ws4 ++ [.ref t]))) (ws4 ++ [.ref t]) (rs4 ++ [(at_, (gs.getD jx (0, 0)).1)]) := paired_snoc (keep hL4 (same_upd ht) pq4) ⟨t, rfl, by rw [upd_ne nt.symm]; exact upd_same⟩
                have g5 : ∀ bb ys, H4 bb = some (.tup ys) → (upd (upd H4 t (.tup [.int at_, .int (gs.getD jx (0, 0)).1])) l (.lst (ws4 ++ [.ref t]))) bb = some (.tup ys) := fun bb ys z => by
                  rw [upd_ne (ne_of z hL4 (by intro z; cases z)), upd_ne (ne_of_none z ht)]
                  exact z
                refine ⟨_, rfl, _, rfl, gn, gx, _, _, rfl, rfl, hg3 sm5, g1, gb, _, _, _, rfl, rfl, SqT.of (g5 _ _ g2), atI_nat (j := 1) rfl, ?_⟩
                exact ⟨_, rfl, _, _, rfl, rfl, ⟨sm5, _, _, _, jx + 1, j1, upd_same, pq5, by rw [← eq4]; simp, rfl⟩, ms⟩
              · rw [if_neg (fun z => h5 (decide_eq_true z))] at eq4
                refine ⟨_, rfl, _, rfl, gn, gx, _, _, rfl, rfl, hg3 sm4, g1, gb, _, _, _, rfl, rfl, SqT.of g2, atI_nat (j := 1) rfl, ?_⟩
                exact ⟨_, rfl, _, _, rfl, rfl, ⟨sm4, _, _, _, jx + 1, j1, hL4, pq4, eq4, rfl⟩, ms⟩
            have ec : Lm.cut at_ y.2 (gs.drop jx) = if at_ < y.2 then [(at_, y.2)] else [] := by
              rw [gdr j1]
              show (if (gs.getD jx (0, 0)).1 < y.2 then _ else _) = _
              rw [if_neg (fun z => h4 (decide_eq_true z))]
            rotate_left
            have ec : Lm.cut at_ y.2 (gs.drop jx) = if at_ < y.2 then [(at_, y.2)] else [] := by
              have h3' : ¬ (jx : Int) < (gx.length : Int) := fun z => h3 (decide_eq_true z)
              rw [List.drop_of_length_le (by omega)]
              rfl
            all_goals
              rw [ec] at eq4
              refine ⟨_, rfl, _, rfl, _, _, rfl, rfl, _, rfl, ?_⟩
              refine ite2 (fun h6 => ?_) (fun h6 => ?_)
              · rw [if_pos (of_decide_eq_true h6)] at eq4
                refine ⟨_, rfl, .inl ⟨rfl, _, SqL.of hL4⟩, _, rfl, _, rfl, by show 2 ≤ sizeLine; decide, fun t ht => ?_⟩
                have nt : l ≠ t := ne_of_none hL4 ht
                refine ⟨l, _, _, rfl, rfl, by rw [upd_ne nt]; exact hL4, by omega, ?_⟩
                refine ⟨put sm4 (same_upd ht), ws4 ++ [.ref t], rs4 ++ [(at_, y.2)], f, _, _, _, _, upd_same, paired_snoc (keep hL4 (same_upd ht) pq4) ⟨t, rfl, by rw [upd_ne nt.symm]; exact upd_same⟩, by rw [← eq4]; simp, hf, rfl⟩
              · rw [if_neg (fun z => h6 (decide_eq_true z))] at eq4
                exact ⟨sm4, ws4, rs4, f, _, _, _, _, hL4, pq4, eq4, hf, rfl⟩
          · rintro σ H2 Q1 Q2 hq ⟨v, e1, v2, f1, pp, ys, f2, f3, i', j', e2, e3, k, e4, h⟩
            refine ⟨v, e1, v2, f1, pp, ys, f2, f3, i', j', e2, e3, k, e4, ?_⟩
            cases k with
            | false => exact iteF (hq _ _ (by simpa using h))
            | true =>
              rw [if_pos rfl] at h
              obtain ⟨a1, a2, a3, a4, p1, x1, i1, v1, b1, b2, b3, b4, p2, x2, i2, v2', c1, c2, c3, c4, d1, d2, i3, j3, g2, g3, k3, g4, h⟩ := h
              exact iteT ⟨a1, a2, a3, a4, p1, x1, i1, v1, b1, b2, b3, b4, p2, x2, i2, v2', c1, c2, c3, c4, d1, d2, i3, j3, g2, g3, k3, g4, hq _ _ h⟩
      · rintro σ H2 Q1 Q2 hq ⟨v, e1, v2, f1, pp, ys, f2, f3, i', j', e2, e3, k, e4, h⟩
        refine ⟨v, e1, v2, f1, pp, ys, f2, f3, i', j', e2, e3, k, e4, ?_⟩
        cases k with
        | false => exact iteF (hq _ _ (by simpa using h))
        | true =>
          rw [if_pos rfl] at h
          obtain ⟨a1, a2, a3, a4, p1, x1, i1, v1, b1, b2, b3, b4, p2, x2, i2, v2', c1, c2, c3, c4, d1, d2, i3, j3, g2, g3, k3, g4, h⟩ := h
          exact iteT ⟨a1, a2, a3, a4, p1, x1, i1, v1, b1, b2, b3, b4, p2, x2, i2, v2', c1, c2, c3, c4, d1, d2, i3, j3, g2, g3, k3, g4, hq _ _ h⟩
    · rintro σ H2 ⟨sm, ws, rs, fi, u1, u2, u3, u4, hL, pq, eq, fl, rfl⟩
      have dn : ks.drop kx.length = [] := List.drop_of_length_le (by omega)
      rw [dn] at eq
      have eq : rs ++ [] = Lm.wo ks gs := eq
      rw [List.append_nil] at eq
      subst eq
      refine ⟨_, rfl, l, _, rfl, .inl ⟨SqL.of hL, fun r hr' => ?_⟩⟩
      exact fin r _ (s0.trans (sm.trans (same_upd hr'))) ⟨ws, upd_same, pq.same (same_upd hr')⟩
end
end Lw

set_option maxHeartbeats 4000000
namespace Lw
open PySem L2 PySem.W

def spCell (K : Frag) : Sp := fun vs H Q _ => ∃ (a : Addr) (ns : List Int) (k : Nat), vs = [.ref a, .int k] ∧ SqL K H a (ns.map V.int) ∧ ns.length ≤ 63 ∧ ∀ c, Q (.int c) H
def drawB : Int := 10 ^ 18 + 9
def spDraws : Sp := fun vs H Q _ => ∃ (c : Int) (m : Nat), vs = [.int c, .int m] ∧ m ≤ 20 ∧
  ∀ (l : Addr) (xs : List Int) (H' : Hp), Same H H' → xs.length = m → (∀ x ∈ xs, 0 ≤ x ∧ x < drawB) → H' l = some (.lst (xs.map V.int)) → Q (.ref l) H'

section
variable {P : Program} {w : World} {K : PySem.W.Frag} {mg : Str → Option Value} {base : Heap}
theorem scCell : FnScope ["_law_script", "_law_k"] ["_law_script", "_law_k"] (defScope sCell) := ⟨rfl, rfl, rfl, by decide +kernel, rfl, by decide +kernel, by decide +kernel⟩
theorem ok_cell {f : Addr} {fd : FuncData} (F : Fun K "_law_cell_at" "_law_cell_at" sCell f fd) (G : Gb mg) : FnOk P w K mg base CX0 1 f fd ["_law_script", "_law_k"] (spCell K) := by
  refine F.ok scCell (fun vs H Q E h => ?_) (fun cdv A outer s H vs Q E hr h => ?_)
  · obtain ⟨a, ns, k, rfl, _⟩ := h
    rfl
  · obtain ⟨a, ns, k, rfl, hS, hl, q⟩ := h
    refine ⟨_, pss_cons (ps_if (pt_cmpR op_lt (pv 1) (pe_callB call_len_seq (by rfl) G.len PySem.boot_len (pa_cons (pv 0) pa_nil)) (nomark _)) (pss_one (ps_ret (pe_ix ix_list (pv 0) (pv 1) (fun _ _ => rfl)))) pss_nil)
      (pss_one (ps_ret pe_int)), ?_⟩
    refine ⟨_, rfl, _, rfl, a, _, rfl, .inl hS, _, _, rfl, rfl, _, rfl, ?_⟩
    refine ite2 (fun hc => ?_) (fun hc => q 0)
    have hk : k < ns.length := by
      have := of_decide_eq_true hc
      rw [List.length_map] at this
      omega
    refine ⟨_, rfl, _, rfl, a, _, _, _, rfl, rfl, hS, atI_nat (j := k) (v := V.int ns[k]) (by rw [List.getElem?_map, List.getElem?_eq_getElem hk]; rfl), q _⟩

theorem scDraws : FnScope ["_law_cell", "_law_many", "_law_found", "_law_rest", "_law_number", "_law_k"] ["_law_cell", "_law_many"] (defScope sDraws) := ⟨rfl, rfl, rfl, by decide +kernel, rfl, by decide +kernel, by decide +kernel⟩
theorem ok_draws {f : Addr} {fd : FuncData} (F : Fun K "_law_draws" "_law_draws" sDraws f fd) (G : Gb mg) : FnOk P w K mg base CX0 1 f fd ["_law_cell", "_law_many"] spDraws := by
  refine F.ok scDraws (fun vs H Q E h => ?_) (fun cdv A outer s H vs Q E hr h => ?_)
  · obtain ⟨c, m, rfl, _⟩ := h
    rfl
  · obtain ⟨c, m, rfl, hm, q⟩ := h
    refine ⟨_, pss_cons (ps_set (i := 2) scDraws.nd rfl (Or.inl rfl) (pe_lst pa_nil))
      (pss_cons (ps_set (i := 3) scDraws.nd rfl (Or.inl rfl) pe_int)
      (pss_cons (ps_if (pt_cmpR op_ge (pv 0) (pe_op op_pow pe_int pe_int) (nomark _)) (pss_one (ps_set (i := 3) scDraws.nd rfl (Or.inl rfl) (pe_op op_sub (pv 0) (pe_op op_pow pe_int pe_int)))) pss_nil)
      (pss_cons (ps_while PassesOwn.never (PW.pt (pw_and (pt_cmpR op_gt (pv 3) pe_int (nomark _)) (pw_and1 (pt_cmpR op_lt (pe_callB call_len_seq (by rfl) G.len PySem.boot_len (pa_cons (pv 2) pa_nil)) (pv 1) (nomark _)))))
        (pss_cons (ps_expr (pe_bm PySem.F.plainAttrs_list PySem.F.slot_list_append PySem.F.type_list_append mt_append (pv 2) (pa_cons (pe_op op_mod (pv 3) (pe_op op_pow pe_int pe_int)) pa_nil)))
        (pss_one (ps_set (i := 3) scDraws.nd rfl (Or.inl rfl) (pe_op op_fdivB (pv 3) (pe_op op_pow pe_int pe_int))))))
      (pss_cons (ps_set (i := 4) scDraws.nd rfl (Or.inl rfl) (pe_op op_add (pe_op op_mod (pv 0) (pe_op op_add (pe_op op_pow pe_int pe_int) pe_int)) pe_int))
      (pss_cons (ps_for PassesOwn.never rfl (pi_range1 rfl G.range (pa_cons (pe_op op_add (pv 1) pe_int) pa_nil)) (pg_name (i := 5) scDraws.nd rfl (Or.inl rfl))
        (pss_cons (ps_set (i := 4) scDraws.nd rfl (Or.inl rfl) (pe_op op_mod (pe_op op_add (pe_op op_add (pe_op op_mul (pv 4) (pv 4)) (pe_op op_mul pe_int (pv 4))) (pv 5)) (pe_op op_add (pe_op op_pow pe_int pe_int) pe_int)))
        (pss_one (ps_if (pt_cmpR op_gt (pv 5) pe_int (nomark _))
          (pss_one (ps_expr (pe_bm PySem.F.plainAttrs_list PySem.F.slot_list_append PySem.F.type_list_append mt_append (pv 2) (pa_cons (pe_op op_mod (pe_op op_mul (pv 4) (pe_op op_add (pe_op op_fdivB (pv 4) pe_int) pe_int)) (pe_op op_add (pe_op op_pow pe_int pe_int) pe_int)) pa_nil)))) pss_nil))))
      (pss_one (ps_ret (pe_slice sl_list (pv 2) po_none (po_some (pv 1)))))))))), ?_⟩
    refine ⟨by show 0 ≤ sizeLine; exact Nat.zero_le _, fun l hl => ?_⟩
    -- the rest
    have pw : CPow 10 30 := ⟨by decide, by decide, by decide⟩
    have pw15 : CPow 10 15 := ⟨by decide, by decide, by decide⟩
    have pw18 : CPow 10 18 := ⟨by decide, by decide, by decide⟩
    have pos18 : (0 : Int) < 10 ^ (18 : Int).toNat + 9 := by decide
    have val18 : (10 : Int) ^ (18 : Int).toNat + 9 = drawB := by decide
    have val15 : (10 : Int) ^ (15 : Int).toNat = 1000000000000000 := by decide
    have dB : drawB = 1000000000000000009 := by decide
    have sameL : ∀ {H2 : Hp} {o : HO}, Same H H2 → Same H (upd H2 l o) := fun {H2 o} e b u z => by
      rw [upd_ne (ne_of_none z hl)]
      exact e b u z
    have sz : ∀ {n : Nat}, n ≤ 1000 → n < sizeLine := fun h => small1000 h
    refine ⟨_, rfl, _, _, rfl, rfl, pw, _, _, rfl, rfl, _, rfl, ?_⟩
    have h30 : (10 : Int) ^ (30 : Int).toNat = 1000000000000000000000000000000 := by decide
    have w0 : (0 : Int) ≤ 0 := Int.le_refl 0
    refine ite2 (fun hc => ⟨_, rfl, _, _, rfl, rfl, pw, _, _, rfl, rfl, ?_⟩) (fun hc => ?_)
    have w1 : (0 : Int) ≤ c - 10 ^ (30 : Int).toNat := by
      have := of_decide_eq_true hc
      omega
    all_goals
      refine while_by (fun σ H2 => ∃ (ys : List Int) (r : Int), σ = [some (.int c), some (.int m), some (.ref l), some (.int r), none, none] ∧ H2 l = some (.lst (ys.map V.int)) ∧ Same H H2 ∧ ys.length ≤ m ∧ (∀ x ∈ ys, 0 ≤ x ∧ x < drawB) ∧ 0 ≤ r)
        (fun σ H2 => match H2 l with | some (.lst zs) => m - zs.length | _ => 0) ⟨[], _, rfl, upd_same, same_upd hl, Nat.zero_le _, (fun x hx => absurd hx (by simp)), by first | exact w1 | exact w0⟩ ?_ ?_
      · rintro σ H2 ⟨ys, r, rfl, hL, hs, hy, hb, hr0⟩
        refine ⟨_, rfl, _, _, rfl, rfl, _, rfl, ?_⟩
        refine ite2 (fun h1 => ?_) (fun h1 => iteF ?_)
        refine ⟨_, rfl, l, _, rfl, .inl (SqL.of hL), _, rfl, _, _, rfl, rfl, _, rfl, ?_⟩
        refine ite2 (fun h2 => ?_) (fun h2 => ?_)
        · have hlt : ys.length < m := by
            have := of_decide_eq_true h2
            rw [List.length_map] at this
            omega
          refine ⟨_, rfl, .inl ⟨rfl, _, SqL.of hL⟩, _, rfl, _, _, rfl, rfl, pw15, _, _, rfl, rfl, (by show (0 : Int) < _; rw [val15]; decide), l, _, _, rfl, rfl, hL, (by rw [List.length_map]; exact sz (by omega)), ?_⟩
          refine ⟨_, rfl, _, _, rfl, rfl, pw15, _, _, rfl, rfl, ⟨by rw [val15]; decide, by rw [val15]; decide⟩, ?_⟩
          refine ⟨⟨ys ++ [r % 10 ^ (15 : Int).toNat], _, rfl, by rw [upd_same, List.map_append]; rfl, sameL hs, by rw [List.length_append]; exact hlt, fun x hx => ?_, ?_⟩, ?_⟩
          · rcases List.mem_append.mp hx with hx | hx
            · exact hb x hx
            · have : x = r % 10 ^ (15 : Int).toNat := by simpa using hx
              rw [this, val15, dB]
              omega
          · rw [val15]
            omega
          · show (match (upd H2 l _) l with | some (.lst zs) => m - zs.length | _ => 0) < (match H2 l with | some (.lst zs) => m - zs.length | _ => 0)
            rw [upd_same, hL]
            show m - (List.map V.int ys ++ [V.int (r % 10 ^ (15 : Int).toNat)]).length < m - (List.map V.int ys).length
            rw [List.length_append, List.length_map]
            show m - (ys.length + 1) < m - ys.length
            omega
        all_goals
          refine ⟨_, rfl, _, _, rfl, rfl, pw18, _, _, rfl, rfl, _, _, rfl, rfl, pos18, _, _, rfl, rfl, ?_⟩
          refine ⟨_, rfl, _, _, rfl, rfl, (m : Int) + 3, rfl, by omega, by omega, for_range (lo := 0) (n := ((m : Int) + 3).toNat) (fun i σ H3 => ∃ (zs : List Int) (num : Int) (v : Option V) (r : Int), σ = [some (.int c), some (.int m), some (.ref l), some (.int r), some (.int num), v] ∧ H3 l = some (.lst (zs.map V.int)) ∧ Same H H3 ∧ zs.length ≤ 20 + i ∧ i ≤ zs.length + 3 ∧ (∀ x ∈ zs, 0 ≤ x ∧ x < drawB) ∧ 0 ≤ num ∧ num < drawB + 48271)
            ⟨ys, _, none, _, rfl, hL, hs, by omega, by omega, hb, by rw [val18, dB]; omega, by rw [val18, dB]; omega⟩ ?_ ?_⟩
          · rintro i σ H3 hi ⟨zs, num, v, r2, rfl, hL3, hs3, hz1, hz2, hb3, hn0, hn1⟩
            have cm : ∀ z : Int, CMul num z := fun z => .inl ⟨by rw [dB] at hn1; omega, by rw [dB] at hn1; omega⟩
            refine ⟨_, rfl, _, rfl, _, _, rfl, rfl, cm _, _, rfl, _, _, rfl, rfl, .inl ⟨by decide, by decide⟩, _, _, rfl, rfl, _, rfl, _, _, rfl, rfl, _, _, rfl, rfl, pw18, _, _, rfl, rfl, _, _, rfl, rfl, pos18, ?_⟩
            have nn : ∀ z : Int, 0 ≤ z % (10 ^ (18 : Int).toNat + 9) ∧ z % (10 ^ (18 : Int).toNat + 9) < drawB := fun z => by
              rw [val18, dB]
              omega
            refine ⟨_, rfl, _, _, rfl, rfl, _, rfl, ?_⟩
            have cm2 : ∀ z y : Int, CMul (z % (10 ^ (18 : Int).toNat + 9)) y := fun z y => .inl ⟨by have := (nn z).1; omega, by have := (nn z).2; rw [dB] at this; omega⟩
            refine ite2 (fun h3 => ?_) (fun h3 => ?_)
            · refine ⟨_, rfl, .inl ⟨rfl, _, SqL.of hL3⟩, _, rfl, _, rfl, _, _, rfl, rfl, ⟨by decide, by decide⟩, _, _, rfl, rfl, _, _, rfl, rfl, cm2 _ _, _, _, rfl, rfl, pw18, _, _, rfl, rfl, _, _, rfl, rfl, pos18, l, _, _, rfl, rfl, hL3, (by rw [List.length_map]; exact sz (by omega)), ?_⟩
              refine ⟨zs ++ [_], _, _, _, rfl, by rw [upd_same, List.map_append]; rfl, sameL hs3, by rw [List.length_append]; show zs.length + 1 ≤ _; omega, by rw [List.length_append]; show _ ≤ zs.length + 1 + 3; omega, fun x hx => ?_, (nn _).1, by have := (nn ((num * num + 48271 * num + (0 + (i : Int))))).2; omega⟩
              rcases List.mem_append.mp hx with hx | hx
              · exact hb3 x hx
              · have := List.mem_singleton.mp hx
                rw [this]
                exact nn _
            · have hik : ¬ (2 : Int) < 0 + (i : Int) := by simpa using h3
              exact ⟨zs, _, _, _, rfl, hL3, hs3, by omega, by omega, hb3, (nn _).1, by have := (nn ((num * num + 48271 * num + (0 + (i : Int))))).2; omega⟩
          · rintro σ H3 ⟨zs, num, v, r2, rfl, hL3, hs3, hz1, hz2, hb3, hn0, hn1⟩
            refine ⟨_, rfl, _, rfl, _, rfl, l, _, rfl, SqL.of hL3, fun p hp => ?_⟩
            have hzm : m ≤ zs.length := by omega
            refine q p (zs.take m) _ (fun b o z => by rw [upd_ne (ne_of_none (hs3 b o z) hp)]; exact hs3 b o z) (by rw [List.length_take]; omega) (fun x hx => hb3 x (List.mem_of_mem_take hx)) ?_
            rw [upd_same]
            have : cutV (zs.map V.int) none (some (m : Int)) = (zs.take m).map V.int := by
              unfold cutV
              rw [HT.sIx_none, HT.sIx_nat, List.length_map, List.drop_zero, List.map_take, Nat.min_eq_left hzm, Nat.sub_zero]
            rw [this]
      · rintro σ H2 Q1 Q2 hq ⟨v, e1, i, j, e2, e3, k, e4, h⟩
        refine ⟨v, e1, i, j, e2, e3, k, e4, ?_⟩
        cases k with
        | false => exact iteF (hq _ _ (by simpa using h))
        | true =>
          rw [if_pos rfl] at h
          obtain ⟨v2, f1, p, ys, f2, f3, v3, g1, i2, j2, g2, g3, k2, g4, h⟩ := h
          exact iteT ⟨v2, f1, p, ys, f2, f3, v3, g1, i2, j2, g2, g3, k2, g4, hq _ _ h⟩
end
theorem PairAt.same {H H' : Hp} {v : V} {p : Int × Int} (e : Same H H') (h : PairAt H v p) : PairAt H' v p := by
  obtain ⟨b, z, q⟩ := h
  exact ⟨b, z, e _ _ q⟩
/-- rising stretches of moderate size -/
structure Rise (ps : List (Int × Int)) : Prop where
  lt : ∀ (k : Nat) (l h : Int), ps[k]? = some (l, h) → l < h
  up : ∀ (k : Nat) (l h l' h' : Int), ps[k]? = some (l, h) → ps[k + 1]? = some (l', h') → h ≤ l'
  lo : ∀ (k : Nat) (l h : Int), ps[k]? = some (l, h) → -1000000000000000000 < l ∧ h < 1000000000000000000 ∧ h - l ≤ 30
  few : ps.length ≤ 4
def WorkAt (H : Hp) (p : Addr) (ps : List (Int × Int)) : Prop := ∃ xs, H p = some (.tup xs) ∧ Paired (PairAt H) xs ps ∧ Rise ps
theorem WorkAt.same {H H' : Hp} {p : Addr} {ps : List (Int × Int)} (e : Same H H') (h : WorkAt H p ps) : WorkAt H' p ps := by
  obtain ⟨xs, h1, h2, h3⟩ := h
  exact ⟨xs, e _ _ h1, paired_map (fun _ _ => PairAt.same e) h2, h3⟩
def spMake : Sp := fun vs H Q _ => ∃ (c : Int), vs = [.int c] ∧ ∀ (p : Addr) (ps : List (Int × Int)) (H' : Hp), Same H H' → WorkAt H' p ps → Q (.ref p) H'

theorem pick {ns : List Int} {i : Int} (h0 : 0 ≤ i) (h1 : i < ns.length) : ∃ z, z ∈ ns ∧ atI (ns.map V.int) i = some (.int z) := by
  obtain ⟨k, rfl⟩ := Int.eq_ofNat_of_zero_le h0
  have hk : k < ns.length := by omega
  exact ⟨ns[k], List.getElem_mem hk, atI_nat (by rw [List.getElem?_map, List.getElem?_eq_getElem hk]; rfl)⟩
theorem pickN {ns : List Int} {k : Nat} (hk : k < ns.length) : atI (ns.map V.int) (k : Int) = some (.int ns[k]) := atI_nat (by rw [List.getElem?_map, List.getElem?_eq_getElem hk]; rfl)
theorem Rise.nil : Rise [] := ⟨fun k l h z => by simp at z, fun k l h l' h' z => by simp at z, fun k l h z => by simp at z, Nat.zero_le _⟩
theorem Rise.snoc {ps : List (Int × Int)} {low l h : Int} (r : Rise ps) (hlast : ∀ (k : Nat) (a b : Int), ps[k]? = some (a, b) → b ≤ low) (h1 : low ≤ l) (h2 : l < h) (h3 : -1000000000000000000 < l ∧ h < 1000000000000000000 ∧ h - l ≤ 30) (h4 : ps.length < 4) : Rise (ps ++ [(l, h)]) := by
  have at_ : ∀ (k : Nat) (a b : Int), (ps ++ [(l, h)])[k]? = some (a, b) → ps[k]? = some (a, b) ∨ (k = ps.length ∧ a = l ∧ b = h) := fun k a b z => by
    rcases Nat.lt_trichotomy k ps.length with c | c | c
    · exact .inl (by rwa [List.getElem?_append_left c] at z)
    · subst c
      simp at z
      exact .inr ⟨rfl, z.1.symm, z.2.symm⟩
    · rw [List.getElem?_eq_none (by rw [List.length_append, List.length_singleton]; omega)] at z
      cases z
  refine ⟨fun k a b z => ?_, fun k a b a' b' z z' => ?_, fun k a b z => ?_, by rw [List.length_append, List.length_singleton]; omega⟩
  · rcases at_ k a b z with z | ⟨_, rfl, rfl⟩
    · exact r.lt k a b z
    · exact h2
  · rcases at_ (k + 1) a' b' z' with z2 | ⟨e, rfl, rfl⟩
    · have hk : k + 1 < ps.length := (List.getElem?_eq_some_iff.mp z2).1
      rcases at_ k a b z with z3 | ⟨e, _, _⟩
      · exact r.up k a b a' b' z3 z2
      · omega
    · rcases at_ k a b z with z3 | ⟨e', _, _⟩
      · have := hlast k a b z3
        omega
      · omega
  · rcases at_ k a b z with z | ⟨_, rfl, rfl⟩
    · exact r.lo k a b z
    · exact h3

section
variable {P : Program} {w : World} {K : PySem.W.Frag} {mg : Str → Option Value} {base : Heap}
theorem scMake : FnScope ["_law_cell", "_law_xs", "_law_low", "_law_found", "_law_k", "_law_high"] ["_law_cell"] (defScope sMake) := ⟨rfl, rfl, rfl, by decide +kernel, rfl, by decide +kernel, by decide +kernel⟩
theorem ok_make {f fD : Addr} {fd fdD : FuncData} (F : Fun K "_law_work" "_law_work" sMake f fd) (G : Gb mg) (GD : FnOk P w K mg base CX0 1 fD fdD ["_law_cell", "_law_many"] spDraws) (kp : keepIn K (.ref fD) = true) (bD : Binds K fdD ["_law_cell", "_law_many"] []) (mD : mg "_law_draws" = some (.ref fD)) :
    FnOk P w K mg base CX0 2 f fd ["_law_cell"] spMake := by
  refine F.ok scMake (fun vs H Q E h => ?_) (fun cdv A outer s H vs Q E hr h => ?_)
  · obtain ⟨c, rfl, _⟩ := h
    rfl
  · obtain ⟨c, rfl, q⟩ := h
    refine ⟨_, pss_cons (ps_set (i := 1) scMake.nd rfl (Or.inl rfl) (pe_call GD hr rfl mD kp bD .nil pass0 (pa_cons (pv 0) (pa_cons pe_int pa_nil))))
      (pss_cons (ps_set (i := 2) scMake.nd rfl (Or.inl rfl) (pe_ix ix_list (pe_lst (pa_cons pe_int (pa_cons (pe_un un_neg pe_int) (pa_cons pe_int (pa_cons (pe_op op_pow pe_int pe_int) (pa_cons (pe_op op_sub pe_int (pe_op op_pow pe_int pe_int)) (pa_cons (pe_un un_neg pe_int) pa_nil)))))))
        (pe_op op_mod (pe_ix ix_list (pv 1) pe_int (fun _ _ => rfl)) pe_int) (fun _ _ => rfl)))
      (pss_cons (ps_set (i := 3) scMake.nd rfl (Or.inl rfl) (pe_lst pa_nil))
      (pss_cons (ps_for PassesOwn.never rfl (pi_range1 rfl G.range (pa_cons (pe_ix ix_list (pe_lst (pa_cons pe_int (pa_cons pe_int (pa_cons pe_int (pa_cons pe_int (pa_cons pe_int (pa_cons pe_int pa_nil)))))))
          (pe_op op_mod (pe_ix ix_list (pv 1) pe_int (fun _ _ => rfl)) pe_int) (fun _ _ => rfl)) pa_nil)) (pg_name (i := 4) scMake.nd rfl (Or.inl rfl))
        (pss_cons (ps_set (i := 2) scMake.nd rfl (Or.inl rfl) (pe_op op_add (pv 2) (pe_ix ix_list (pe_lst (pa_cons pe_int (pa_cons pe_int (pa_cons pe_int (pa_cons pe_int pa_nil))))) (pe_op op_mod (pe_ix ix_list (pv 1) (pe_op op_add pe_int (pe_op op_mul pe_int (pv 4))) (fun _ _ => rfl)) pe_int) (fun _ _ => rfl))))
        (pss_cons (ps_set (i := 5) scMake.nd rfl (Or.inl rfl) (pe_op op_add (pe_op op_add (pv 2) pe_int) (pe_op op_mod (pe_ix ix_list (pv 1) (pe_op op_add pe_int (pe_op op_mul pe_int (pv 4))) (fun _ _ => rfl))
          (pe_ix ix_list (pe_lst (pa_cons pe_int (pa_cons pe_int (pa_cons pe_int (pa_cons pe_int pa_nil))))) (pe_op op_mod (pe_op op_fdiv (pe_ix ix_list (pv 1) (pe_op op_add pe_int (pe_op op_mul pe_int (pv 4))) (fun _ _ => rfl)) pe_int) pe_int) (fun _ _ => rfl)))))
        (pss_cons (ps_expr (pe_bm PySem.F.plainAttrs_list PySem.F.slot_list_append PySem.F.type_list_append mt_append (pv 3) (pa_cons (pe_tup (pa_cons (pv 2) (pa_cons (pv 5) pa_nil))) pa_nil)))
        (pss_one (ps_set (i := 2) scMake.nd rfl (Or.inl rfl) (pv 5)))))))
      (pss_one (ps_ret (pe_callTy call_tuple_of (by rfl) G.tuple boot_t (pa_cons (pv 3) pa_nil))))))), ?_⟩
    -- the draws
    refine ⟨_, rfl, c, 10, rfl, by decide, fun lx xs H1 s1 hx hxb hX => ?_⟩
    have ax : ∀ {H' : Hp}, Same H1 H' → SqL K H' lx (xs.map V.int) := fun e => SqL.of (e _ _ hX)
    have sz6 : (6 : Nat) ≤ sizeLine := by decide
    have sz4 : (4 : Nat) ≤ sizeLine := by decide
    have pw17 : CPow 10 17 := ⟨by decide, by decide, by decide⟩
    have v17 : (10 : Int) ^ (17 : Int).toNat = 100000000000000000 := by decide
    -- low
    refine ⟨_, rfl, _, _, rfl, rfl, pw17, _, _, rfl, rfl, pw17, _, _, rfl, rfl, _, rfl, sz6, fun l1 h1 => ?_⟩
    have s2 : Same H1 (upd H1 l1 (.lst [.int 0, .int (-7), .int 5, .int (10 ^ (17 : Int).toNat), .int (3 - 10 ^ (17 : Int).toNat), .int (-1)])) := same_upd h1
    obtain ⟨z0, m0, e0⟩ := pick (ns := [0, -7, 5, 10 ^ (17 : Int).toNat, 3 - 10 ^ (17 : Int).toNat, -1]) (i := xs[0] % 6) (by omega) (by show _ < ((6 : Nat) : Int); omega)
    refine ⟨_, rfl, lx, _, _, _, rfl, rfl, ax s2, pickN (k := 0) (by omega), _, _, rfl, rfl, (by show (0 : Int) < 6; decide), l1, _, _, _, rfl, rfl, SqL.of upd_same, e0, ?_⟩
    have b0 : -100000000000000000 ≤ z0 ∧ z0 ≤ 100000000000000000 := by
      rw [v17] at m0
      simp only [List.mem_cons, List.not_mem_nil, or_false] at m0
      omega
    generalize hH2 : upd H1 l1 (.lst [.int 0, .int (-7), .int 5, .int (10 ^ (17 : Int).toNat), .int (3 - 10 ^ (17 : Int).toNat), .int (-1)]) = H2 at s2 ⊢
    -- found
    refine ⟨Nat.zero_le _, fun lf hf => ?_⟩
    have s3 : Same H2 (upd H2 lf (.lst [])) := same_upd hf
    have nfx : lx ≠ lf := ne_of_none (s2 _ _ hX) hf
    have H1f : H1 lf = none := s2.free hf
    have Hf : H lf = none := s1.free H1f
    -- how many
    refine ⟨sz6, fun l2 h2 => ?_⟩
    obtain ⟨z1, m1, e1⟩ := pick (ns := [1, 2, 3, 4, 1, 0]) (i := xs[1] % 6) (by omega) (by show _ < ((6 : Nat) : Int); omega)
    have s4 : Same (upd H2 lf (.lst [])) (upd (upd H2 lf (.lst [])) l2 (.lst [.int 1, .int 2, .int 3, .int 4, .int 1, .int 0])) := same_upd h2
    have b1 : 0 ≤ z1 ∧ z1 ≤ 4 := by
      simp only [List.mem_cons, List.not_mem_nil, or_false] at m1
      omega
    refine ⟨_, rfl, lx, _, _, _, rfl, rfl, ax (s2.trans (s3.trans s4)), pickN (k := 1) (by omega), _, _, rfl, rfl, (by show (0 : Int) < 6; decide), l2, _, _, _, rfl, rfl, SqL.of upd_same, e1, z1, rfl, by omega, by omega, ?_⟩
    refine for_range (lo := 0) (n := z1.toNat) (fun i σ H5 => ∃ (low : Int) (vs : List V) (ps : List (Int × Int)) (u v : Option V), σ = [some (.int c), some (.ref lx), some (.int low), some (.ref lf), u, v] ∧ H5 lx = some (.lst (xs.map V.int)) ∧ Same H H5 ∧ H5 lf = some (.lst vs) ∧ Paired (PairAt H5) vs ps ∧ Rise ps ∧ ps.length = i ∧
      (∀ (k : Nat) (a b : Int), ps[k]? = some (a, b) → b ≤ low) ∧ -100000000000000000 ≤ low ∧ low ≤ 100000000000000000 + 40 * (i : Int)) ⟨z0, [], [], none, none, rfl, s4 _ _ (s3 _ _ (s2 _ _ hX)), s1.trans (s2.trans (s3.trans s4)), s4 _ _ upd_same, .nil, Rise.nil, rfl, (fun k a b z => by simp at z), b0.1, by omega⟩ ?_ ?_
    · rintro i σ H5 hi ⟨low, vs, ps, u, v, rfl, hX5, s5, hF5, pr, rise, hlen, hlast, bl1, bl2⟩
      have hi4 : i < 4 := by omega
      -- low
      refine ⟨_, rfl, sz4, fun l3 h3 => ?_⟩
      have t1 : Same H5 (upd H5 l3 (.lst [.int 0, .int 0, .int 1, .int 3])) := same_upd h3
      obtain ⟨z2, m2, e2⟩ := pick (ns := [0, 0, 1, 3]) (i := xs[2 + 2 * i] % 4) (by omega) (by show _ < ((4 : Nat) : Int); omega)
      have b2 : 0 ≤ z2 ∧ z2 ≤ 3 := by
        simp only [List.mem_cons, List.not_mem_nil, or_false] at m2
        omega
      have i2 : (2 : Int) + 2 * (0 + (i : Int)) = ((2 + 2 * i : Nat) : Int) := by omega
      have i3 : (3 : Int) + 2 * (0 + (i : Int)) = ((3 + 2 * i : Nat) : Int) := by omega
      have cm : ∀ z : Int, CMul 2 z := fun z => .inl ⟨by decide, by decide⟩
      refine ⟨_, rfl, _, rfl, _, _, rfl, rfl, cm _, _, _, rfl, rfl, lx, _, _, _, rfl, rfl, SqL.of (t1 _ _ hX5), (by rw [i2]; exact pickN (k := 2 + 2 * i) (by omega)), _, _, rfl, rfl, (by show (0 : Int) < 4; decide), l3, _, _, _, rfl, rfl, SqL.of upd_same, e2, _, _, rfl, rfl, ?_⟩
      generalize hH6 : upd H5 l3 (.lst [.int 0, .int 0, .int 1, .int 3]) = H6 at t1 ⊢
      -- high
      refine ⟨_, rfl, _, _, rfl, rfl, _, rfl, _, rfl, _, _, rfl, rfl, cm _, _, _, rfl, rfl, lx, _, _, _, rfl, rfl, SqL.of (t1 _ _ hX5), (by rw [i3]; exact pickN (k := 3 + 2 * i) (by omega)), sz4, fun l4 h4 => ?_⟩
      have t2 : Same H6 (upd H6 l4 (.lst [.int 3, .int 9, .int 9, .int 30])) := same_upd h4
      obtain ⟨z3, m3, e3⟩ := pick (ns := [3, 9, 9, 30]) (i := xs[2 + 2 * i] / 4 % 4) (by omega) (by show _ < ((4 : Nat) : Int); omega)
      have b3 : 3 ≤ z3 ∧ z3 ≤ 30 := by
        simp only [List.mem_cons, List.not_mem_nil, or_false] at m3
        omega
      refine ⟨_, rfl, _, rfl, _, _, rfl, rfl, cm _, _, _, rfl, rfl, lx, _, _, _, rfl, rfl, SqL.of (t2 _ _ (t1 _ _ hX5)), (by rw [i2]; exact pickN (k := 2 + 2 * i) (by omega)), _, _, rfl, rfl, ⟨by decide, by decide⟩, _, _, rfl, rfl, (by show (0 : Int) < 4; decide), l4, _, _, _, rfl, rfl, SqL.of upd_same, e3, _, _, rfl, rfl, (by show (0 : Int) < z3; omega), _, _, rfl, rfl, ?_⟩
      generalize hH7 : upd H6 l4 (.lst [.int 3, .int 9, .int 9, .int 30]) = H7 at t2 ⊢
      have t12 := t1.trans t2
      have r0 : 0 ≤ xs[3 + 2 * i] % z3 ∧ xs[3 + 2 * i] % z3 < 30 := ⟨Int.emod_nonneg _ (by omega), by have := Int.emod_lt_of_pos xs[3 + 2 * i] (show (0 : Int) < z3 by omega); omega⟩
      generalize xs[3 + 2 * i] % z3 = r at r0 ⊢
      -- append
      refine ⟨_, rfl, .inl ⟨rfl, _, SqL.of (t12 _ _ hF5)⟩, _, rfl, _, rfl, by show 2 ≤ sizeLine; decide, fun t ht => ?_⟩
      have t3 : Same H7 (upd H7 t (.tup [.int (low + z2), .int (low + z2 + 1 + r)])) := same_upd ht
      have t13 := t12.trans t3
      have lenv : vs.length ≤ 4 := by rw [pr.length]; exact rise.few
      refine ⟨lf, _, _, rfl, rfl, t13 _ _ hF5, small1000 (by omega), ?_⟩
      refine ⟨_, rfl, ?_⟩
      have keep : ∀ (b : Addr) (ys : List V), (upd H7 t (.tup [.int (low + z2), .int (low + z2 + 1 + r)])) b = some (.tup ys) → (upd (upd H7 t (.tup [.int (low + z2), .int (low + z2 + 1 + r)])) lf (.lst (vs ++ [.ref t]))) b = some (.tup ys) := fun b ys z => by
        rw [upd_ne (ne_of z (t13 _ _ hF5) (by intro w; cases w))]
        exact z
      refine ⟨low + z2 + 1 + r, vs ++ [.ref t], ps ++ [(low + z2, low + z2 + 1 + r)], _, _, rfl, ?_, fun b o z => ?_, upd_same, ?_, rise.snoc hlast (by omega) (by omega) ⟨by omega, by omega, by omega⟩ (by omega), ?_, fun k a b z => ?_, by omega, by omega⟩
      · rw [upd_ne nfx]
        exact t13 _ _ hX5
      · rw [upd_ne (ne_of_none z Hf)]
        exact t13 _ _ (s5 b o z)
      · refine Paired.snoc (paired_map (fun x p hp => ?_) pr) ⟨t, rfl, keep t _ upd_same⟩
        obtain ⟨b, z, hb⟩ := hp
        exact ⟨b, z, keep b _ (t13 _ _ hb)⟩
      · rw [List.length_append, hlen]
        rfl
      · rcases Nat.lt_trichotomy k ps.length with cc | cc | cc
        · rw [List.getElem?_append_left cc] at z
          have := hlast k a b z
          omega
        · subst cc
          simp at z
          omega
        · rw [List.getElem?_eq_none (by rw [List.length_append, List.length_singleton]; omega)] at z
          cases z
    · rintro σ H5 ⟨low, vs, ps, u, v, rfl, hX5, s5, hF5, pr, rise, hlen, hlast, bl1, bl2⟩
      refine ⟨_, rfl, lf, vs, rfl, .inl ⟨SqL.of hF5, fun p hp => ?_⟩⟩
      exact q p ps _ (s5.trans (same_upd hp)) ⟨vs, upd_same, paired_map (fun _ _ => PairAt.same (same_upd hp)) pr, rise⟩
end
end Lw

set_option maxHeartbeats 4000000
namespace L2
open PySem PySem.Spec PyProof.Rows
theorem Takes.of {X : Cx} {NB : List Str} {n : Nat} {js : List Nat} {scope : Scope} {cl : List (Str × Addr)} (clo : closureFor scope X.env = pure cl) (hsub : ∀ p ∈ cl, X.env.cells.lookup p.1 = some p.2)
    (hhas : ∀ p ∈ (relabel scope X.env).names, (p.2 = .cell ∨ p.2 = .free) → (cl.lookup p.1).isSome = true) (len : NB.length = n + js.length) (nam : ∀ k j, js[k]? = some j → NB[n + k]? = X.N[j]?)
    (ck : ∀ x ∈ NB.drop n, ((relabel scope X.env).names.lookup x = some .cell ∨ (relabel scope X.env).names.lookup x = some .free) ∧ (X.env.kindOf x = some .cell ∨ X.env.kindOf x = some .free) ∧ (cl.lookup x).isSome = true) : Takes X NB n js scope cl :=
  ⟨clo, fun x c q => hsub (x, c) (PySem.mem_of_lookup q), fun x q => q.elim (fun z => hhas (x, _) (PySem.mem_of_lookup z) (.inl rfl)) fun z => hhas (x, _) (PySem.mem_of_lookup z) (.inr rfl), len, nam, fun x _ hx => ck x hx⟩
theorem all_nil {α : Type} {P : α → Prop} : ∀ x ∈ ([] : List α), P x := fun x hx => absurd hx (by simp)
theorem all_cons {α : Type} {P : α → Prop} {a : α} {l : List α} (h : P a) (t : ∀ x ∈ l, P x) : ∀ x ∈ a :: l, P x := fun x hx => by
  rcases List.mem_cons.mp hx with rfl | hx
  · exact h
  · exact t x hx
end L2
namespace Lw
open PySem L2 PySem.W
theorem gName_in {i : Nat} {v : V} {σ : St} {H : Hp} {Q : St → Hp → Prop} (h : Q (σ.set i (some v)) H) : gName i v σ H Q := h
theorem tYes_in {σ : St} {H : Hp} {Q : Bool → Hp → Prop} (h : Q true H) : tYes σ H Q := h
def pairD (p : Int × Int) : PyData := .tuple [.int p.1, .int p.2]
def workD (ps : List (Int × Int)) : PyData := .tuple (ps.map pairD)
theorem rdv_pair {K : Frag} {H : Hp} {v : V} {p : Int × Int} (h : PairAt H v p) : RdV K H v (pairD p) := by
  obtain ⟨b, rfl, q⟩ := h
  exact .tup (SqT.of q) (.cons (.int _) (.cons (.int _) .nil))
theorem rdvs_pairs {K : Frag} {H : Hp} : ∀ {xs : List V} {ps : List (Int × Int)}, Paired (PairAt H) xs ps → RdVs K H xs (ps.map pairD)
  | _, _, .nil => .nil
  | _, _, .cons r t => .cons (rdv_pair r) (rdvs_pairs t)
def Gd (n : Nat) (d : PyData) : Prop := d.canLay0 = true ∧ d.depth ≤ n
theorem canAll : ∀ {ds : List PyData}, (∀ d ∈ ds, d.canLay0 = true) → PyData.canLayAll0 ds = true
  | [], _ => by rw [PyData.canLayAll0]
  | d :: ds, h => by
    rw [PyData.canLayAll0, h d (List.mem_cons_self), canAll fun e he => h e (List.mem_cons_of_mem _ he)]
    rfl
theorem depAll {n : Nat} : ∀ {ds : List PyData}, (∀ d ∈ ds, d.depth ≤ n) → PyData.depthAll ds ≤ n
  | [], _ => by rw [PyData.depthAll]; exact Nat.zero_le _
  | d :: ds, h => by
    rw [PyData.depthAll]
    exact Nat.max_le.mpr ⟨h d List.mem_cons_self, depAll fun e he => h e (List.mem_cons_of_mem _ he)⟩
theorem Gd.tup {n : Nat} {ds : List PyData} (h : ∀ d ∈ ds, Gd n d) : Gd (n + 1) (.tuple ds) := by
  refine ⟨?_, ?_⟩
  · rw [PyData.canLay0]
    exact canAll fun d hd => (h d hd).1
  · rw [PyData.depth]
    exact Nat.succ_le_succ (depAll fun d hd => (h d hd).2)
theorem Gd.lst {n : Nat} {ds : List PyData} (h : ∀ d ∈ ds, Gd n d) : Gd (n + 1) (.list ds) := by
  refine ⟨?_, ?_⟩
  · rw [PyData.canLay0]
    exact canAll fun d hd => (h d hd).1
  · rw [PyData.depth]
    exact Nat.succ_le_succ (depAll fun d hd => (h d hd).2)
theorem Gd.int {n : Nat} (i : Int) : Gd n (.int i) := ⟨by rw [PyData.canLay0], by rw [PyData.depth]; exact Nat.zero_le _⟩
theorem Gd.mono {n m : Nat} {d : PyData} (h : Gd n d) (e : n ≤ m) : Gd m d := ⟨h.1, Nat.le_trans h.2 e⟩
theorem Gd.shaped {n : Nat} {d : PyData} (h : Gd n d) (e : n ≤ 64) : SeqAt.shaped d = true := by
  unfold SeqAt.shaped
  rw [h.1, decide_eq_true (Nat.le_trans h.2 e)]
  rfl
theorem gd_nil {n : Nat} : ∀ d ∈ ([] : List PyData), Gd n d := fun d h => absurd h (by simp)
theorem gd_cons {n : Nat} {d : PyData} {ds : List PyData} (h : Gd n d) (hs : ∀ e ∈ ds, Gd n e) : ∀ e ∈ d :: ds, Gd n e := fun e he => by
  rcases List.mem_cons.mp he with z | z
  · rw [z]; exact h
  · exact hs e z
theorem Gd.pair (p : Int × Int) : Gd 1 (pairD p) := Gd.tup (gd_cons (Gd.int _) (gd_cons (Gd.int _) gd_nil))
theorem gd_pairs {n : Nat} (ps : List (Int × Int)) : ∀ d ∈ ps.map pairD, Gd (n + 1) d := fun d hd => by
  obtain ⟨p, _, rfl⟩ := List.mem_map.mp hd
  exact (Gd.pair p).mono (by omega)
theorem eqv_pair (p : Int × Int) : PyData.eqv (pairD p) (pairD p) = true := by
  unfold pairD
  simp [PyData.eqv, PyData.eqvAll]
theorem eqvAll_pairs : ∀ ps : List (Int × Int), PyData.eqvAll (ps.map pairD) (ps.map pairD) = true
  | [] => by simp [PyData.eqvAll]
  | p :: ps => by
    rw [List.map_cons, PyData.eqvAll, eqv_pair, eqvAll_pairs ps]
    rfl
theorem eqv_work (ps : List (Int × Int)) : PyData.eqv (workD ps) (workD ps) = true := by
  unfold workD
  rw [PyData.eqv]
  exact eqvAll_pairs ps
theorem eqv_work_nil (ps : List (Int × Int)) : PyData.eqv (workD ps) (.tuple []) = decide (ps = []) := by
  unfold workD
  rw [PyData.eqv]
  cases ps with
  | nil => simp [PyData.eqvAll]
  | cons p ps => simp [PyData.eqvAll]

/-! ### what is spoilt -/

theorem work_rdv {K : Frag} {H : Hp} {p : Addr} {ps : Lm.Ps} (h : WorkM H p ps) : RdV K H (.ref p) (workD ps) := by
  obtain ⟨xs, h1, h2⟩ := h
  exact .tup (SqT.of h1) (rdvs_pairs h2)
theorem work_shaped (ps : Lm.Ps) : SeqAt.shaped (workD ps) = true := (Gd.tup (gd_pairs (n := 0) ps)).shaped (by decide)
theorem Rise.far {ps : List (Int × Int)} (r : Rise ps) : ∀ (d k : Nat) (l h l' h' : Int), ps[k]? = some (l, h) → ps[k + 1 + d]? = some (l', h') → h ≤ l'
  | 0, k, l, h, l', h', e1, e2 => r.up k l h l' h' e1 e2
  | d + 1, k, l, h, l', h', e1, e2 => by
    have hk : k + 1 + d < ps.length := by
      have := (List.getElem?_eq_some_iff.mp e2).1
      omega
    have e3 : ps[k + 1 + d]? = some ps[k + 1 + d] := List.getElem?_eq_getElem hk
    have h1 := r.far d k l h _ _ e1 e3
    have h2 := r.lt _ _ _ e3
    have h3 := r.up (k + 1 + d) _ _ l' h' e3 e2
    omega

theorem rise_wk : ∀ {ps : Lm.Ps}, Rise ps → Lm.Wk ps
  | [], _ => trivial
  | p :: t, r => by
    refine ⟨r.lt 0 p.1 p.2 rfl, fun q hq => ?_, rise_wk (ps := t) ⟨fun k l h z => r.lt (k + 1) l h z, fun k l h l' h' z1 z2 => r.up (k + 1) l h l' h' z1 z2, fun k l h z => r.lo (k + 1) l h z, by have := r.few; rw [List.length_cons] at this; omega⟩⟩
    obtain ⟨d, hd, rfl⟩ := List.getElem_of_mem hq
    refine r.far d 0 p.1 p.2 t[d].1 t[d].2 rfl ?_
    rw [show 0 + 1 + d = d + 1 by omega]
    show t[d]? = _
    rw [List.getElem?_eq_getElem hd]
theorem lo_of : ∀ {ks : Lm.Ps}, (∀ q ∈ ks, q.1 < q.2) → ks.Pairwise (fun a b => lexB b a = false) → Lm.Lo ks
  | [], _, _ => trivial
  | k :: ks, h, p => by
    obtain ⟨p1, p2⟩ := List.pairwise_cons.mp p
    refine ⟨h k (List.mem_cons_self ..), fun q hq => ?_, lo_of (fun q hq => h q (List.mem_cons_of_mem _ hq)) p2⟩
    have := of_decide_eq_false (p1 q hq)
    omega
theorem wk_map : ∀ {ps : Lm.Ps} (d : Int), Lm.Wk ps → Lm.Wk (ps.map fun q => (q.1 + d, q.2 + d))
  | [], _, _ => trivial
  | p :: t, d, ⟨h1, h2, h3⟩ => by
    refine ⟨by show p.1 + d < p.2 + d; omega, fun q hq => ?_, wk_map d h3⟩
    obtain ⟨r, hr, rfl⟩ := List.mem_map.mp hq
    have := h2 r hr
    show p.2 + d ≤ r.1 + d
    omega
/-- a work in its short form with just these places -/
def Told (H : Hp) (Q : VK) (n : Nat) (M : Int → Prop) : Prop := ∀ (r : Addr) (d : Lm.Ps) (H' : Hp), Same H H' → WorkM H' r d → Lm.Sh d → (∀ x, Lm.mem d x ↔ M x) → d.length ≤ n → Q (.ref r) H'
def spEither : Sp := fun vs H Q _ => ∃ (p q : Addr) (a b : Lm.Ps), vs = [.ref p, .ref q] ∧ WorkM H p a ∧ WorkM H q b ∧ Lm.Wk a ∧ Lm.Wk b ∧ a.length + b.length < 64 ∧ Told H Q (a.length + b.length) fun x => Lm.mem a x ∨ Lm.mem b x
def spDiff : Sp := fun vs H Q _ => ∃ (p q : Addr) (a b : Lm.Ps), vs = [.ref p, .ref q] ∧ WorkM H p a ∧ WorkM H q b ∧ Lm.Wk a ∧ Lm.Wk b ∧ a.length ≤ 1000 ∧ b.length ≤ 1000 ∧ Told H Q (a.length + b.length) fun x => Lm.mem a x ∧ ¬ Lm.mem b x
def spBoth : Sp := fun vs H Q _ => ∃ (p q : Addr) (a b : Lm.Ps), vs = [.ref p, .ref q] ∧ WorkM H p a ∧ WorkM H q b ∧ Lm.Wk a ∧ Lm.Wk b ∧ a.length + b.length ≤ 1000 ∧ Told H Q (a.length + (a.length + b.length)) fun x => Lm.mem a x ∧ Lm.mem b x
def spSt : Sp := fun vs H Q _ => ∃ (p : Addr) (a : Lm.Ps), vs = [.ref p] ∧ WorkM H p a ∧ Lm.Wk a ∧ a.length ≤ 1000 ∧ Told H Q a.length fun x => Lm.mem a x
def spSize : Sp := fun vs H Q _ => ∃ (p : Addr) (a : Lm.Ps), vs = [.ref p] ∧ WorkM H p a ∧ Lm.Wk a ∧ a.length ≤ 1000 ∧ ∀ H', Same H H' → Q (.int (Lm.sz a)) H'
def spMoved : Sp := fun vs H Q _ => ∃ (p : Addr) (d : Int) (a : Lm.Ps), vs = [.ref p, .int d] ∧ WorkM H p a ∧ a.length ≤ 1000 ∧ ∀ r H', Same H H' → WorkM H' r (a.map fun q => (q.1 + d, q.2 + d)) → Q (.ref r) H'
theorem ndS : (["low", "high"] : List Str).Nodup := by decide +kernel
theorem ndM : (["_law_low", "_law_high", "_law_by"] : List Str).Nodup := by decide +kernel
section
variable {P : Program} {w : World} {K : PySem.W.Frag} {mg : Str → Option Value} {base : Heap}
theorem diff_of {f : Addr} {fd : FuncData} {k : Nat} (h : FnOk P w K mg base CX0 k f fd ["one", "other"] spWithout) : FnOk P w K mg base CX0 k f fd ["one", "other"] spDiff := by
  refine h.imp fun vs H Q E ⟨p, q, a, b, e, ha, hb, wa, wb, la, lb, t⟩ => ⟨p, q, a, b, e, ha, hb, wa, wb, la, lb, fun r H' s hr => ?_⟩
  obtain ⟨s1, m1, l1⟩ := Lm.merged_ok wa.lo
  obtain ⟨s2, m2, l2⟩ := Lm.merged_ok wb.lo
  obtain ⟨i1, i2, i3⟩ := Lm.wo_ok s1 s2
  have l3 := Lm.wo_len s1 s2
  exact t r _ H' s hr i1 (fun x => by rw [i3 x, m1 x, m2 x]) (by omega)
theorem st_of {f : Addr} {fd : FuncData} {k : Nat} (h : FnOk P w K mg base CX0 k f fd ["work"] spShort) : FnOk P w K mg base CX0 k f fd ["work"] spSt := by
  refine h.imp fun vs H Q E ⟨p, a, e, ha, wa, la, t⟩ => ⟨p, a, e, ha, wa, la, fun r H' s hr => ?_⟩
  obtain ⟨s1, m1, l1⟩ := Lm.merged_ok wa.lo
  exact t r _ H' s hr s1 m1 l1
theorem scEither : FnScope ["one", "other"] ["one", "other"] (defScope sEither) := ⟨rfl, rfl, rfl, by decide +kernel, rfl, by decide +kernel, by decide +kernel⟩
theorem ok_either {f fC fM : Addr} {fd fdC fdM : FuncData} (F : Fun K "either" "either" sEither f fd) (G : Gb mg) (GC : FnOk P w K mg base CX0 4 fC fdC ["work"] spCheck) (kC : keepIn K (.ref fC) = true) (bC : Binds K fdC ["work"] []) (mC : mg "check_work" = some (.ref fC)) (GM : FnOk P w K mg base CX0 4 fM fdM ["stretches"] (spMerged K)) (kM : keepIn K (.ref fM) = true) (bM : Binds K fdM ["stretches"] []) (mM : mg "merged" = some (.ref fM)) :
    FnOk P w K mg base CX0 5 f fd ["one", "other"] spEither := by
  refine F.ok scEither (fun vs H Q E h => ?_) (fun cdv A outer s H vs Q E hr h => ?_)
  · obtain ⟨p, q, a, b, rfl, _⟩ := h
    rfl
  · obtain ⟨p, q, a, b, rfl, ha, hb, wa, wb, l64, t⟩ := h
    refine ⟨_, (pss_cons (ps_expr (pe_call GC hr rfl mC kC bC .nil pass0 (pa_cons (pv 0) pa_nil))) (pss_cons (ps_expr (pe_call GC hr rfl mC kC bC .nil pass0 (pa_cons (pv 1) pa_nil))) (pss_one (ps_ret (pe_call GM hr rfl mM kM bM .nil pass0 (pa_cons (pe_callB call_sorted (by rfl) G.sorted boot_srt (pa_cons (pe_op op_cat (pe_callTy call_list_of (by rfl) G.list boot_l (pa_cons (pv 0) pa_nil)) (pe_callTy call_list_of (by rfl) G.list boot_l (pa_cons (pv 1) pa_nil))) pa_nil)) pa_nil)))))), ?_⟩
    have sl : sizeLine = 16777216 := sizeLine_eq
    refine ⟨_, rfl, p, a, rfl, ha, wa, by omega, ?_⟩
    refine ⟨_, rfl, q, b, rfl, hb, wb, by omega, ?_⟩
    obtain ⟨xs, x1, x2⟩ := id ha
    obtain ⟨ys, y1, y2⟩ := id hb
    have lx : xs.length = a.length := x2.length
    have ly : ys.length = b.length := y2.length
    refine ⟨_, rfl, p, xs, rfl, .inr (SqT.of x1), fun l1 h1 => ?_⟩
    have s1 : Same H (upd H l1 (.lst xs)) := same_upd h1
    have e1 : (upd H l1 (.lst xs)) l1 = some (.lst xs) := upd_same
    generalize upd H l1 (.lst xs) = H1 at s1 e1 ⊢
    refine ⟨_, rfl, q, ys, rfl, .inr (SqT.of (s1 _ _ y1)), fun l2 h2 => ?_⟩
    have s2 : Same H1 (upd H1 l2 (.lst ys)) := same_upd h2
    have e2 : (upd H1 l2 (.lst ys)) l2 = some (.lst ys) := upd_same
    generalize upd H1 l2 (.lst ys) = H2 at s2 e2 ⊢
    refine ⟨l1, l2, xs, ys, rfl, rfl, s2 _ _ e1, e2, by omega, fun l3 h3 => ?_⟩
    have s3 : Same H2 (upd H2 l3 (.lst (xs ++ ys))) := same_upd h3
    have e3 : (upd H2 l3 (.lst (xs ++ ys))) l3 = some (.lst (xs ++ ys)) := upd_same
    generalize upd H2 l3 (.lst (xs ++ ys)) = H3 at s3 e3 ⊢
    have s03 := s1.trans (s2.trans s3)
    refine ⟨l3, xs ++ ys, a ++ b, rfl, SqL.of e3, paired_app (x2.same s03) (y2.same s03), by rw [List.length_append]; omega, fun l4 zs ks h4 hz pm pw => ?_⟩
    have s4 : Same H3 (upd H3 l4 (.lst zs)) := same_upd h4
    have lk : ks.length = a.length + b.length := by rw [pm.length_eq, List.length_append]
    have hz' : PairsAt (upd H3 l4 (.lst zs)) zs ks := PairsAt.same s4 hz
    have ltk : ∀ q ∈ ks, q.1 < q.2 := fun q hq => by
      rcases List.mem_append.mp (pm.mem_iff.mp hq) with h | h
      · exact wa.lt q h
      · exact wb.lt q h
    obtain ⟨m1, m2, m3⟩ := Lm.merged_ok (lo_of ltk pw)
    refine ⟨l4, zs, ks, rfl, .inl (SqL.of upd_same), hz', by omega, fun r H' s5 hr' => ?_⟩
    exact t r _ H' (s03.trans (s4.trans s5)) hr' m1 (fun x => by rw [m2 x, Lm.mem_perm pm, Lm.mem_app]) (by omega)
theorem scBoth : FnScope ["one", "other"] ["one", "other"] (defScope sBoth) := ⟨rfl, rfl, rfl, by decide +kernel, rfl, by decide +kernel, by decide +kernel⟩
theorem ok_both {f fW : Addr} {fd fdW : FuncData} (F : Fun K "both" "both" sBoth f fd) (GW : FnOk P w K mg base CX0 6 fW fdW ["one", "other"] spDiff) (kW : keepIn K (.ref fW) = true) (bW : Binds K fdW ["one", "other"] []) (mW : mg "without" = some (.ref fW)) :
    FnOk P w K mg base CX0 7 f fd ["one", "other"] spBoth := by
  refine F.ok scBoth (fun vs H Q E h => ?_) (fun cdv A outer s H vs Q E hr h => ?_)
  · obtain ⟨p, q, a, b, rfl, _⟩ := h
    rfl
  · obtain ⟨p, q, a, b, rfl, ha, hb, wa, wb, ln, t⟩ := h
    refine ⟨_, (pss_one (ps_ret (pe_call GW hr rfl mW kW bW .nil pass0 (pa_cons (pv 0) (pa_cons (pe_call GW hr rfl mW kW bW .nil pass0 (pa_cons (pv 0) (pa_cons (pv 1) pa_nil))) pa_nil))))), ?_⟩
    refine ⟨_, rfl, _, rfl, _, rfl, p, q, a, b, rfl, ha, hb, wa, wb, by omega, by omega, fun r d H1 s1 hr' sd md ld => ?_⟩
    refine ⟨p, r, a, d, rfl, ha.same s1, hr', wa, sd.wk, by omega, by omega, fun r2 d2 H2 s2 hr2 sd2 md2 ld2 => ?_⟩
    refine t r2 d2 H2 (s1.trans s2) hr2 sd2 (fun x => ?_) (by omega)
    have m1 : Lm.mem d x ↔ Lm.mem a x ∧ ¬ Lm.mem b x := md x
    have m2 : Lm.mem d2 x ↔ Lm.mem a x ∧ ¬ Lm.mem d x := md2 x
    rw [m2, m1]
    by_cases i : Lm.mem a x <;> by_cases j : Lm.mem b x <;> simp [i, j]
theorem scSize : FnScope ["work"] ["work"] (defScope sSize) := ⟨rfl, rfl, rfl, by decide +kernel, rfl, by decide +kernel, by decide +kernel⟩
theorem sz_sum : ∀ a : Lm.Ps, Lm.sz a = (a.map fun q => q.2 - q.1).sum
  | [] => rfl
  | p :: t => by
    show p.2 - p.1 + Lm.sz t = _
    rw [sz_sum t, List.map_cons, List.sum_cons]
theorem ok_size {f fC : Addr} {fd fdC : FuncData} (F : Fun K "size_of" "size_of" sSize f fd) (G : Gb mg) (GC : FnOk P w K mg base CX0 4 fC fdC ["work"] spCheck) (kC : keepIn K (.ref fC) = true) (bC : Binds K fdC ["work"] []) (mC : mg "check_work" = some (.ref fC)) : FnOk P w K mg base CX0 5 f fd ["work"] spSize := by
  refine F.ok scSize (fun vs H Q E h => ?_) (fun cdv A outer s H vs Q E hr h => ?_)
  · obtain ⟨p, a, rfl, _⟩ := h
    rfl
  · obtain ⟨p, a, rfl, ha, wa, la, t⟩ := h
    refine ⟨_, (pss_cons (ps_expr (pe_call GC hr rfl mC kC bC .nil pass0 (pa_cons (pv 0) pa_nil))) (pss_one (ps_ret (pe_callB (call_sum rfl) (by rfl) G.sum boot_sum (pa_cons (pe_comp (NB := ["low", "high"]) (g := gTup K 2 (gCons (gName 0) (gCons (gName 1) gNil))) rfl (by decide +kernel) (by decide +kernel) (by decide +kernel) rfl (pi_tup (pv 0)) (fun C s H fp pn => pg_tup (n := 2) rfl (pgs_cons (pg_name (i := 0) ndS rfl (Or.inl rfl) (.inr rfl)) (pgs_cons (pg_name (i := 1) ndS rfl (Or.inl rfl) (.inr rfl)) pgs_nil))) (fun C s H fp pn => pts_nil)
        (fun C s H fp pn => pe_op op_sub (pv 1) (pv 0))) pa_nil))))), ?_⟩
    have sl : sizeLine = 16777216 := sizeLine_eq
    obtain ⟨xs, x1, x2⟩ := id ha
    have lx : xs.length = a.length := x2.length
    refine ⟨_, rfl, p, a, rfl, ha, wa, la, ?_⟩
    refine ⟨_, rfl, p, rfl, ⟨_, SqT.of x1⟩, fun acc hacc => ?_⟩
    refine ⟨fun i m ys H' => m = xs.length - i ∧ i ≤ xs.length ∧ ys = ((a.take i).map fun q => q.2 - q.1).map V.int ∧ Same H H' ∧ H' acc = some (.lst ys), ⟨_, rfl, Nat.zero_le _, rfl, same_upd hacc, upd_same⟩, ?_⟩
    rintro i m ys H' ⟨rfl, hi, rfl, sm, hA⟩
    refine ⟨hA, ?_⟩
    by_cases hlt : i < xs.length
    · refine .inr ⟨⟨xs, _, SqT.of (sm _ _ x1), List.getElem?_eq_getElem hlt⟩, ?_⟩
      rintro y H'' ⟨rfl, hy⟩
      have ey := hy xs (SqT.of (sm _ _ x1))
      obtain ⟨q, hq, b', rfl, hb'⟩ := paired_get x2 ey
      refine ⟨b', _, rfl, SqT.of (sm _ _ hb'), rfl, _, _, rfl, _, _, rfl, rfl, ?_⟩
      refine tYes_in ?_
      refine iteT ?_
      refine ⟨_, rfl, _, rfl, _, _, rfl, rfl, hA, by rw [List.length_map, List.length_map, List.length_take]; omega, _, ?_, rfl, hlt, ?_, fun b o z => ?_, upd_same⟩
      · omega
      · rw [List.take_add_one, hq]
        simp
      · rw [upd_ne (ne_of_none z hacc)]
        exact sm _ _ z
    · refine .inl ⟨⟨xs, SqT.of (sm _ _ x1), by omega⟩, ?_⟩
      have ei : a.take i = a := List.take_of_length_le (by omega)
      rw [ei] at hA
      refine ⟨acc, a.map fun q => q.2 - q.1, rfl, SqL.of hA, ?_⟩
      rw [← sz_sum]
      exact t _ sm
theorem scMoved : FnScope ["_law_work_here", "_law_by"] ["_law_work_here", "_law_by"] (defScope sMoved) := ⟨rfl, rfl, rfl, by decide +kernel, rfl, by decide +kernel, by decide +kernel⟩
theorem ok_moved {f : Addr} {fd : FuncData} (F : Fun K "_law_moved" "_law_moved" sMoved f fd) (G : Gb mg) : FnOk P w K mg base CX0 1 f fd ["_law_work_here", "_law_by"] spMoved := by
  refine F.ok scMoved (fun vs H Q E h => ?_) (fun cdv A outer s H vs Q E hr h => ?_)
  · obtain ⟨p, d, a, rfl, _⟩ := h
    rfl
  · obtain ⟨p, d, a, rfl, ha, la, t⟩ := h
    refine ⟨_, (pss_one (ps_ret (pe_callTy call_tuple_of (by rfl) G.tuple boot_t (pa_cons (pe_compF (NB := ["_law_low", "_law_high", "_law_by"]) (n := 2) (js := [1]) (g := gTup K 2 (gCons (gName 0) (gCons (gName 1) gNil))) (cl := [("_law_by", s.heap.objs.size + 1)]) rfl (by decide +kernel) (by decide +kernel) rfl
        (Takes.of rfl (all_cons rfl all_nil) (all_cons (fun z => nomatch z) (all_cons (fun z => nomatch z) (all_cons (fun z => nomatch z) (all_cons (fun _ => rfl) all_nil)))) rfl
          (fun k j h => match k, j, h with | 0, _, rfl => rfl | k + 1, _, h => absurd h (by simp)) (all_cons ⟨.inl rfl, .inl rfl, rfl⟩ all_nil))
        (pi_tup (pv 0)) (fun C s H fp pn => pg_tup (n := 2) rfl (pgs_cons (pg_name (i := 0) ndM rfl (Or.inl rfl) (.inr rfl)) (pgs_cons (pg_name (i := 1) ndM rfl (Or.inl rfl) (.inr rfl)) pgs_nil))) (fun C s H fp pn => pts_nil)
        (fun C s H fp pn => pe_tup (pa_cons (pe_op op_add (pv 0) (pv 2)) (pa_cons (pe_op op_add (pv 1) (pv 2)) pa_nil)))) pa_nil)))), ?_⟩
    have sl : sizeLine = 16777216 := sizeLine_eq
    obtain ⟨xs, x1, x2⟩ := id ha
    have lx : xs.length = a.length := x2.length
    refine ⟨_, rfl, p, rfl, ⟨_, SqT.of x1⟩, fun acc hacc => ?_⟩
    refine ⟨fun i m ys H' => m = xs.length - i ∧ i ≤ xs.length ∧ PairsAt H' ys ((a.take i).map fun q => (q.1 + d, q.2 + d)) ∧ Same H H' ∧ H' acc = some (.lst ys), ⟨_, rfl, Nat.zero_le _, .nil, same_upd hacc, upd_same⟩, ?_⟩
    rintro i m ys H' ⟨rfl, hi, hP, sm, hA⟩
    refine ⟨hA, ?_⟩
    have ly : ys.length = i := by rw [hP.length, List.length_map, List.length_take]; omega
    by_cases hlt : i < xs.length
    · refine .inr ⟨⟨xs, _, SqT.of (sm _ _ x1), List.getElem?_eq_getElem hlt⟩, ?_⟩
      rintro y H'' ⟨rfl, hy⟩
      have ey := hy xs (SqT.of (sm _ _ x1))
      obtain ⟨q, hq, b', rfl, hb'⟩ := paired_get x2 ey
      refine ⟨b', _, rfl, SqT.of (sm _ _ hb'), rfl, _, _, rfl, _, _, rfl, rfl, rfl, ?_⟩
      refine tYes_in ?_
      refine iteT ?_
      refine ⟨_, rfl, _, rfl, _, _, rfl, rfl, _, rfl, _, rfl, _, _, rfl, rfl, by show 2 ≤ sizeLine; decide, fun t' ht => ?_⟩
      have nt : acc ≠ t' := ne_of_none hA ht
      refine ⟨by rw [upd_ne nt]; exact hA, by omega, _, ?_, rfl, hlt, ?_, fun b o z => ?_, upd_same⟩
      · omega
      · rw [List.take_add_one, hq]
        rw [List.map_append]
        exact paired_snoc (paired_map (fun v q ⟨b, z1, z2⟩ => ⟨b, z1, by rw [upd_ne (ne_of z2 hA (by intro z; cases z)), upd_ne (ne_of_none z2 ht)]; exact z2⟩) hP) ⟨t', rfl, by rw [upd_ne nt.symm]; exact upd_same⟩
      · rw [upd_ne (ne_of_none z hacc), upd_ne (ne_of_none (sm _ _ z) ht)]
        exact sm _ _ z
    · refine .inl ⟨⟨xs, SqT.of (sm _ _ x1), by omega⟩, ?_⟩
      have ei : a.take i = a := List.take_of_length_le (by omega)
      rw [ei] at hP
      refine ⟨acc, _, rfl, .inl ⟨SqL.of hA, fun r hr' => ?_⟩⟩
      exact t r _ (sm.trans (same_upd hr')) ⟨ys, upd_same, hP.same (same_upd hr')⟩
end
end Lw

/-! ### the places of a work, one by one -/
namespace Lm
def span (l h : Int) : List Int := (List.range (h - l).toNat).map fun (k : Nat) => l + (k : Int)
def plc : Ps → List Int
  | [] => []
  | p :: t => span p.1 p.2 ++ plc t
theorem mem_span {l h x : Int} : x ∈ span l h ↔ l ≤ x ∧ x < h := by
  unfold span
  rw [List.mem_map]
  constructor
  · rintro ⟨k, hk, rfl⟩
    rw [List.mem_range] at hk
    omega
  · rintro ⟨h1, h2⟩
    exact ⟨(x - l).toNat, by rw [List.mem_range]; omega, by omega⟩
theorem span_len {l h : Int} : (span l h).length = (h - l).toNat := by unfold span; simp
theorem span_up {l h : Int} : (span l h).Pairwise (· < ·) := by
  unfold span
  rw [List.pairwise_map]
  exact List.Pairwise.imp (fun h => by omega) List.pairwise_lt_range
theorem mem_plc : ∀ {a : Ps} {x : Int}, x ∈ plc a ↔ mem a x
  | [], x => by simp [plc, mem]
  | p :: t, x => by
    show x ∈ span p.1 p.2 ++ plc t ↔ _
    rw [List.mem_append, mem_span, mem_plc, mem_cons]
theorem plc_up : ∀ {a : Ps}, Wk a → (plc a).Pairwise (· < ·)
  | [], _ => List.Pairwise.nil
  | p :: t, h => by
    obtain ⟨h1, h2, h3⟩ := h
    refine List.pairwise_append.mpr ⟨span_up, plc_up h3, fun x hx y hy => ?_⟩
    have := mem_span.mp hx
    have := mem_ge h2 (mem_plc.mp hy)
    omega
theorem plc_len : ∀ {a : Ps}, (∀ q ∈ a, q.1 < q.2) → ((plc a).length : Int) = sz a
  | [], _ => rfl
  | p :: t, h => by
    have h1 := h p (List.mem_cons_self ..)
    have h2 := plc_len (a := t) fun q hq => h q (List.mem_cons_of_mem _ hq)
    show ((span p.1 p.2 ++ plc t).length : Int) = (p.2 - p.1) + sz t
    rw [List.length_append, span_len]
    omega
theorem up_same : ∀ {l m : List Int}, l.Pairwise (· < ·) → m.Pairwise (· < ·) → (∀ x, x ∈ l ↔ x ∈ m) → l = m
  | [], [], _, _, _ => rfl
  | [], y :: m, _, _, e => absurd ((e y).mpr (List.mem_cons_self ..)) (by simp)
  | x :: l, [], _, _, e => absurd ((e x).mp (List.mem_cons_self ..)) (by simp)
  | x :: l, y :: m, h1, h2, e => by
    obtain ⟨a1, a2⟩ := List.pairwise_cons.mp h1
    obtain ⟨b1, b2⟩ := List.pairwise_cons.mp h2
    have xy : x = y := by
      rcases List.mem_cons.mp ((e x).mp (List.mem_cons_self ..)) with z | z
      · exact z
      · rcases List.mem_cons.mp ((e y).mpr (List.mem_cons_self ..)) with w | w
        · exact w.symm
        · have := b1 x z
          have := a1 y w
          omega
    subst xy
    rw [up_same a2 b2 fun z => ?_]
    constructor
    · intro hz
      rcases List.mem_cons.mp ((e z).mp (List.mem_cons_of_mem _ hz)) with w | w
      · have := a1 z hz
        omega
      · exact w
    · intro hz
      rcases List.mem_cons.mp ((e z).mpr (List.mem_cons_of_mem _ hz)) with w | w
      · have := b1 z hz
        omega
      · exact w
theorem up_len : ∀ {l m : List Int}, l.Pairwise (· < ·) → (∀ x ∈ l, x ∈ m) → l.length ≤ m.length
  | [], m, _, _ => Nat.zero_le _
  | x :: l, m, h, e => by
    obtain ⟨a1, a2⟩ := List.pairwise_cons.mp h
    have hx := e x (List.mem_cons_self ..)
    have := up_len (m := m.erase x) a2 fun y hy => (List.mem_erase_of_ne (by have := a1 y hy; omega)).mpr (e y (List.mem_cons_of_mem _ hy))
    rw [List.length_erase_of_mem hx] at this
    have : 0 < m.length := List.length_pos_of_mem hx
    simp
    omega
/-- stretches that a range takes -/
def Fit (a : Ps) : Prop := ∀ q ∈ a, -(2 ^ 62) ≤ q.1 ∧ q.1 < 2 ^ 62 ∧ -(2 ^ 62) ≤ q.2 ∧ q.2 < 2 ^ 62 ∧ q.2 - q.1 ≤ 1000
theorem span_sub : ∀ {a : Ps} {q : Int × Int}, q ∈ a → ∀ x ∈ span q.1 q.2, x ∈ plc a := fun hq x hx => mem_plc.mpr ⟨_, hq, mem_span.mp hx⟩
theorem fit_of {d : Ps} {zs : List Int} (h : ∀ q ∈ d, q.1 < q.2) (hs : ∀ x, mem d x → x ∈ zs) (hl : zs.length ≤ 1000) (hb : ∀ x ∈ zs, -4000000000000000000 < x ∧ x < 4000000000000000000) : Fit d := fun q hq => by
  have lt := h q hq
  have z1 := hb _ (hs q.1 ⟨q, hq, by omega, lt⟩)
  have z2 := hb _ (hs (q.2 - 1) ⟨q, hq, by omega, by omega⟩)
  have z3 := up_len (span_up (l := q.1) (h := q.2)) fun x hx => hs x (mem_plc.mp (span_sub hq x hx))
  rw [span_len] at z3
  have e : (2 : Int) ^ 62 = 4611686018427387904 := by decide
  rw [e]
  omega
theorem plc_small {d : Ps} {zs : List Int} (w : Wk d) (hs : ∀ x, mem d x → x ∈ zs) : (plc d).length ≤ zs.length := up_len (plc_up w) fun x hx => hs x (mem_plc.mp hx)
theorem up_filter {l : List Int} (h : l.Pairwise (· < ·)) (p : Int → Bool) : (l.filter p).Pairwise (· < ·) := h.sublist List.filter_sublist
theorem le_up : ∀ {l : List Int}, l.Pairwise (· ≤ ·) → l.Nodup → l.Pairwise (· < ·)
  | [], _, _ => List.Pairwise.nil
  | x :: l, h, n => by
    obtain ⟨a1, a2⟩ := List.pairwise_cons.mp h
    obtain ⟨b1, b2⟩ := List.nodup_cons.mp n
    refine List.pairwise_cons.mpr ⟨fun y hy => ?_, le_up a2 b2⟩
    have := a1 y hy
    have : x ≠ y := fun z => b1 (z ▸ hy)
    omega
end Lm

set_option maxHeartbeats 4000000
namespace Lw
open PySem L2 PySem.W
theorem boot_any : bootBuiltins "any" = some (.builtin "any") := by decide +kernel
theorem boot_all : bootBuiltins "all" = some (.builtin "all") := by decide +kernel
theorem boot_set : bootBuiltins "set" = some (.type "set") := by decide +kernel
theorem any_map {α : Type} (f : α → Bool) (l : List α) : ((l.map f).any id) = l.any f := by
  induction l with
  | nil => rfl
  | cons a l ih => rw [List.map_cons, List.any_cons, List.any_cons, ih]; rfl
/-- whether a thing is a place of a work -/
def hasB (a : Lm.Ps) : V → Bool
  | .int i => a.any fun q => decide (q.1 ≤ i) && decide (i < q.2)
  | _ => false
theorem hasB_int {a : Lm.Ps} {i : Int} : hasB a (.int i) = decide (i ∈ Lm.plc a) := by
  rw [Bool.eq_iff_iff, decide_eq_true_eq, Lm.mem_plc]
  show (a.any fun q => decide (q.1 ≤ i) && decide (i < q.2)) = true ↔ _
  rw [List.any_eq_true]
  simp only [Bool.and_eq_true, decide_eq_true_eq]
  exact Iff.rfl
def spHas : Sp := fun vs H Q _ => ∃ (p : Addr) (a : Lm.Ps) (x : V), vs = [.ref p, x] ∧ WorkM H p a ∧ Lm.Wk a ∧ a.length ≤ 1000 ∧ Knd H x ∧ ∀ H', Same H H' → Q (.bl (hasB a x)) H'
theorem ndHs : (["low", "high", "place"] : List Str).Nodup := by decide +kernel
section
variable {P : Program} {w : World} {K : PySem.W.Frag} {mg : Str → Option Value} {base : Heap}
theorem scHas : FnScope ["work", "place"] ["work", "place"] (defScope sHas) := ⟨rfl, rfl, rfl, by decide +kernel, rfl, by decide +kernel, by decide +kernel⟩
theorem ok_has {f fC fW : Addr} {fd fdC fdW : FuncData} (F : Fun K "has_place" "has_place" sHas f fd) (G : Gb mg) (GC : FnOk P w K mg base CX0 4 fC fdC ["work"] spCheck) (kC : keepIn K (.ref fC) = true) (bC : Binds K fdC ["work"] []) (mC : mg "check_work" = some (.ref fC))
    (GW : FnOk P w K mg base CX0 4 fW fdW ["thing"] spWhole) (kW : keepIn K (.ref fW) = true) (bW : Binds K fdW ["thing"] []) (mW : mg "is_whole" = some (.ref fW)) : FnOk P w K mg base CX0 5 f fd ["work", "place"] spHas := by
  refine F.ok scHas (fun vs H Q E h => ?_) (fun cdv A outer s H vs Q E hr h => ?_)
  · obtain ⟨p, a, x, rfl, _⟩ := h
    rfl
  · obtain ⟨p, a, x, rfl, ha, wa, la, kx, t⟩ := h
    refine ⟨_, (pss_cons (ps_expr (pe_call GC hr rfl mC kC bC .nil pass0 (pa_cons (pv 0) pa_nil))) (pss_one (ps_ret (pe_and (pe_call GW hr rfl mW kW bW .nil pass0 (pa_cons (pv 1) pa_nil)) (pe_one
      (pe_callB (call_any rfl) (by rfl) G.any boot_any (pa_cons (pe_compF (NB := ["low", "high", "place"]) (n := 2) (js := [1]) (g := gTup K 2 (gCons (gName 0) (gCons (gName 1) gNil))) (cl := [("place", s.heap.objs.size + 1)]) rfl (by decide +kernel) (by decide +kernel) rfl
        (Takes.of rfl (all_cons rfl all_nil) (all_cons (fun z => nomatch z) (all_cons (fun z => nomatch z) (all_cons (fun z => nomatch z) (all_cons (fun _ => rfl) all_nil)))) rfl
          (fun k j h => match k, j, h with | 0, _, rfl => rfl | k + 1, _, h => absurd h (by simp)) (all_cons ⟨.inl rfl, .inl rfl, rfl⟩ all_nil))
        (pi_tup (pv 0)) (fun C s H fp pn => pg_tup (n := 2) rfl (pgs_cons (pg_name (i := 0) ndHs rfl (Or.inl rfl) (.inr rfl)) (pgs_cons (pg_name (i := 1) ndHs rfl (Or.inl rfl) (.inr rfl)) pgs_nil))) (fun C s H fp pn => pts_nil)
        (fun C s H fp pn => pe_chain op_le op_lt (pv 0) (pv 2) (pv 1))) pa_nil))))))), ?_⟩
    have sl : sizeLine = 16777216 := sizeLine_eq
    obtain ⟨xs, x1, x2⟩ := id ha
    have lx : xs.length = a.length := x2.length
    refine ⟨_, rfl, p, a, rfl, ha, wa, la, ?_⟩
    refine ⟨_, rfl, x, rfl, kx, _, rfl, ?_⟩
    refine ite2 (fun hc => ?_) (fun hc => ?_)
    rotate_left
    · have e : hasB a x = false := by
        cases x with
        | int i => exact absurd rfl hc
        | _ => rfl
      rw [← e]
      exact t H (Same.refl H)
    obtain ⟨i₀, rfl⟩ : ∃ i, x = .int i := by
      cases x with
      | int i => exact ⟨i, rfl⟩
      | _ => exact absurd hc (by simp [wholeB])
    refine ⟨_, rfl, p, rfl, ⟨_, SqT.of x1⟩, fun acc hacc => ?_⟩
    refine ⟨fun i m ys H' => m = xs.length - i ∧ i ≤ xs.length ∧ ys = ((a.take i).map fun q => decide (q.1 ≤ i₀) && decide (i₀ < q.2)).map V.bl ∧ Same H H' ∧ H' acc = some (.lst ys), ⟨_, rfl, Nat.zero_le _, rfl, same_upd hacc, upd_same⟩, ?_⟩
    rintro i m ys H' ⟨rfl, hi, rfl, sm, hA⟩
    refine ⟨hA, ?_⟩
    by_cases hlt : i < xs.length
    · refine .inr ⟨⟨xs, _, SqT.of (sm _ _ x1), List.getElem?_eq_getElem hlt⟩, ?_⟩
      rintro y H'' ⟨rfl, hy⟩
      have ey := hy xs (SqT.of (sm _ _ x1))
      obtain ⟨q, hq, b', rfl, hb'⟩ := paired_get x2 ey
      have fin : ∀ b : Bool, b = (decide (q.1 ≤ i₀) && decide (i₀ < q.2)) → ((a.take i).map fun q => decide (q.1 ≤ i₀) && decide (i₀ < q.2)).map V.bl ++ [V.bl b] = ((a.take (i + 1)).map fun q => decide (q.1 ≤ i₀) && decide (i₀ < q.2)).map V.bl := fun b hb => by
        rw [List.take_add_one, hq, hb]
        simp
      refine ⟨b', _, rfl, SqT.of (sm _ _ hb'), rfl, _, _, rfl, _, _, rfl, rfl, rfl, ?_⟩
      refine tYes_in ?_
      refine iteT ?_
      refine ⟨_, rfl, _, rfl, _, _, rfl, rfl, _, rfl, ?_⟩
      refine ite2 (fun hc => ?_) (fun hc => ?_)
      · have hc' : q.1 ≤ i₀ := by simpa using hc
        refine ⟨_, rfl, _, _, rfl, rfl, hA, by rw [List.length_map, List.length_map, List.length_take]; omega, _, ?_, rfl, hlt, fin _ (by rw [decide_eq_true hc']; rfl), fun b o z => ?_, upd_same⟩
        · omega
        · rw [upd_ne (ne_of_none z hacc)]
          exact sm _ _ z
      · have hc' : ¬ q.1 ≤ i₀ := by simpa using hc
        refine ⟨hA, by rw [List.length_map, List.length_map, List.length_take]; omega, _, ?_, rfl, hlt, fin _ (by rw [decide_eq_false hc']; rfl), fun b o z => ?_, upd_same⟩
        · omega
        · rw [upd_ne (ne_of_none z hacc)]
          exact sm _ _ z
    · refine .inl ⟨⟨xs, SqT.of (sm _ _ x1), by omega⟩, ?_⟩
      have ei : a.take i = a := List.take_of_length_le (by omega)
      rw [ei] at hA
      refine ⟨acc, _, rfl, SqL.of hA, ?_⟩
      rw [any_map]
      exact t _ sm
def spPlaces : Sp := fun vs H Q _ => ∃ (p : Addr) (a : Lm.Ps), vs = [.ref p] ∧ WorkM H p a ∧ Lm.Fit a ∧ (Lm.plc a).length ≤ 1000 ∧ ∀ r H', Same H H' → H r = none → H' r = some (.lst ((Lm.plc a).map V.int)) → Q (.ref r) H'
theorem plc_snoc : ∀ (s : Lm.Ps) (q : Int × Int), Lm.plc (s ++ [q]) = Lm.plc s ++ Lm.span q.1 q.2
  | [], q => by show Lm.span q.1 q.2 ++ [] = _; simp [Lm.plc]
  | p :: s, q => by
    show Lm.span p.1 p.2 ++ Lm.plc (s ++ [q]) = (Lm.span p.1 p.2 ++ Lm.plc s) ++ _
    rw [plc_snoc s q, List.append_assoc]
theorem plc_take : ∀ (a : Lm.Ps) (i : Nat), (Lm.plc (a.take i)).length ≤ (Lm.plc a).length
  | [], i => by simp
  | p :: a, 0 => Nat.zero_le _
  | p :: a, i + 1 => by
    show (Lm.span p.1 p.2 ++ Lm.plc (a.take i)).length ≤ (Lm.span p.1 p.2 ++ Lm.plc a).length
    rw [List.length_append, List.length_append]
    have := plc_take a i
    omega
theorem scPlaces : FnScope ["_law_work_here", "_law_found", "_law_low", "_law_high"] ["_law_work_here"] (defScope sPlaces) := ⟨rfl, rfl, rfl, by decide +kernel, rfl, by decide +kernel, by decide +kernel⟩
theorem ok_places {f : Addr} {fd : FuncData} (F : Fun K "_law_places" "_law_places" sPlaces f fd) (G : Gb mg) : FnOk P w K mg base CX0 1 f fd ["_law_work_here"] spPlaces := by
  refine F.ok scPlaces (fun vs H Q E h => ?_) (fun cdv A outer s H vs Q E hr h => ?_)
  · obtain ⟨p, ps, rfl, _⟩ := h
    rfl
  · obtain ⟨p, ps, rfl, hw, ft, ln, q⟩ := h
    refine ⟨_, pss_cons (ps_set (i := 1) scPlaces.nd rfl (Or.inl rfl) (pe_lst pa_nil))
      (pss_cons (ps_for PassesOwn.never rfl (pi_tup (pv 0)) (pg_tup (n := 2) rfl (pgs_cons (pg_name (i := 2) scPlaces.nd rfl (Or.inl rfl)) (pgs_cons (pg_name (i := 3) scPlaces.nd rfl (Or.inl rfl)) pgs_nil)))
        (pss_one (ps_set (i := 1) scPlaces.nd rfl (Or.inl rfl) (pe_op op_cat (pv 1) (pe_callTy (call_listR rfl) (by rfl) G.list boot_l (pa_cons (pe_callTy call_rng (by rfl) G.range PyProof.Rows.boot_range (pa_cons (pv 2) (pa_cons (pv 3) pa_nil))) pa_nil))))))
      (pss_one (ps_ret (pv 1)))), ?_⟩
    have sl : sizeLine = 16777216 := sizeLine_eq
    obtain ⟨xs, x1, x2⟩ := id hw
    have lx : xs.length = ps.length := x2.length
    refine ⟨Nat.zero_le _, fun lf Hf => ?_⟩
    have s0 : Same H (upd H lf (.lst [])) := same_upd Hf
    have e0 : (upd H lf (.lst [])) lf = some (.lst []) := upd_same
    generalize upd H lf (.lst []) = H0 at s0 e0 ⊢
    refine ⟨_, rfl, p, rfl, ⟨_, SqT.of (s0 _ _ x1)⟩, for_tup (K := K) (a := p) (xs := xs) (fun i σ H7 => (∃ r u v, σ = [some (.ref p), some (.ref r), u, v] ∧ H r = none ∧ H7 r = some (.lst ((Lm.plc (ps.take i)).map V.int))) ∧ Same H H7)
      ⟨⟨_, _, _, rfl, Hf, e0⟩, s0⟩ (fun i σ H7 _ ⟨_, s7⟩ => SqT.of (s7 _ _ x1)) ?_ ?_⟩
    · rintro i y σ H7 hi ⟨⟨r7, u, v, rfl, f7, e7⟩, s7⟩
      obtain ⟨c, hc, b, rfl, hb⟩ := paired_get x2 hi
      have mc := ft c (List.mem_of_getElem? hc)
      refine ⟨b, _, rfl, SqT.of (s7 _ _ hb), rfl, _, _, rfl, _, _, rfl, rfl, ?_⟩
      refine ⟨_, rfl, _, rfl, _, rfl, c.1, c.2, rfl, fun r hr' => ?_⟩
      have s8 : Same H7 (upd H7 r (.rng c.1 c.2)) := same_upd hr'
      have e8 : (upd H7 r (.rng c.1 c.2)) r = some (.rng c.1 c.2) := upd_same
      generalize upd H7 r (.rng c.1 c.2) = H8 at s8 e8 ⊢
      refine ⟨r, c.1, c.2, rfl, e8, ⟨mc.1, mc.2.1, mc.2.2.1, mc.2.2.2.1⟩, mc.2.2.2.2, fun l hl => ?_⟩
      have s9 : Same H8 (upd H8 l (.lst (rngV c.1 (c.2 - c.1).toNat))) := same_upd hl
      have e9 : (upd H8 l (.lst (rngV c.1 (c.2 - c.1).toNat))) l = some (.lst (rngV c.1 (c.2 - c.1).toNat)) := upd_same
      generalize upd H8 l (.lst (rngV c.1 (c.2 - c.1).toNat)) = H9 at s9 e9 ⊢
      have hlen := plc_take ps i
      have m5 := mc.2.2.2.2
      refine ⟨r7, l, _, _, rfl, rfl, s9 _ _ (s8 _ _ e7), e9, by rw [List.length_map, rngV_len]; omega, fun r' hr'' => ?_⟩
      refine ⟨⟨r', _, _, rfl, (s7.trans (s8.trans s9)).free hr'', ?_⟩, (s7.trans (s8.trans s9)).trans (same_upd hr'')⟩
      rw [upd_same, List.take_add_one, hc]
      show some (HO.lst _) = some (HO.lst ((Lm.plc (ps.take i ++ [c])).map V.int))
      rw [plc_snoc, List.map_append]
      unfold rngV Lm.span
      rw [List.map_map]
      rfl
    · rintro σ H7 ⟨⟨r7, u, v, rfl, f7, e7⟩, s7⟩
      rw [List.take_of_length_le (by omega)] at e7
      exact ⟨_, rfl, q r7 H7 s7 f7 e7⟩
end
end Lw

set_option maxHeartbeats 4000000
namespace Lw
open PySem L2 PySem.W
theorem ite_of {b : Bool} {A B : Prop} (h : b = true) (x : A) : if b = true then A else B := by rw [if_pos h]; exact x
theorem ite_no {b : Bool} {A B : Prop} (h : b = false) (x : B) : if b = true then A else B := by rw [if_neg (by rw [h]; simp)]; exact x
def rLen (K : Frag) : List V → Hp → VK → Prop := fun xs H Q => ∃ p ys, xs = [.ref p] ∧ (SqL K H p ys ∨ SqT K H p ys) ∧ Q (.int ys.length) H
def intsD (ns : List Int) : PyData := .list (ns.map PyData.int)
theorem rdvs_ints {K : Frag} {H : Hp} : ∀ ns : List Int, RdVs K H (ns.map V.int) (ns.map PyData.int)
  | [] => .nil
  | n :: ns => .cons (.int n) (rdvs_ints ns)
theorem rdv_ints {K : Frag} {H : Hp} {l : Addr} {ns : List Int} (h : H l = some (.lst (ns.map V.int))) : RdV K H (.ref l) (intsD ns) := .lst (SqL.of h) (rdvs_ints ns)
theorem gd_ints (ns : List Int) : ∀ d ∈ ns.map PyData.int, Gd 0 d := fun d hd => by
  obtain ⟨n, _, rfl⟩ := List.mem_map.mp hd
  exact Gd.int n
theorem ints_shaped (ns : List Int) : SeqAt.shaped (intsD ns) = true := (Gd.lst (gd_ints ns)).shaped (by decide)
theorem eqvAll_ints : ∀ ns : List Int, PyData.eqvAll (ns.map PyData.int) (ns.map PyData.int) = true
  | [] => by simp [PyData.eqvAll]
  | n :: ns => by
    rw [List.map_cons, PyData.eqvAll, eqvAll_ints ns]
    simp [PyData.eqv]
theorem eqv_ints (ns : List Int) : PyData.eqv (intsD ns) (intsD ns) = true := by
  unfold intsD
  rw [PyData.eqv]
  simp [eqvAll_ints]
theorem all_rep : ∀ n : Nat, (List.replicate n true).all id = true
  | 0 => rfl
  | n + 1 => by rw [List.replicate_succ, List.all_cons, all_rep n]; rfl
def spIsShort : Sp := fun vs H Q _ => ∃ (p l : Addr) (d : Lm.Ps), vs = [.ref p, .ref l] ∧ WorkM H p d ∧ Lm.Sh d ∧ d.length ≤ 1000 ∧ Lm.Fit d ∧ (Lm.plc d).length ≤ 1000 ∧ H l = some (.lst ((Lm.plc d).map V.int)) ∧ ∀ H', Same H H' → Q (.bl true) H'
theorem sh_next : ∀ {ps : Lm.Ps}, Lm.Sh ps → ∀ (k : Nat) (l h l' h' : Int), ps[k]? = some (l, h) → ps[k + 1]? = some (l', h') → h < l'
  | p :: t, ⟨_, h2, _⟩, 0, l, h, l', h', e1, e2 => by
    cases e1
    exact h2 (l', h') (List.mem_of_getElem? (by simpa using e2))
  | _ :: _, ⟨_, _, h3⟩, k + 1, l, h, l', h', e1, e2 => sh_next h3 k l h l' h' (by simpa using e1) (by simpa using e2)
theorem ndO : (["_law_one"] : List Str).Nodup := by decide +kernel
theorem ndLH : (["_law_low", "_law_high"] : List Str).Nodup := by decide +kernel
section
variable {P : Program} {w : World} {K : PySem.W.Frag} {mg : Str → Option Value} {base : Heap}
theorem scIsShort : FnScope ["_law_work_here", "_law_places_here", "_law_k"] ["_law_work_here", "_law_places_here"] (defScope sIsShort) := ⟨rfl, rfl, rfl, by decide +kernel, rfl, by decide +kernel, by decide +kernel⟩
theorem ok_isshort {f fP : Addr} {fd fdP : FuncData} (F : Fun K "_law_is_short" "_law_is_short" sIsShort f fd) (G : Gb mg) (GP : FnOk P w K mg base CX0 1 fP fdP ["_law_work_here"] spPlaces) (kP : keepIn K (.ref fP) = true) (bP : Binds K fdP ["_law_work_here"] []) (mP : mg "_law_places" = some (.ref fP)) :
    FnOk P w K mg base CX0 2 f fd ["_law_work_here", "_law_places_here"] spIsShort := by
  refine F.ok scIsShort (fun vs H Q E h => ?_) (fun cdv A outer s H vs Q E hr h => ?_)
  · obtain ⟨p, l, d, rfl, _⟩ := h
    rfl
  · obtain ⟨p, l, d, rfl, hw, sd, ld, ft, pl, hl, t⟩ := h

    refine ⟨_, pss_cons (ps_if (PW.pt (pw_or (pt_not (pt_val (pe_callB call_isinst (by rfl) G.isi boot_isi (pa_cons (pv 0) (pa_cons (pe_bltn (v := .ty "tuple") (by rfl) G.tuple boot_t rfl) pa_nil)))))
        (pw_or1 (pt_not (pt_val (pe_callB (call_all rfl) (by rfl) G.all boot_all (pa_cons (pe_comp (NB := ["_law_one"]) (g := gName 0) rfl (by decide +kernel) (by decide +kernel) (by decide +kernel) rfl (pi_tup (pv 0)) (fun C s H fp pn => pg_name (i := 0) ndO rfl (Or.inl rfl) (.inr rfl)) (fun C s H fp pn => pts_nil)
          (fun C s H fp pn => pe_and (pe_callB (r := rIsi K) call_isinst (by rfl) G.isi boot_isi (pa_cons (pv 0) (pa_cons (pe_bltn (v := .ty "tuple") (by rfl) G.tuple boot_t rfl) pa_nil))) (pe_one (pe_cmpR op_eq (pe_callB (r := rLen K) call_len_seq (by rfl) G.len PySem.boot_len (pa_cons (pv 0) pa_nil)) pe_int (nomark _))))) pa_nil)))))))
        (pss_one (ps_ret pe_bl)) pss_nil)
      (pss_cons (ps_for PassesOwn.never rfl (pi_range2 rfl G.range (pa_cons pe_int (pa_cons (pe_callB call_len_seq (by rfl) G.len PySem.boot_len (pa_cons (pv 0) pa_nil)) pa_nil))) (pg_name (i := 2) scIsShort.nd rfl (Or.inl rfl))
        (pss_one (ps_if (pt_cmpR op_ge (pe_ix ix_tup (pe_ix ix_tup (pv 0) (pe_op op_sub (pv 2) pe_int) (fun _ _ => rfl)) pe_int (fun _ _ => rfl)) (pe_ix ix_tup (pe_ix ix_tup (pv 0) (pv 2) (fun _ _ => rfl)) pe_int (fun _ _ => rfl)) (nomark _)) (pss_one (ps_ret pe_bl)) pss_nil)))
      (pss_one (ps_ret (pe_and (pe_callB (call_all rfl) (by rfl) G.all boot_all (pa_cons (pe_comp (NB := ["_law_low", "_law_high"]) (g := gTup K 2 (gCons (gName 0) (gCons (gName 1) gNil))) rfl (by decide +kernel) (by decide +kernel) (by decide +kernel) rfl (pi_tup (pv 0)) (fun C s H fp pn => pg_tup (n := 2) rfl (pgs_cons (pg_name (i := 0) ndLH rfl (Or.inl rfl) (.inr rfl)) (pgs_cons (pg_name (i := 1) ndLH rfl (Or.inl rfl) (.inr rfl)) pgs_nil))) (fun C s H fp pn => pts_nil)
          (fun C s H fp pn => pe_cmpR op_lt (pv 0) (pv 1) (nomark _))) pa_nil)) (pe_one (pe_cmpR (op_eqD hr.units) (pe_call GP hr rfl mP kP bP .nil pass0 (pa_cons (pv 0) pa_nil)) (pv 1) (nomark _))))))), ?_⟩
    have sl : sizeLine = 16777216 := sizeLine_eq
    obtain ⟨xs, x1, x2⟩ := id hw
    have lx : xs.length = d.length := x2.length
    obtain ⟨tt, ty, e⟩ := ans_tupT (K := K) x1
    refine ⟨_, rfl, _, _, _, _, rfl, .ty "tuple", .inl ⟨tt, ty, e⟩, _, rfl, ?_⟩
    refine iteF ?_
    -- each is a pair
    refine ⟨_, rfl, p, rfl, ⟨_, SqT.of x1⟩, fun acc hacc => ?_⟩
    refine ⟨fun i m ys H' => m = xs.length - i ∧ i ≤ xs.length ∧ ys = (List.replicate i true).map V.bl ∧ Same H H' ∧ H' acc = some (.lst ys), ⟨_, rfl, Nat.zero_le _, rfl, same_upd hacc, upd_same⟩, ?_⟩
    rintro i m ys H' ⟨rfl, hi, rfl, sm, hA⟩
    refine ⟨hA, ?_⟩
    by_cases hlt : i < xs.length
    · refine .inr ⟨⟨xs, _, SqT.of (sm _ _ x1), List.getElem?_eq_getElem hlt⟩, ?_⟩
      rintro y H'' ⟨rfl, hy⟩
      have ey := hy xs (SqT.of (sm _ _ x1))
      obtain ⟨q, hq, b', rfl, hb'⟩ := paired_get x2 ey
      obtain ⟨t2, ty2, e2⟩ := ans_tupT (K := K) (sm _ _ hb')
      refine gName_in ?_
      refine tYes_in ?_
      refine iteT ?_
      refine ⟨_, rfl, _, _, _, _, rfl, .ty "tuple", .inl ⟨t2, ty2, e2⟩, _, rfl, ?_⟩
      refine iteT ?_
      refine ⟨_, rfl, b', _, rfl, .inr (SqT.of (sm _ _ hb')), rfl, hA, by rw [List.length_map, List.length_replicate]; omega, _, ?_, rfl, hlt, ?_, fun b o z => ?_, upd_same⟩
      · omega
      · rw [List.replicate_succ', List.map_append]
        rfl
      · rw [upd_ne (ne_of_none z hacc)]
        exact sm _ _ z
    refine .inl ⟨⟨xs, SqT.of (sm _ _ x1), by omega⟩, ?_⟩
    refine ⟨acc, _, rfl, SqL.of hA, _, rfl, ?_⟩
    refine ite_no (by rw [all_rep]; rfl) ?_
    -- none touches the next
    generalize List.replicate i true = bs at hA
    have hz : xs.length < 2 ^ 62 := Nat.lt_of_le_of_lt (show xs.length ≤ 1000 by omega) (by decide)
    refine ⟨_, rfl, p, xs, rfl, .inr (SqT.of (sm _ _ x1)), 1, (xs.length : Int), rfl, ⟨by decide, by decide, by omega, by omega⟩, for_range (lo := 1) (n := ((xs.length : Int) - 1).toNat)
      (fun _ σ H3 => H3 = H' ∧ ∃ u, σ = [some (.ref p), some (.ref l), u]) ⟨rfl, _, rfl⟩ ?_ ?_⟩
    · rintro k σ H3 hk ⟨rfl, u, rfl⟩
      obtain ⟨q, hq, c, ec, hc⟩ := paired_get x2 (List.getElem?_eq_getElem (show k < xs.length by omega))
      obtain ⟨q', hq', c', ec', hc'⟩ := paired_get x2 (List.getElem?_eq_getElem (show k + 1 < xs.length by omega))
      have y1 : xs[k]? = some (.ref c) := by rw [List.getElem?_eq_getElem (by omega), ec]
      have y2 : xs[k + 1]? = some (.ref c') := by rw [List.getElem?_eq_getElem (by omega), ec']
      have i1 : (1 : Int) + (k : Int) = ((k + 1 : Nat) : Int) := by omega
      have i2 : ((k + 1 : Nat) : Int) - 1 = ((k : Nat) : Int) := by omega
      have nx := sh_next sd k q.1 q.2 q'.1 q'.2 hq hq'
      rw [i1]
      refine ⟨_, rfl, _, rfl, _, _, rfl, rfl, p, xs, _, _, rfl, rfl, SqT.of (sm _ _ x1), (by rw [i2]; exact atI_nat y1), c, _, _, _, rfl, rfl, SqT.of (sm _ _ hc), atI_nat (j := 1) rfl, _, rfl, _, rfl, p, xs, _, _, rfl, rfl, SqT.of (sm _ _ x1), atI_nat y2, c', _, _, _, rfl, rfl, SqT.of (sm _ _ hc'), atI_nat (j := 0) rfl, _, _, rfl, rfl, _, rfl, ?_⟩
      exact ite_no (decide_eq_false (by omega)) ⟨rfl, _, rfl⟩
    · rintro σ H3 ⟨rfl, u, rfl⟩
      -- each rises
      refine ⟨_, rfl, p, rfl, ⟨_, SqT.of (sm _ _ x1)⟩, fun acc2 hacc2 => ?_⟩
      refine ⟨fun i m ys H' => m = xs.length - i ∧ i ≤ xs.length ∧ ys = (List.replicate i true).map V.bl ∧ Same H3 H' ∧ H' acc2 = some (.lst ys), ⟨_, rfl, Nat.zero_le _, rfl, same_upd hacc2, upd_same⟩, ?_⟩
      rintro j m ys H4 ⟨rfl, hj, rfl, sm4, hA4⟩
      refine ⟨hA4, ?_⟩
      have s4 := sm.trans sm4
      by_cases hlt4 : j < xs.length
      · refine .inr ⟨⟨xs, _, SqT.of (s4 _ _ x1), List.getElem?_eq_getElem hlt4⟩, ?_⟩
        rintro y H'' ⟨rfl, hy⟩
        have ey := hy xs (SqT.of (s4 _ _ x1))
        obtain ⟨q, hq, b', rfl, hb'⟩ := paired_get x2 ey
        have lt := sd.lt q (List.mem_of_getElem? hq)
        refine ⟨b', _, rfl, SqT.of (s4 _ _ hb'), rfl, _, _, rfl, _, _, rfl, rfl, ?_⟩
        refine tYes_in ?_
        refine iteT ?_
        refine ⟨_, rfl, _, rfl, _, _, rfl, rfl, hA4, by rw [List.length_map, List.length_replicate]; omega, _, ?_, rfl, hlt4, ?_, fun b o z => ?_, upd_same⟩
        · omega
        · rw [List.replicate_succ', List.map_append]
          show _ ++ [V.bl (decide (q.1 < q.2))] = _
          rw [decide_eq_true lt]
          rfl
        · rw [upd_ne (ne_of_none z hacc2)]
          exact sm4 _ _ z
      refine .inl ⟨⟨xs, SqT.of (s4 _ _ x1), by omega⟩, ?_⟩
      refine ⟨acc2, _, rfl, SqL.of hA4, _, rfl, ?_⟩
      refine ite_of (all_rep j) ?_
      refine ⟨_, rfl, p, d, rfl, hw.same s4, ft, pl, fun r H5 s5 _ e5 => ?_⟩
      refine ⟨_, rfl, intsD (Lm.plc d), intsD (Lm.plc d), rdv_ints e5, rdv_ints (s5 _ _ (s4 _ _ hl)), ints_shaped _, ints_shaped _, ?_⟩
      rw [eqv_ints]
      exact t H5 (s4.trans s5)
end
end Lw

set_option maxHeartbeats 4000000
namespace Lw
open PySem L2 PySem.W
theorem inV_ints (i : Int) : ∀ ns : List Int, inV (.int i) (ns.map V.int) = decide (i ∈ ns)
  | [] => rfl
  | n :: ns => by
    show (eqV (.int n) (.int i) || inV (.int i) (ns.map V.int)) = _
    rw [inV_ints i ns, Bool.eq_iff_iff]
    show ((n == i) || decide (i ∈ ns)) = true ↔ _
    rw [Bool.or_eq_true, beq_iff_eq, decide_eq_true_eq, decide_eq_true_eq, List.mem_cons, eq_comm]
theorem flat_ints : ∀ ns : List Int, (ns.map V.int).all flatV = true
  | [] => rfl
  | n :: ns => by
    rw [List.map_cons, List.all_cons, flat_ints ns]
    rfl
abbrev lawN : List Str := ["_law_script", "_law_one", "_law_xs", "_law_other", "_law_left", "_law_right", "_law_place", "_law_low", "_law_high", "_law_odd"]
theorem ndPR : (["_law_place", "_law_right"] : List Str).Nodup := by decide +kernel
theorem ndTO : (["_law_thing", "_law_one"] : List Str).Nodup := by decide +kernel
section
variable {P : Program} {w : World} {K : PySem.W.Frag} {mg : Str → Option Value} {base : Heap}
theorem scLaw : FnScope lawN ["_law_script"] (defScope sLaw) := ⟨rfl, rfl, rfl, by decide +kernel, rfl, by decide +kernel, by decide +kernel⟩
theorem ok_end {f : Addr} (G : Gb mg) {fH : Addr} {fdH : FuncData} (GH : FnOk P w K mg base CX0 7 fH fdH ["work", "place"] spHas) (kH : keepIn K (.ref fH) = true) (bH : Binds K fdH ["work", "place"] []) (mH : mg "has_place" = some (.ref fH))
    {cdv : Value} {A : Around} {outer : List Env} {s : Shared} {H : Hp} {E : XK} (hr : Room 7 (A.deeper (PyProof.Rows.envOfC "law" (defScope sLaw) s.heap.objs.size f cdv))) :
    ∃ t, PSs (cxOf CX0 P w K mg base lawN "law" (defScope sLaw) f cdv A outer s H E).nox ((defBody sLaw).drop 9) t ∧ ∀ (D : Ends) (p q lf rt : Addr) (o0 o2 o6 o7 o8 o9 : Option V) (a b : Lm.Ps) (G3 : Hp), WorkM G3 p a → WorkM G3 q b → Lm.Wk a → a.length ≤ 4 → b.length ≤ 4 → G3 lf = some (.lst ((Lm.plc a).map V.int)) →
      (∀ G9, D.rt (.bl true) G9) → t D [o0, some (.ref p), o2, some (.ref q), some (.ref lf), some (.ref rt), o6, o7, o8, o9] G3 := by
  refine ⟨_, pss_cons (ps_for PassesOwn.never rfl (pi_tup (pe_op op_catA (pv 1) (pv 3))) (pg_tup (n := 2) rfl (pgs_cons (pg_name (i := 7) scLaw.nd rfl (Or.inl rfl)) (pgs_cons (pg_name (i := 8) scLaw.nd rfl (Or.inl rfl)) pgs_nil)))
      (pss_one (ps_for PassesOwn.never rfl (pi_list (pe_lst (pa_cons (pe_op op_sub (pv 7) pe_int) (pa_cons (pv 7) (pa_cons (pe_op op_fdiv (pe_op op_add (pv 7) (pv 8)) pe_int) (pa_cons (pe_op op_sub (pv 8) pe_int) (pa_cons (pv 8) pa_nil))))))) (pg_name (i := 6) scLaw.nd rfl (Or.inl rfl))
        (pss_one (ps_if (PW.pt (pw_or (pt_cmpR op_ne (pe_call GH hr rfl mH kH bH .nil pass0 (pa_cons (pv 1) (pa_cons (pv 6) pa_nil))) (pe_cmpR op_in_seq (pv 6) (pv 4) rfl) (nomark _))
          (pw_or1 (pt_not (pt_val (pe_callB call_isinst (by rfl) G.isi boot_isi (pa_cons (pe_call GH hr rfl mH kH bH .nil pass0 (pa_cons (pv 1) (pa_cons (pv 6) pa_nil))) (pa_cons (pe_bltn (v := .ty "bool") (by rfl) G.bool boot_b rfl) pa_nil)))))))) (pss_one (ps_ret pe_bl)) pss_nil)))))
    (pss_cons (ps_set (i := 9) scLaw.nd rfl (Or.inl rfl) (pe_lst (pa_cons pe_bl (pa_cons pe_non (pa_cons pe_str (pa_cons (pe_tup (pa_cons pe_int pa_nil)) (pa_cons (pe_lst (pa_cons pe_int pa_nil)) (pa_cons pe_bl pa_nil))))))))
    (pss_one (ps_ret (pe_cmpR (op_eqD hr.units) (pe_compF (NB := ["_law_thing", "_law_one"]) (n := 1) (js := [1]) (g := gName 0) (cl := [("_law_one", s.heap.objs.size + 1)]) rfl (by decide +kernel) (by decide +kernel) rfl
        (Takes.of rfl (all_cons rfl all_nil) (all_cons (fun z => nomatch z) (all_cons (fun z => nomatch z) (all_cons (fun z => nomatch z) (all_cons (fun _ => rfl) all_nil)))) rfl
          (fun k j h => match k, j, h with | 0, _, rfl => rfl | k + 1, _, h => absurd h (by simp)) (all_cons ⟨.inl rfl, .inl rfl, rfl⟩ all_nil))
        (pi_list (pv 9)) (fun C s H fp pn => pg_name (i := 0) ndTO rfl (Or.inl rfl) (.inr rfl)) (fun C s H fp pn => pts_one (pt_cmpR op_isnotB (pe_call GH hr rfl mH kH bH .nil pass0 (pa_cons (pv 1) (pa_cons (pv 0) pa_nil))) pe_bl (nomark _))) (fun C s H fp pn => (pv 0))) (pe_lst pa_nil) (nomark _))))), ?_⟩
  intro D p q lf rt o0 o2 o6 o7 o8 o9 a b G3 ha hb wa la lb hL fin
  have sl : sizeLine = 16777216 := sizeLine_eq
  obtain ⟨xs, x1, x2⟩ := id ha
  obtain ⟨ys, y1, y2⟩ := id hb
  have lx : xs.length = a.length := x2.length
  have ly : ys.length = b.length := y2.length
  refine ⟨_, rfl, _, rfl, p, q, xs, ys, rfl, rfl, x1, y1, by omega, fun c G4 s4 e4 => ?_⟩
  refine ⟨c, rfl, ⟨_, SqT.of e4⟩, for_tup (K := K) (a := c) (xs := xs ++ ys) (fun i σ G => Same G4 G ∧ ∃ o6 o7 o8, σ = [o0, some (.ref p), o2, some (.ref q), some (.ref lf), some (.ref rt), o6, o7, o8, o9]) ⟨Same.refl _, _, _, _, rfl⟩ (fun i σ G _ h => SqT.of (h.1 _ _ e4)) ?_ ?_⟩
  · rintro i y σ G5 hi ⟨s5, u6, u7, u8, rfl⟩
    obtain ⟨b', l, h, rfl, hb'⟩ : ∃ (b' : Addr) (l h : Int), y = .ref b' ∧ G5 b' = some (.tup [.int l, .int h]) := by
      rcases List.mem_append.mp (List.mem_of_getElem? hi) with hm | hm
      · obtain ⟨k, hk⟩ := List.mem_iff_getElem?.mp hm
        obtain ⟨z, _, b', e, hb'⟩ := paired_get x2 hk
        exact ⟨b', _, _, e, s5 _ _ (s4 _ _ hb')⟩
      · obtain ⟨k, hk⟩ := List.mem_iff_getElem?.mp hm
        obtain ⟨z, _, b', e, hb'⟩ := paired_get y2 hk
        exact ⟨b', _, _, e, s5 _ _ (s4 _ _ hb')⟩
    refine ⟨b', _, rfl, SqT.of hb', rfl, _, _, rfl, _, _, rfl, rfl, ?_⟩
    refine ⟨_, rfl, _, _, rfl, rfl, _, rfl, _, rfl, _, rfl, _, _, rfl, rfl, _, _, rfl, rfl, ⟨by decide, by decide⟩, _, rfl, _, _, rfl, rfl, _, rfl, by show 5 ≤ sizeLine; omega, fun l5 n5 => ?_⟩
    have s6 := same_upd (o := .lst [V.int (l - 1), .int l, .int ((l + h) / 2), .int (h - 1), .int h]) n5
    have e6 : (upd G5 l5 (.lst [V.int (l - 1), .int l, .int ((l + h) / 2), .int (h - 1), .int h])) l5 = some (.lst [V.int (l - 1), .int l, .int ((l + h) / 2), .int (h - 1), .int h]) := upd_same
    generalize upd G5 l5 (.lst [V.int (l - 1), .int l, .int ((l + h) / 2), .int (h - 1), .int h]) = G6 at s6 e6 ⊢
    have al : ∀ v ∈ [V.int (l - 1), .int l, .int ((l + h) / 2), .int (h - 1), .int h], ∃ z, v = .int z := all_cons ⟨_, rfl⟩ (all_cons ⟨_, rfl⟩ (all_cons ⟨_, rfl⟩ (all_cons ⟨_, rfl⟩ (all_cons ⟨_, rfl⟩ all_nil))))
    generalize [V.int (l - 1), .int l, .int ((l + h) / 2), .int (h - 1), .int h] = five at e6 al
    refine ⟨l5, rfl, ⟨_, SqL.of e6⟩, for_list (K := K) (a := l5) (xs := five) (fun i σ G => Same G6 G ∧ ∃ o6, σ = [o0, some (.ref p), o2, some (.ref q), some (.ref lf), some (.ref rt), o6, some (.int l), some (.int h), o9]) ⟨Same.refl _, _, rfl⟩ (fun i σ G _ h => SqL.of (h.1 _ _ e6)) ?_ ?_⟩
    · rintro j v σ G7 hj ⟨s7, v6, rfl⟩
      obtain ⟨z, rfl⟩ := al v (List.mem_of_getElem? hj)
      have t7 := s4.trans (s5.trans (s6.trans s7))
      refine gName_in ?_
      refine ⟨_, rfl, _, rfl, p, a, .int z, rfl, ha.same t7, wa, by omega, .kn (.int z), fun G8 s8 => ?_⟩
      refine ⟨_, rfl, _, rfl, lf, _, rfl, .inl (SqL.of (s8 _ _ (t7 _ _ hL))), rfl, flat_ints _, ?_⟩
      refine ⟨rfl, _, rfl, iteNS (congrArg V.bl (hasB_int.trans (inV_ints _ _).symm)) ?_⟩
      refine ⟨_, rfl, _, rfl, p, a, .int z, rfl, ha.same (t7.trans s8), wa, by omega, .kn (.int z), fun G9 s9 => ?_⟩
      obtain ⟨t2, ty2, e2⟩ := ans_bool (K := K) (H := G9) (.kn (.bl (hasB a (.int z))))
      refine ⟨_, _, _, _, rfl, .ty "bool", .inl ⟨t2, ty2, e2⟩, _, rfl, ?_⟩
      exact iteF ⟨s7.trans (s8.trans s9), _, rfl⟩
    · rintro σ G7 ⟨s7, v6, rfl⟩
      exact ⟨s5.trans (s6.trans s7), _, _, _, rfl⟩
  · rintro σ G5 ⟨s5, u6, u7, u8, rfl⟩
    have t5 := s4.trans s5
    refine ⟨by show 1 ≤ sizeLine; omega, fun r1 n1 => ?_⟩
    have s6 := same_upd (o := .tup [.int 0]) n1
    have e6 : (upd G5 r1 (.tup [.int 0])) r1 = some (.tup [.int 0]) := upd_same
    generalize upd G5 r1 (.tup [.int 0]) = G6 at s6 e6 ⊢
    refine ⟨by show 1 ≤ sizeLine; omega, fun r2 n2 => ?_⟩
    have s7 := same_upd (o := .lst [.int 0]) n2
    have e7 : (upd G6 r2 (.lst [.int 0])) r2 = some (.lst [.int 0]) := upd_same
    generalize upd G6 r2 (.lst [.int 0]) = G7 at s7 e7 ⊢
    refine ⟨by show 6 ≤ sizeLine; omega, fun r3 n3 => ?_⟩
    have s8 := same_upd (o := .lst [.bl true, .non, .str "0", .ref r1, .ref r2, .bl false]) n3
    have e8 : (upd G7 r3 (.lst [.bl true, .non, .str "0", .ref r1, .ref r2, .bl false])) r3 = some (.lst [.bl true, .non, .str "0", .ref r1, .ref r2, .bl false]) := upd_same
    generalize upd G7 r3 (.lst [.bl true, .non, .str "0", .ref r1, .ref r2, .bl false]) = G8 at s8 e8 ⊢
    have al : ∀ v ∈ [V.bl true, .non, .str "0", .ref r1, .ref r2, .bl false], Knd G8 v ∧ hasB a v = false :=
      all_cons ⟨.kn (.bl _), rfl⟩ (all_cons ⟨.kn .non, rfl⟩ (all_cons ⟨.kn (.str _), rfl⟩ (all_cons ⟨.tup (s8 _ _ (s7 _ _ e6)), rfl⟩ (all_cons ⟨.kn (.lst (s8 _ _ e7)), rfl⟩ (all_cons ⟨.kn (.bl _), rfl⟩ all_nil)))))
    generalize [V.bl true, .non, .str "0", .ref r1, .ref r2, .bl false] = six at e8 al
    have t8 := t5.trans (s6.trans (s7.trans s8))
    refine ⟨_, rfl, r3, rfl, ⟨_, SqL.of e8⟩, fun acc hacc => ?_⟩
    refine ⟨fun i m ys H' => m = six.length - i ∧ i ≤ six.length ∧ ys = [] ∧ Same G8 H' ∧ H' acc = some (.lst []), ⟨_, rfl, Nat.zero_le _, rfl, same_upd hacc, upd_same⟩, ?_⟩
    rintro i m ys H' ⟨rfl, hi, rfl, sm, hA⟩
    refine ⟨hA, ?_⟩
    by_cases hlt : i < six.length
    · refine .inr ⟨⟨six, _, SqL.of (sm _ _ e8), List.getElem?_eq_getElem hlt⟩, ?_⟩
      rintro y H'' ⟨rfl, hy⟩
      have ey := hy six (SqL.of (sm _ _ e8))
      obtain ⟨kn, no⟩ := al y (List.mem_of_getElem? ey)
      refine gName_in ⟨rfl, ?_⟩
      refine ⟨_, rfl, _, rfl, p, a, y, rfl, ha.same (t8.trans sm), wa, by omega, kn.same sm, fun H2 s2 => ?_⟩
      rw [no]
      refine ⟨false, false, rfl, rfl, _, rfl, ?_⟩
      refine iteF ?_
      exact ⟨six.length - (i + 1), by omega, rfl, by omega, rfl, sm.trans s2, s2 _ _ hA⟩
    · refine .inl ⟨⟨six, SqL.of (sm _ _ e8), by omega⟩, ?_⟩
      refine ⟨by show 0 ≤ sizeLine; exact Nat.zero_le _, fun q6 g6 => ?_⟩
      have ev : PyData.eqv (.list []) (.list []) = true := by simp [PyData.eqv, PyData.eqvAll]
      refine ⟨.list [], .list [], .lst (SqL.of (by rw [upd_ne (ne_of_none hA g6)]; exact hA)) .nil, .lst (SqL.of upd_same) .nil, (Gd.lst (n := 0) gd_nil).shaped (by decide), (Gd.lst (n := 0) gd_nil).shaped (by decide), ?_⟩
      rw [ev]
      exact fin _
end
end Lw

set_option maxHeartbeats 4000000
namespace Lw
open PySem L2 PySem.W
theorem ne_same {K : Frag} {H : Hp} {r1 r2 : Addr} {d1 d2 : Lm.Ps} (h1 : WorkM H r1 d1) (h2 : WorkM H r2 d2) (s1 : Lm.Sh d1) (s2 : Lm.Sh d2) (e : ∀ x, Lm.mem d1 x ↔ Lm.mem d2 x) {Q : VK} (q : Q (.bl false) H) : rNeD K (.ref r1) (.ref r2) H Q := by
  refine ⟨workD d1, workD d2, work_rdv h1, work_rdv h2, work_shaped _, work_shaped _, ?_⟩
  rw [Lm.sh_same s1 s2 e, eqv_work]
  exact q
theorem due {d : Lm.Ps} {zs ws : List Int} (sd : Lm.Sh d) (up : zs.Pairwise (· < ·)) (m : ∀ x, Lm.mem d x ↔ x ∈ zs) (sub : ∀ x ∈ zs, x ∈ ws) (hl : ws.length ≤ 1000) (hb : ∀ x ∈ ws, -4000000000000000000 < x ∧ x < 4000000000000000000) : zs = Lm.plc d ∧ Lm.Fit d ∧ (Lm.plc d).length ≤ 1000 :=
  ⟨Lm.up_same up (Lm.plc_up sd.wk) fun x => ((m x).symm.trans Lm.mem_plc.symm), Lm.fit_of sd.lt (fun x hx => sub x ((m x).mp hx)) hl hb, Nat.le_trans (Lm.plc_small sd.wk fun x hx => sub x ((m x).mp hx)) hl⟩
theorem take_filter {l : List Int} {i : Nat} {x : Int} (h : l[i]? = some x) (p : Int → Bool) : (l.take (i + 1)).filter p = (l.take i).filter p ++ (if p x = true then [x] else []) := by
  rw [List.take_add_one, h, List.filter_append]
  congr 1
  simp only [Option.toList, List.filter_cons, List.filter_nil]
section
variable {P : Program} {w : World} {K : PySem.W.Frag} {mg : Str → Option Value} {base : Heap}
theorem ok_mid {f : Addr} (G : Gb mg)
    {fH : Addr} {fdH : FuncData} (GH : FnOk P w K mg base CX0 7 fH fdH ["work", "place"] spHas) (kH : keepIn K (.ref fH) = true) (bH : Binds K fdH ["work", "place"] []) (mH : mg "has_place" = some (.ref fH))
    {fP : Addr} {fdP : FuncData} (GP : FnOk P w K mg base CX0 7 fP fdP ["_law_work_here"] spPlaces) (kP : keepIn K (.ref fP) = true) (bP : Binds K fdP ["_law_work_here"] []) (mP : mg "_law_places" = some (.ref fP))
    {fI : Addr} {fdI : FuncData} (GI : FnOk P w K mg base CX0 7 fI fdI ["_law_work_here", "_law_places_here"] spIsShort) (kI : keepIn K (.ref fI) = true) (bI : Binds K fdI ["_law_work_here", "_law_places_here"] []) (mI : mg "_law_is_short" = some (.ref fI))
    {fE : Addr} {fdE : FuncData} (GE : FnOk P w K mg base CX0 7 fE fdE ["one", "other"] spEither) (kE : keepIn K (.ref fE) = true) (bE : Binds K fdE ["one", "other"] []) (mE : mg "either" = some (.ref fE))
    {fB : Addr} {fdB : FuncData} (GB : FnOk P w K mg base CX0 7 fB fdB ["one", "other"] spBoth) (kB : keepIn K (.ref fB) = true) (bB : Binds K fdB ["one", "other"] []) (mB : mg "both" = some (.ref fB))
    {fW : Addr} {fdW : FuncData} (GW : FnOk P w K mg base CX0 7 fW fdW ["one", "other"] spDiff) (kW : keepIn K (.ref fW) = true) (bW : Binds K fdW ["one", "other"] []) (mW : mg "without" = some (.ref fW))
    {fS : Addr} {fdS : FuncData} (GS : FnOk P w K mg base CX0 7 fS fdS ["work"] spSt) (kS : keepIn K (.ref fS) = true) (bS : Binds K fdS ["work"] []) (mS : mg "short_form" = some (.ref fS))
    {fZ : Addr} {fdZ : FuncData} (GZ : FnOk P w K mg base CX0 7 fZ fdZ ["work"] spSize) (kZ : keepIn K (.ref fZ) = true) (bZ : Binds K fdZ ["work"] []) (mZ : mg "size_of" = some (.ref fZ))
    {cdv : Value} {A : Around} {outer : List Env} {s : Shared} {H : Hp} {E : XK} (hr : Room 7 (A.deeper (PyProof.Rows.envOfC "law" (defScope sLaw) s.heap.objs.size f cdv))) :
    ∃ t, PSs (cxOf CX0 P w K mg base lawN "law" (defScope sLaw) f cdv A outer s H E).nox ((defBody sLaw).drop 4) t ∧ ∀ (D : Ends) (p q : Addr) (o0 o2 o4 o5 o6 o7 o8 o9 : Option V) (a b : Lm.Ps) (G3 : Hp), WorkM G3 p a → WorkM G3 q b → Lm.Wk a → Lm.Wk b → a.length ≤ 4 → b.length ≤ 4 → Lm.Fit a → Lm.Fit b → (Lm.plc a).length ≤ 120 → (Lm.plc b).length ≤ 120 →
      (∀ x ∈ Lm.plc a ++ Lm.plc b, -4000000000000000000 < x ∧ x < 4000000000000000000) → (∀ G9, D.rt (.bl true) G9) → t D [o0, some (.ref p), o2, some (.ref q), o4, o5, o6, o7, o8, o9] G3 := by
  obtain ⟨tR, pR, hR⟩ := ok_end (f := f) (cdv := cdv) (A := A) (outer := outer) (s := s) (H := H) (E := E) G GH kH bH mH hr
  refine ⟨_, (pss_cons (ps_asg (pe_tup (pa_cons (pe_call GP hr rfl mP kP bP .nil pass0 (pa_cons (pv 1) pa_nil)) (pa_cons (pe_call GP hr rfl mP kP bP .nil pass0 (pa_cons (pv 3) pa_nil)) pa_nil))) (pg_tup (n := 2) rfl (pgs_cons (pg_name (i := 4) scLaw.nd rfl (Or.inl rfl)) (pgs_cons (pg_name (i := 5) scLaw.nd rfl (Or.inr rfl)) pgs_nil))))
      (pss_cons (ps_if (PW.pt (pw_or (pt_not (pt_val (pe_call GI hr rfl mI kI bI .nil pass0 (pa_cons (pe_call GS hr rfl mS kS bS .nil pass0 (pa_cons (pv 1) pa_nil)) (pa_cons (pv 4) pa_nil))))) (pw_or1 (pt_not (pt_val (pe_call GI hr rfl mI kI bI .nil pass0 (pa_cons (pe_call GE hr rfl mE kE bE .nil pass0 (pa_cons (pv 1) (pa_cons (pv 3) pa_nil))) (pa_cons (pe_callB (call_sortedS rfl) (by rfl) G.sorted boot_srt (pa_cons (pe_callTy (call_setL rfl) (by rfl) G.set boot_set (pa_cons (pe_op op_cat (pv 4) (pv 5)) pa_nil)) pa_nil)) pa_nil)))))))) (pss_one (ps_ret pe_bl)) pss_nil)
      (pss_cons (ps_if (pt_not (pt_val (pe_call GI hr rfl mI kI bI .nil pass0 (pa_cons (pe_call GB hr rfl mB kB bB .nil pass0 (pa_cons (pv 1) (pa_cons (pv 3) pa_nil))) (pa_cons (pe_compF (NB := ["_law_place", "_law_right"]) (n := 1) (js := [5]) (g := gName 0) (cl := [("_law_right", s.heap.objs.size + 1 + 1)]) rfl (by decide +kernel) (by decide +kernel) rfl
        (Takes.of rfl (all_cons rfl all_nil) (all_cons (fun z => nomatch z) (all_cons (fun z => nomatch z) (all_cons (fun _ => rfl) all_nil))) rfl
          (fun k j h => match k, j, h with | 0, _, rfl => rfl | k + 1, _, h => absurd h (by simp)) (all_cons ⟨.inl rfl, .inl rfl, rfl⟩ all_nil))
        (pi_list (pv 4)) (fun C s H fp pn => pg_name (i := 0) ndPR rfl (Or.inl rfl) (.inr rfl)) (fun C s H fp pn => pts_one (pt_cmpR (r := rIn K false) op_in_seq (pv 0) (pv 1) rfl)) (fun C s H fp pn => (pv 0))) pa_nil))))) (pss_one (ps_ret pe_bl)) pss_nil)
      (pss_cons (ps_if (pt_not (pt_val (pe_call GI hr rfl mI kI bI .nil pass0 (pa_cons (pe_call GW hr rfl mW kW bW .nil pass0 (pa_cons (pv 1) (pa_cons (pv 3) pa_nil))) (pa_cons (pe_compF (NB := ["_law_place", "_law_right"]) (n := 1) (js := [5]) (g := gName 0) (cl := [("_law_right", s.heap.objs.size + 1 + 1)]) rfl (by decide +kernel) (by decide +kernel) rfl
        (Takes.of rfl (all_cons rfl all_nil) (all_cons (fun z => nomatch z) (all_cons (fun z => nomatch z) (all_cons (fun _ => rfl) all_nil))) rfl
          (fun k j h => match k, j, h with | 0, _, rfl => rfl | k + 1, _, h => absurd h (by simp)) (all_cons ⟨.inl rfl, .inl rfl, rfl⟩ all_nil))
        (pi_list (pv 4)) (fun C s H fp pn => pg_name (i := 0) ndPR rfl (Or.inl rfl) (.inr rfl)) (fun C s H fp pn => pts_one (pt_cmpR (r := rIn K true) op_notIn_seq (pv 0) (pv 1) rfl)) (fun C s H fp pn => (pv 0))) pa_nil))))) (pss_one (ps_ret pe_bl)) pss_nil)
      (pss_cons (ps_if (PW.pt (pw_or (pt_cmpR op_ne (pe_call GZ hr rfl mZ kZ bZ .nil pass0 (pa_cons (pv 1) pa_nil)) (pe_callB call_len_seq (by rfl) G.len PySem.boot_len (pa_cons (pv 4) pa_nil)) (nomark _)) (pw_or (pt_cmpR op_ne (pe_call GZ hr rfl mZ kZ bZ .nil pass0 (pa_cons (pe_tup pa_nil) pa_nil)) pe_int (nomark _)) (pw_or (pt_cmpR (op_neD hr.units) (pe_call GW hr rfl mW kW bW .nil pass0 (pa_cons (pv 1) (pa_cons (pv 1) pa_nil))) (pe_tup pa_nil) (nomark _)) (pw_or1 (pt_cmpR (op_neD hr.units) (pe_call GB hr rfl mB kB bB .nil pass0 (pa_cons (pv 1) (pa_cons (pv 1) pa_nil))) (pe_call GS hr rfl mS kS bS .nil pass0 (pa_cons (pv 1) pa_nil)) (nomark _))))))) (pss_one (ps_ret pe_bl)) pss_nil) pR))))), ?_⟩
  intro D p q o0 o2 o4 o5 o6 o7 o8 o9 a b G3 ha hb wa wb la lb fa fb na nb bd fin
  have sl : sizeLine = 16777216 := sizeLine_eq
  have ll : (Lm.plc a ++ Lm.plc b).length ≤ 1000 := by rw [List.length_append]; omega
  have inA : ∀ x ∈ Lm.plc a, x ∈ Lm.plc a ++ Lm.plc b := fun x hx => List.mem_append.mpr (.inl hx)
  -- the places
  refine ⟨_, rfl, p, a, rfl, ha, fa, by omega, fun lf G4 s4 n4 e4 => ?_⟩
  refine ⟨_, rfl, q, b, rfl, hb.same s4, fb, by omega, fun rt G5 s5 n5 e5 => ?_⟩
  refine ⟨by show 2 ≤ sizeLine; omega, fun t2 nt => ?_⟩
  refine ⟨t2, _, rfl, SqT.of upd_same, rfl, _, _, rfl, _, _, rfl, rfl, ?_⟩
  have s6 := same_upd (o := .tup [.ref lf, .ref rt]) nt
  generalize upd G5 t2 (.tup [.ref lf, .ref rt]) = G6 at s6 ⊢
  have hA := ha.same (s4.trans (s5.trans s6))
  have hB := hb.same (s4.trans (s5.trans s6))
  have eL := s6 _ _ (s5 _ _ e4)
  have eR := s6 _ _ e5
  clear s4 s5 s6 e4 e5 n4 n5 nt ha hb
  -- the short form
  refine ⟨_, rfl, p, a, rfl, hA, wa, by omega, fun r1 d1 G1 s1 h1 sd1 md1 ld1 => ?_⟩
  obtain ⟨u1, f1, l1⟩ := due (ws := Lm.plc a ++ Lm.plc b) sd1 (Lm.plc_up wa) (fun x => (md1 x).trans Lm.mem_plc.symm) inA ll bd
  refine ⟨_, rfl, r1, lf, d1, rfl, h1, sd1, by omega, f1, l1, (by rw [← u1]; exact s1 _ _ eL), fun G2 s2 => ⟨_, rfl, iteF ?_⟩⟩
  have t2 := s1.trans s2
  -- either
  refine ⟨_, rfl, _, rfl, p, q, a, b, rfl, hA.same t2, hB.same t2, wa, wb, by omega, fun r3 d3 G3 s3 h3 sd3 md3 ld3 => ?_⟩
  have t3 := t2.trans s3
  refine ⟨_, rfl, _, rfl, lf, rt, _, _, rfl, rfl, t3 _ _ eL, t3 _ _ eR, by rw [List.length_map, List.length_map]; omega, fun c4 n4 => ?_⟩
  have s4 := same_upd (o := .lst ((Lm.plc a).map V.int ++ (Lm.plc b).map V.int)) n4
  have e4 : (upd G3 c4 (.lst ((Lm.plc a).map V.int ++ (Lm.plc b).map V.int))) c4 = some (.lst ((Lm.plc a ++ Lm.plc b).map V.int)) := by rw [upd_same, List.map_append]
  generalize upd G3 c4 (.lst ((Lm.plc a).map V.int ++ (Lm.plc b).map V.int)) = G4 at s4 e4 ⊢
  refine ⟨c4, _, rfl, e4, by omega, fun c5 ds n5 nd5 md5 ld5 => ?_⟩
  refine ⟨c5, ds, rfl, upd_same, nd5, by omega, fun c6 ns n6 pm6 up6 => ?_⟩
  have t6 := (t3.trans s4).trans ((same_upd n5).trans (same_upd (o := .lst (ns.map V.int)) n6))
  have z6 := s4.trans ((same_upd n5).trans (same_upd (o := .lst (ns.map V.int)) n6))
  obtain ⟨u3, f3, l3⟩ := due (ws := Lm.plc a ++ Lm.plc b) (zs := ns) sd3 (Lm.le_up up6 (pm6.nodup_iff.mpr nd5)) (fun x => by rw [md3 x, pm6.mem_iff, md5 x, List.mem_append, Lm.mem_plc, Lm.mem_plc]) (fun x hx => (md5 x).mp (pm6.mem_iff.mp hx)) ll bd
  refine ⟨r3, c6, d3, rfl, h3.same z6, sd3, by omega, f3, l3, by rw [upd_same, u3], fun G7 s7 => ⟨_, rfl, iteF ?_⟩⟩
  have t7 := t6.trans s7
  clear s7 z6 s4 e4
  have hA := hA.same t7
  have hB := hB.same t7
  have eL := t7 _ _ eL
  have eR := t7 _ _ eR
  clear t7 t6 t3 t2
  -- both
  refine ⟨_, rfl, _, rfl, p, q, a, b, rfl, hA, hB, wa, wb, by omega, fun r d G1 s1 h1 sd md ld => ?_⟩
  refine ⟨_, rfl, lf, rfl, ⟨_, SqL.of (s1 _ _ eL)⟩, fun acc hacc => ?_⟩
  refine ⟨fun i m ys H' => m = (Lm.plc a).length - i ∧ i ≤ (Lm.plc a).length ∧ ys = (((Lm.plc a).take i).filter (fun x => decide (x ∈ Lm.plc b))).map V.int ∧ Same G1 H' ∧ H' acc = some (.lst ys), ⟨_, rfl, Nat.zero_le _, rfl, same_upd hacc, upd_same⟩, ?_⟩
  rintro i m ys H' ⟨rfl, hi, rfl, sm, hC⟩
  refine ⟨hC, ?_⟩
  by_cases hlt : i < (Lm.plc a).length
  · refine .inr ⟨⟨_, _, SqL.of (sm _ _ (s1 _ _ eL)), List.getElem?_eq_getElem (by rw [List.length_map]; exact hlt)⟩, ?_⟩
    rintro y H'' ⟨rfl, hy⟩
    have ey := hy _ (SqL.of (sm _ _ (s1 _ _ eL)))
    obtain ⟨z, ez, rfl⟩ : ∃ z, (Lm.plc a)[i]? = some z ∧ y = .int z := by
      rw [List.getElem?_map, List.getElem?_eq_getElem hlt] at ey
      exact ⟨_, List.getElem?_eq_getElem hlt, (Option.some.inj ey).symm⟩
    refine gName_in ⟨rfl, ?_⟩
    refine ⟨_, rfl, _, rfl, rt, _, rfl, .inl (SqL.of (sm _ _ (s1 _ _ eR))), rfl, flat_ints _, _, rfl, ?_⟩
    have eq : inV (.int z) ((Lm.plc b).map V.int) = decide (z ∈ Lm.plc b) := inV_ints _ _
    have tk := take_filter ez (fun x => decide (x ∈ Lm.plc b))
    have lnn : ((((Lm.plc a).take i).filter (fun x => decide (x ∈ Lm.plc b))).map V.int).length < sizeLine := by
      rw [List.length_map]
      have := List.length_filter_le (fun x => decide (x ∈ Lm.plc b)) ((Lm.plc a).take i)
      rw [List.length_take] at this
      omega
    refine ite2 (fun hc => ?_) (fun hc => ?_)
    · rw [if_pos (by rw [← eq]; exact hc)] at tk
      refine ⟨_, rfl, hC, lnn, _, ?_, rfl, hlt, by rw [tk, List.map_append]; rfl, fun b o z => ?_, upd_same⟩
      · omega
      · rw [upd_ne (ne_of_none z hacc)]
        exact sm _ _ z
    · rw [if_neg (by rw [← eq]; exact hc), List.append_nil] at tk
      exact ⟨(Lm.plc a).length - (i + 1), by omega, rfl, hlt, by rw [tk], sm, hC⟩
  refine .inl ⟨⟨_, SqL.of (sm _ _ (s1 _ _ eL)), by rw [List.length_map]; omega⟩, ?_⟩
  rw [List.take_of_length_le (by omega)] at hC
  obtain ⟨u, f1, l1⟩ := due (ws := Lm.plc a ++ Lm.plc b) sd (Lm.up_filter (Lm.plc_up wa) (fun x => decide (x ∈ Lm.plc b))) (fun x => by rw [md x, List.mem_filter, Lm.mem_plc]; simp [Lm.mem_plc]) (fun x hx => inA x (List.mem_filter.mp hx).1) ll bd
  refine ⟨r, acc, d, rfl, h1.same sm, sd, by omega, f1, l1, by rw [← u]; exact hC, fun G7 s7 => ⟨_, rfl, iteF ?_⟩⟩
  have t7 := s1.trans (sm.trans s7)
  have hA := hA.same t7
  have hB := hB.same t7
  have eL := t7 _ _ eL
  have eR := t7 _ _ eR
  clear s1 h1 sd md ld hC sm hi hacc u f1 l1 s7 t7 hlt
  -- without
  refine ⟨_, rfl, _, rfl, p, q, a, b, rfl, hA, hB, wa, wb, by omega, by omega, fun r d G1 s1 h1 sd md ld => ?_⟩
  refine ⟨_, rfl, lf, rfl, ⟨_, SqL.of (s1 _ _ eL)⟩, fun acc hacc => ?_⟩
  refine ⟨fun i m ys H' => m = (Lm.plc a).length - i ∧ i ≤ (Lm.plc a).length ∧ ys = (((Lm.plc a).take i).filter (fun x => !decide (x ∈ Lm.plc b))).map V.int ∧ Same G1 H' ∧ H' acc = some (.lst ys), ⟨_, rfl, Nat.zero_le _, rfl, same_upd hacc, upd_same⟩, ?_⟩
  rintro i m ys H' ⟨rfl, hi, rfl, sm, hC⟩
  refine ⟨hC, ?_⟩
  by_cases hlt : i < (Lm.plc a).length
  · refine .inr ⟨⟨_, _, SqL.of (sm _ _ (s1 _ _ eL)), List.getElem?_eq_getElem (by rw [List.length_map]; exact hlt)⟩, ?_⟩
    rintro y H'' ⟨rfl, hy⟩
    have ey := hy _ (SqL.of (sm _ _ (s1 _ _ eL)))
    obtain ⟨z, ez, rfl⟩ : ∃ z, (Lm.plc a)[i]? = some z ∧ y = .int z := by
      rw [List.getElem?_map, List.getElem?_eq_getElem hlt] at ey
      exact ⟨_, List.getElem?_eq_getElem hlt, (Option.some.inj ey).symm⟩
    refine gName_in ⟨rfl, ?_⟩
    refine ⟨_, rfl, _, rfl, rt, _, rfl, .inl (SqL.of (sm _ _ (s1 _ _ eR))), rfl, flat_ints _, _, rfl, ?_⟩
    have eq : (!inV (.int z) ((Lm.plc b).map V.int)) = (!decide (z ∈ Lm.plc b)) := congrArg (!·) (inV_ints _ _)
    have tk := take_filter ez (fun x => !decide (x ∈ Lm.plc b))
    have lnn : ((((Lm.plc a).take i).filter (fun x => !decide (x ∈ Lm.plc b))).map V.int).length < sizeLine := by
      rw [List.length_map]
      have := List.length_filter_le (fun x => !decide (x ∈ Lm.plc b)) ((Lm.plc a).take i)
      rw [List.length_take] at this
      omega
    refine ite2 (fun hc => ?_) (fun hc => ?_)
    · rw [if_pos (by rw [← eq]; exact hc)] at tk
      refine ⟨_, rfl, hC, lnn, _, ?_, rfl, hlt, by rw [tk, List.map_append]; rfl, fun b o z => ?_, upd_same⟩
      · omega
      · rw [upd_ne (ne_of_none z hacc)]
        exact sm _ _ z
    · rw [if_neg (by rw [← eq]; exact hc), List.append_nil] at tk
      exact ⟨(Lm.plc a).length - (i + 1), by omega, rfl, hlt, by rw [tk], sm, hC⟩
  refine .inl ⟨⟨_, SqL.of (sm _ _ (s1 _ _ eL)), by rw [List.length_map]; omega⟩, ?_⟩
  rw [List.take_of_length_le (by omega)] at hC
  obtain ⟨u, f1, l1⟩ := due (ws := Lm.plc a ++ Lm.plc b) sd (Lm.up_filter (Lm.plc_up wa) (fun x => !decide (x ∈ Lm.plc b))) (fun x => by rw [md x, List.mem_filter, Lm.mem_plc]; simp [Lm.mem_plc]) (fun x hx => inA x (List.mem_filter.mp hx).1) ll bd
  refine ⟨r, acc, d, rfl, h1.same sm, sd, by omega, f1, l1, by rw [← u]; exact hC, fun G7 s7 => ⟨_, rfl, iteF ?_⟩⟩
  have t7 := s1.trans (sm.trans s7)
  have hA := hA.same t7
  have hB := hB.same t7
  have eL := t7 _ _ eL
  have eR := t7 _ _ eR
  clear s1 h1 sd md ld hC sm hi hacc u f1 l1 s7 t7 hlt
  -- sizes
  refine ⟨_, rfl, p, a, rfl, hA, wa, by omega, fun G1 s1 => ?_⟩
  refine ⟨_, rfl, lf, _, rfl, .inl (SqL.of (s1 _ _ eL)), rfl, _, rfl, iteNS (congrArg V.int ?_) ?_⟩
  · rw [List.length_map, Lm.plc_len wa.lt]
  refine ⟨Nat.zero_le _, fun e2 n2 => ?_⟩
  have s2 := same_upd (o := .tup []) n2
  have h2 : WorkM (upd G1 e2 (.tup [])) e2 [] := ⟨[], upd_same, .nil⟩
  generalize upd G1 e2 (.tup []) = G2 at s2 h2 ⊢
  refine ⟨e2, [], rfl, h2, trivial, Nat.zero_le _, fun G3 s3 => ⟨rfl, _, rfl, iteNS rfl ?_⟩⟩
  have t3 := s1.trans (s2.trans s3)
  refine ⟨_, rfl, _, rfl, p, p, a, a, rfl, hA.same t3, hA.same t3, wa, wa, by omega, by omega, fun r d G4 s4 h4 sd4 md4 ld4 => ?_⟩
  refine ⟨Nat.zero_le _, fun e5 n5 => ?_⟩
  have s5 := same_upd (o := .tup []) n5
  have h5 : WorkM (upd G4 e5 (.tup [])) e5 [] := ⟨[], upd_same, .nil⟩
  generalize upd G4 e5 (.tup []) = G5 at s5 h5 ⊢
  refine ne_same (h4.same s5) h5 sd4 trivial (fun x => by rw [md4 x, Lm.mem_nil]; simp) ⟨_, rfl, iteF ?_⟩
  have t5 := t3.trans (s4.trans s5)
  refine ⟨_, rfl, _, rfl, p, p, a, a, rfl, hA.same t5, hA.same t5, wa, wa, by omega, fun r6 d6 G6 s6 h6 sd6 md6 ld6 => ?_⟩
  refine ⟨_, rfl, p, a, rfl, hA.same (t5.trans s6), wa, by omega, fun r7 d7 G7 s7 h7 sd7 md7 ld7 => ?_⟩
  refine ne_same (h6.same s7) h7 sd6 sd7 (fun x => by rw [md6 x, md7 x]; simp) ⟨_, rfl, iteF ?_⟩
  have t7 := t5.trans (s6.trans s7)
  exact hR D p q lf rt _ _ _ _ _ _ a b G7 (hA.same t7) (hB.same t7) wa la lb (t7 _ _ eL) fin
end
end Lw

set_option maxHeartbeats 4000000
namespace Lw
open PySem L2 PySem.W
def spLaw (K : Frag) : Sp := fun vs H Q _ => ∃ (a : Addr) (ns : List Int), vs = [.ref a] ∧ SqL K H a (ns.map V.int) ∧ ns.length ≤ 63 ∧ ∀ H', Q (.bl true) H'
/-- stretches of thirty places at most, none far off -/
def Mild (a : Lm.Ps) : Prop := ∀ q ∈ a, -4000000000000000000 < q.1 ∧ q.2 < 4000000000000000000 ∧ q.2 - q.1 ≤ 30
theorem Mild.len : ∀ {a : Lm.Ps}, Mild a → (Lm.plc a).length ≤ 30 * a.length
  | [], _ => Nat.zero_le _
  | p :: t, h => by
    have h1 := (h p (List.mem_cons_self ..)).2.2
    have h2 := Mild.len (a := t) fun q hq => h q (List.mem_cons_of_mem _ hq)
    show (Lm.span p.1 p.2 ++ Lm.plc t).length ≤ 30 * (t.length + 1)
    rw [List.length_append, Lm.span_len]
    omega
theorem Mild.fit {a : Lm.Ps} (h : Mild a) (w : Lm.Wk a) : Lm.Fit a := fun q hq => by
  obtain ⟨h1, h2, h3⟩ := h q hq
  have lt := w.lt q hq
  have e : (2 : Int) ^ 62 = 4611686018427387904 := by decide
  rw [e]
  omega
theorem Mild.bd {a : Lm.Ps} (h : Mild a) : ∀ x ∈ Lm.plc a, -4000000000000000000 < x ∧ x < 4000000000000000000 := fun x hx => by
  obtain ⟨q, hq, z1, z2⟩ := Lm.mem_plc.mp hx
  obtain ⟨h1, h2, h3⟩ := h q hq
  omega
theorem rise_mild {a : Lm.Ps} (r : Rise a) : Mild a := fun q hq => by
  obtain ⟨k, hk⟩ := List.mem_iff_getElem?.mp hq
  have := r.lo k q.1 q.2 hk
  omega
theorem rise_moved {a : Lm.Ps} (r : Rise a) {d : Int} (h1 : -2900000000000000000 < d) (h2 : d < 2900000000000000000) : Mild (a.map fun q => (q.1 + d, q.2 + d)) := fun q hq => by
  obtain ⟨z, hz, rfl⟩ := List.mem_map.mp hq
  obtain ⟨k, hk⟩ := List.mem_iff_getElem?.mp hz
  have := r.lo k z.1 z.2 hk
  show -4000000000000000000 < z.1 + d ∧ z.2 + d < 4000000000000000000 ∧ (z.2 + d) - (z.1 + d) ≤ 30
  omega
section
variable {P : Program} {w : World} {K : PySem.W.Frag} {mg : Str → Option Value} {base : Heap}
theorem ok_law {f : Addr} {fd : FuncData} (F : Fun K "law" "law" sLaw f fd) (G : Gb mg)
    {fA : Addr} {fdA : FuncData} (GA : FnOk P w K mg base CX0 7 fA fdA ["_law_script", "_law_k"] (spCell K)) (kA : keepIn K (.ref fA) = true) (bA : Binds K fdA ["_law_script", "_law_k"] []) (mA : mg "_law_cell_at" = some (.ref fA))
    {fD : Addr} {fdD : FuncData} (GD : FnOk P w K mg base CX0 7 fD fdD ["_law_cell", "_law_many"] spDraws) (kD : keepIn K (.ref fD) = true) (bD : Binds K fdD ["_law_cell", "_law_many"] []) (mD : mg "_law_draws" = some (.ref fD))
    {fK : Addr} {fdK : FuncData} (GK : FnOk P w K mg base CX0 7 fK fdK ["_law_cell"] spMake) (kK : keepIn K (.ref fK) = true) (bK : Binds K fdK ["_law_cell"] []) (mK : mg "_law_work" = some (.ref fK))
    {fV : Addr} {fdV : FuncData} (GV : FnOk P w K mg base CX0 7 fV fdV ["_law_work_here", "_law_by"] spMoved) (kV : keepIn K (.ref fV) = true) (bV : Binds K fdV ["_law_work_here", "_law_by"] []) (mV : mg "_law_moved" = some (.ref fV))
    {fH : Addr} {fdH : FuncData} (GH : FnOk P w K mg base CX0 7 fH fdH ["work", "place"] spHas) (kH : keepIn K (.ref fH) = true) (bH : Binds K fdH ["work", "place"] []) (mH : mg "has_place" = some (.ref fH))
    {fP : Addr} {fdP : FuncData} (GP : FnOk P w K mg base CX0 7 fP fdP ["_law_work_here"] spPlaces) (kP : keepIn K (.ref fP) = true) (bP : Binds K fdP ["_law_work_here"] []) (mP : mg "_law_places" = some (.ref fP))
    {fI : Addr} {fdI : FuncData} (GI : FnOk P w K mg base CX0 7 fI fdI ["_law_work_here", "_law_places_here"] spIsShort) (kI : keepIn K (.ref fI) = true) (bI : Binds K fdI ["_law_work_here", "_law_places_here"] []) (mI : mg "_law_is_short" = some (.ref fI))
    {fE : Addr} {fdE : FuncData} (GE : FnOk P w K mg base CX0 7 fE fdE ["one", "other"] spEither) (kE : keepIn K (.ref fE) = true) (bE : Binds K fdE ["one", "other"] []) (mE : mg "either" = some (.ref fE))
    {fB : Addr} {fdB : FuncData} (GB : FnOk P w K mg base CX0 7 fB fdB ["one", "other"] spBoth) (kB : keepIn K (.ref fB) = true) (bB : Binds K fdB ["one", "other"] []) (mB : mg "both" = some (.ref fB))
    {fW : Addr} {fdW : FuncData} (GW : FnOk P w K mg base CX0 7 fW fdW ["one", "other"] spDiff) (kW : keepIn K (.ref fW) = true) (bW : Binds K fdW ["one", "other"] []) (mW : mg "without" = some (.ref fW))
    {fS : Addr} {fdS : FuncData} (GS : FnOk P w K mg base CX0 7 fS fdS ["work"] spSt) (kS : keepIn K (.ref fS) = true) (bS : Binds K fdS ["work"] []) (mS : mg "short_form" = some (.ref fS))
    {fZ : Addr} {fdZ : FuncData} (GZ : FnOk P w K mg base CX0 7 fZ fdZ ["work"] spSize) (kZ : keepIn K (.ref fZ) = true) (bZ : Binds K fdZ ["work"] []) (mZ : mg "size_of" = some (.ref fZ))
    : FnOk P w K mg base CX0 8 f fd ["_law_script"] (spLaw K) := by
  refine F.ok scLaw (fun vs H Q E h => ?_) (fun cdv A outer s H vs Q E hr h => ?_)
  · obtain ⟨a, ns, rfl, _⟩ := h
    rfl
  · obtain ⟨a, ns, rfl, hS, hl, q⟩ := h
    obtain ⟨tR, pR, hR⟩ := ok_mid (f := f) (cdv := cdv) (A := A) (outer := outer) (s := s) (H := H) (E := E) G GH kH bH mH GP kP bP mP GI kI bI mI GE kE bE mE GB kB bB mB GW kW bW mW GS kS bS mS GZ kZ bZ mZ hr
    refine ⟨_, (pss_cons (ps_set (i := 1) scLaw.nd rfl (Or.inr rfl) (pe_call GK hr rfl mK kK bK .nil pass0 (pa_cons (pe_call GA hr rfl mA kA bA .nil pass0 (pa_cons (pv 0) (pa_cons pe_int pa_nil))) pa_nil)))
      (pss_cons (ps_set (i := 2) scLaw.nd rfl (Or.inl rfl) (pe_call GD hr rfl mD kD bD .nil pass0 (pa_cons (pe_call GA hr rfl mA kA bA .nil pass0 (pa_cons (pv 0) (pa_cons pe_int pa_nil))) (pa_cons pe_int pa_nil))))
      (pss_cons (ps_set (i := 3) scLaw.nd rfl (Or.inl rfl) (pe_call GK hr rfl mK kK bK .nil pass0 (pa_cons (pe_call GA hr rfl mA kA bA .nil pass0 (pa_cons (pv 0) (pa_cons pe_int pa_nil))) pa_nil)))
      (pss_cons (ps_if (PW.pt (pw_and (pt_cmpR (op_neD hr.units) (pv 1) (pe_tup pa_nil) (nomark _)) (pw_and (pt_cmpR (op_neD hr.units) (pv 3) (pe_tup pa_nil) (nomark _)) (pw_and1 (pt_cmpR op_gt (pe_op op_mod (pe_ix ix_list (pv 2) pe_int (fun _ _ => rfl)) pe_int) pe_int (nomark _))))))
        (pss_one (ps_set (i := 3) scLaw.nd rfl (Or.inl rfl) (pe_call GV hr rfl mV kV bV .nil pass0 (pa_cons (pv 3) (pa_cons (pe_op op_sub (pe_op op_add (pe_op op_sub (pe_ix ix_tup (pe_ix ix_tup (pv 1) pe_int (fun _ _ => rfl)) pe_int (fun _ _ => rfl)) (pe_ix ix_tup (pe_ix ix_tup (pv 3) pe_int (fun _ _ => rfl)) pe_int (fun _ _ => rfl))) (pe_op op_mod (pe_ix ix_list (pv 2) pe_int (fun _ _ => rfl)) pe_int)) pe_int) pa_nil))))) pss_nil) pR)))), ?_⟩
    have sl : sizeLine = 16777216 := sizeLine_eq
    refine ⟨_, rfl, a, ns, 0, rfl, hS, hl, fun c0 => ⟨c0, rfl, fun p ps H1 s1 hw1 => ?_⟩⟩
    refine ⟨_, rfl, a, ns, 1, rfl, s1.seq hS, hl, fun c1 => ?_⟩
    refine ⟨c1, 3, rfl, by decide, fun lx xs H2 s2 lxs bx ex => ?_⟩
    have t2 := s1.trans s2
    refine ⟨_, rfl, a, ns, 2, rfl, t2.seq hS, hl, fun c2 => ⟨c2, rfl, fun p' ps' H3 s3 hw3 => ?_⟩⟩
    obtain ⟨x0, x1, x2, rfl⟩ : ∃ x0 x1 x2, xs = [x0, x1, x2] := by
      match xs, lxs with
      | [x0, x1, x2], _ => exact ⟨x0, x1, x2, rfl⟩
    have hw1 := hw1.same (s2.trans s3)
    have ex := s3 _ _ ex
    obtain ⟨us, u1, u2, rise⟩ := hw1
    obtain ⟨us', u1', u2', rise'⟩ := hw3
    have ha : WorkM H3 p ps := ⟨us, u1, u2⟩
    have hb : WorkM H3 p' ps' := ⟨us', u1', u2'⟩
    clear s1 s2 s3 t2
    have go : ∀ (H4 : Hp) (r : Addr) (b : Lm.Ps) (D : Ends), Same H3 H4 → WorkM H4 r b → Lm.Wk b → b.length ≤ 4 → Mild b → (∀ G9, D.rt (.bl true) G9) → tR D [some (.ref a), some (.ref p), some (.ref lx), some (.ref r), none, none, none, none, none, none] H4 := fun H4 r b D s4 h4 wb lb mb fin => by
      have ma := rise_mild rise
      have wa := rise_wk rise
      have few := rise.few
      have na := ma.len
      have nb := mb.len
      exact hR D p r _ _ _ _ _ _ _ _ ps b H4 (ha.same s4) h4 wa wb few lb (ma.fit wa) (mb.fit wb) (by omega) (by omega) (fun x hx => (List.mem_append.mp hx).elim (ma.bd x) (mb.bd x)) fin
    have stay : ∀ (H4 : Hp), Same H3 H4 → tR { nx := fun _ H' => Q .non H', rt := Q } [some (.ref a), some (.ref p), some (.ref lx), some (.ref p'), none, none, none, none, none, none] H4 := fun H4 s4 => go H4 p' ps' _ s4 (hb.same s4) (rise_wk rise') rise'.few (rise_mild rise') q
    refine ⟨_, rfl, Nat.zero_le _, fun t0 ht0 => ?_⟩
    have s4 : Same H3 (upd H3 t0 (.tup [])) := same_upd ht0
    have e4 : (upd H3 t0 (.tup [])) t0 = some (.tup []) := upd_same
    generalize upd H3 t0 (.tup []) = H4 at s4 e4 ⊢
    refine ⟨workD ps, .tuple [], work_rdv (ha.same s4), .tup (SqT.of e4) .nil, work_shaped _, (Gd.tup (n := 0) gd_nil).shaped (by decide), _, rfl, ?_⟩
    rw [eqv_work_nil]
    refine ite2 (fun hc => ?_) (fun hc => iteF (stay _ s4))
    refine ⟨_, rfl, Nat.zero_le _, fun t1 ht1 => ?_⟩
    have s5 : Same H4 (upd H4 t1 (.tup [])) := same_upd ht1
    have e5 : (upd H4 t1 (.tup [])) t1 = some (.tup []) := upd_same
    generalize upd H4 t1 (.tup []) = H5 at s5 e5 ⊢
    have t5 := s4.trans s5
    refine ⟨workD ps', .tuple [], work_rdv (hb.same t5), .tup (SqT.of e5) .nil, work_shaped _, (Gd.tup (n := 0) gd_nil).shaped (by decide), _, rfl, ?_⟩
    rw [eqv_work_nil]
    refine ite2 (fun hc' => ?_) (fun hc' => iteF (stay _ t5))
    refine ⟨_, rfl, lx, _, _, _, rfl, rfl, SqL.of (t5 _ _ ex), atI_nat (j := 0) rfl, _, _, rfl, rfl, (by show (0 : Int) < 4; decide), _, _, rfl, rfl, _, rfl, ?_⟩
    refine ite2 (fun hc2 => ?_) (fun hc2 => stay _ t5)
    obtain ⟨q0, qs, rfl⟩ : ∃ q0 qs, ps = q0 :: qs := by
      cases ps with
      | nil => simp at hc
      | cons q0 qs => exact ⟨q0, qs, rfl⟩
    obtain ⟨q1, qs', rfl⟩ : ∃ q0 qs, ps' = q0 :: qs := by
      cases ps' with
      | nil => simp at hc'
      | cons q0 qs => exact ⟨q0, qs, rfl⟩
    obtain ⟨v0, vs, rfl⟩ : ∃ x0 xs', us = x0 :: xs' := by
      cases us with
      | nil => cases u2
      | cons x0 xs' => exact ⟨x0, xs', rfl⟩
    obtain ⟨v1, vs', rfl⟩ : ∃ x0 xs', us' = x0 :: xs' := by
      cases us' with
      | nil => cases u2'
      | cons x0 xs' => exact ⟨x0, xs', rfl⟩
    obtain ⟨b0, rfl, hb0⟩ : PairAt H3 v0 q0 := by
      cases u2 with
      | cons r _ => exact r
    obtain ⟨b1, rfl, hb1⟩ : PairAt H3 v1 q1 := by
      cases u2' with
      | cons r _ => exact r
    have z0 := rise.lo 0 q0.1 q0.2 rfl
    have y0 := rise.lt 0 q0.1 q0.2 rfl
    have z1 := rise'.lo 0 q1.1 q1.2 rfl
    have y1 := rise'.lt 0 q1.1 q1.2 rfl
    have few' := rise'.few
    refine ⟨_, rfl, _, rfl, p, _, _, _, rfl, rfl, SqT.of (t5 _ _ u1), atI_nat (j := 0) rfl, b0, _, _, _, rfl, rfl, SqT.of (t5 _ _ hb0), atI_nat (j := 0) rfl, _, rfl, p', _, _, _, rfl, rfl, SqT.of (t5 _ _ u1'), atI_nat (j := 0) rfl, b1, _, _, _, rfl, rfl, SqT.of (t5 _ _ hb1), atI_nat (j := 0) rfl, _, _, rfl, rfl, _, rfl, lx, _, _, _, rfl, rfl, SqL.of (t5 _ _ ex), atI_nat (j := 1) rfl, _, _, rfl, rfl, (by show (0 : Int) < 21; decide), _, _, rfl, rfl, _, _, rfl, rfl, ?_⟩
    refine ⟨p', _, _, rfl, hb.same t5, by omega, fun r H6 s6 hr6 => ?_⟩
    have m1 := Int.emod_nonneg x1 (show (21 : Int) ≠ 0 by decide)
    have m2 := Int.emod_lt_of_pos x1 (show (0 : Int) < 21 by decide)
    exact go H6 r _ _ (t5.trans s6) hr6 (wk_map _ (rise_wk rise')) (by rw [List.length_map]; exact few') (rise_moved rise' (by omega) (by omega)) q
end
end Lw

set_option maxHeartbeats 4000000
namespace Lw
open PySem L2 PySem.W
theorem all_mk {l : OpenLaw} {w : World} {K : Frag} {h : Heap} {mg : Str → Option Value} {fa : Addr} {f1 : Addr} {f2 : Addr} {f3 : Addr} {f4 : Addr} {f5 : Addr} {f6 : Addr} {f7 : Addr} {f8 : Addr} {f9 : Addr} {f10 : Addr} {f11 : Addr} {f12 : Addr} {f13 : Addr} {f14 : Addr} {f15 : Addr} {f16 : Addr} {f17 : Addr} {f18 : Addr} {od1 an1 : Option Addr} {sl1 : Array (Option Value)} {oc1 kV1 dc1 pm1 cd1 ct1 : Value} {od2 an2 : Option Addr} {sl2 : Array (Option Value)} {oc2 kV2 dc2 pm2 cd2 ct2 : Value} {od3 an3 : Option Addr} {sl3 : Array (Option Value)} {oc3 kV3 dc3 pm3 cd3 ct3 : Value} {od4 an4 : Option Addr} {sl4 : Array (Option Value)} {oc4 kV4 dc4 pm4 cd4 ct4 : Value} {od5 an5 : Option Addr} {sl5 : Array (Option Value)} {oc5 kV5 dc5 pm5 cd5 ct5 : Value} {od6 an6 : Option Addr} {sl6 : Array (Option Value)} {oc6 kV6 dc6 pm6 cd6 ct6 : Value} {od7 an7 : Option Addr} {sl7 : Array (Option Value)} {oc7 kV7 dc7 pm7 cd7 ct7 : Value} {od8 an8 : Option Addr} {sl8 : Array (Option Value)} {oc8 kV8 dc8 pm8 cd8 ct8 : Value} {od9 an9 : Option Addr} {sl9 : Array (Option Value)} {oc9 kV9 dc9 pm9 cd9 ct9 : Value} {od10 an10 : Option Addr} {sl10 : Array (Option Value)} {oc10 kV10 dc10 pm10 cd10 ct10 : Value} {od11 an11 : Option Addr} {sl11 : Array (Option Value)} {oc11 kV11 dc11 pm11 cd11 ct11 : Value} {od12 an12 : Option Addr} {sl12 : Array (Option Value)} {oc12 kV12 dc12 pm12 cd12 ct12 : Value} {od13 an13 : Option Addr} {sl13 : Array (Option Value)} {oc13 kV13 dc13 pm13 cd13 ct13 : Value} {od14 an14 : Option Addr} {sl14 : Array (Option Value)} {oc14 kV14 dc14 pm14 cd14 ct14 : Value} {od15 an15 : Option Addr} {sl15 : Array (Option Value)} {oc15 kV15 dc15 pm15 cd15 ct15 : Value} {od16 an16 : Option Addr} {sl16 : Array (Option Value)} {oc16 kV16 dc16 pm16 cd16 ct16 : Value} {od17 an17 : Option Addr} {sl17 : Array (Option Value)} {oc17 kV17 dc17 pm17 cd17 ct17 : Value} {od18 an18 : Option Addr} {sl18 : Array (Option Value)} {oc18 kV18 dc18 pm18 cd18 ct18 : Value} (X : K.In h) (G : h.Ns mainGlobals mg) (hfa : mg "law" = some (.ref fa))
    (a1 : nsIn K mainGlobals "is_whole" = some (some (.ref f1)))
    (l1 : K.lookup f1 = some ⟨oc1, od1, .func (fnOf "is_whole" "is_whole" (defArgs sWhole) (defBody sWhole) (defScope sWhole) .none kV1 dc1 pm1 an1 cd1 ct1), sl1⟩)
    (c1 : codeIn K cd1 "is_whole" = true)
    (k1 : keepIn K (.ref f1) = true)
    (a2 : nsIn K mainGlobals "is_stretch" = some (some (.ref f2)))
    (l2 : K.lookup f2 = some ⟨oc2, od2, .func (fnOf "is_stretch" "is_stretch" (defArgs sStretch) (defBody sStretch) (defScope sStretch) .none kV2 dc2 pm2 an2 cd2 ct2), sl2⟩)
    (c2 : codeIn K cd2 "is_stretch" = true)
    (k2 : keepIn K (.ref f2) = true)
    (a3 : nsIn K mainGlobals "is_work" = some (some (.ref f3)))
    (l3 : K.lookup f3 = some ⟨oc3, od3, .func (fnOf "is_work" "is_work" (defArgs sWork) (defBody sWork) (defScope sWork) .none kV3 dc3 pm3 an3 cd3 ct3), sl3⟩)
    (c3 : codeIn K cd3 "is_work" = true)
    (k3 : keepIn K (.ref f3) = true)
    (a4 : nsIn K mainGlobals "check_work" = some (some (.ref f4)))
    (l4 : K.lookup f4 = some ⟨oc4, od4, .func (fnOf "check_work" "check_work" (defArgs sCheck) (defBody sCheck) (defScope sCheck) .none kV4 dc4 pm4 an4 cd4 ct4), sl4⟩)
    (c4 : codeIn K cd4 "check_work" = true)
    (k4 : keepIn K (.ref f4) = true)
    (a5 : nsIn K mainGlobals "merged" = some (some (.ref f5)))
    (l5 : K.lookup f5 = some ⟨oc5, od5, .func (fnOf "merged" "merged" (defArgs sMerged) (defBody sMerged) (defScope sMerged) .none kV5 dc5 pm5 an5 cd5 ct5), sl5⟩)
    (c5 : codeIn K cd5 "merged" = true)
    (k5 : keepIn K (.ref f5) = true)
    (a6 : nsIn K mainGlobals "short_form" = some (some (.ref f6)))
    (l6 : K.lookup f6 = some ⟨oc6, od6, .func (fnOf "short_form" "short_form" (defArgs sShort) (defBody sShort) (defScope sShort) .none kV6 dc6 pm6 an6 cd6 ct6), sl6⟩)
    (c6 : codeIn K cd6 "short_form" = true)
    (k6 : keepIn K (.ref f6) = true)
    (a7 : nsIn K mainGlobals "either" = some (some (.ref f7)))
    (l7 : K.lookup f7 = some ⟨oc7, od7, .func (fnOf "either" "either" (defArgs sEither) (defBody sEither) (defScope sEither) .none kV7 dc7 pm7 an7 cd7 ct7), sl7⟩)
    (c7 : codeIn K cd7 "either" = true)
    (k7 : keepIn K (.ref f7) = true)
    (a8 : nsIn K mainGlobals "both" = some (some (.ref f8)))
    (l8 : K.lookup f8 = some ⟨oc8, od8, .func (fnOf "both" "both" (defArgs sBoth) (defBody sBoth) (defScope sBoth) .none kV8 dc8 pm8 an8 cd8 ct8), sl8⟩)
    (c8 : codeIn K cd8 "both" = true)
    (k8 : keepIn K (.ref f8) = true)
    (a9 : nsIn K mainGlobals "without" = some (some (.ref f9)))
    (l9 : K.lookup f9 = some ⟨oc9, od9, .func (fnOf "without" "without" (defArgs sWithout) (defBody sWithout) (defScope sWithout) .none kV9 dc9 pm9 an9 cd9 ct9), sl9⟩)
    (c9 : codeIn K cd9 "without" = true)
    (k9 : keepIn K (.ref f9) = true)
    (a10 : nsIn K mainGlobals "size_of" = some (some (.ref f10)))
    (l10 : K.lookup f10 = some ⟨oc10, od10, .func (fnOf "size_of" "size_of" (defArgs sSize) (defBody sSize) (defScope sSize) .none kV10 dc10 pm10 an10 cd10 ct10), sl10⟩)
    (c10 : codeIn K cd10 "size_of" = true)
    (k10 : keepIn K (.ref f10) = true)
    (a11 : nsIn K mainGlobals "has_place" = some (some (.ref f11)))
    (l11 : K.lookup f11 = some ⟨oc11, od11, .func (fnOf "has_place" "has_place" (defArgs sHas) (defBody sHas) (defScope sHas) .none kV11 dc11 pm11 an11 cd11 ct11), sl11⟩)
    (c11 : codeIn K cd11 "has_place" = true)
    (k11 : keepIn K (.ref f11) = true)
    (a12 : nsIn K mainGlobals "_law_cell_at" = some (some (.ref f12)))
    (l12 : K.lookup f12 = some ⟨oc12, od12, .func (fnOf "_law_cell_at" "_law_cell_at" (defArgs sCell) (defBody sCell) (defScope sCell) .none kV12 dc12 pm12 an12 cd12 ct12), sl12⟩)
    (c12 : codeIn K cd12 "_law_cell_at" = true)
    (k12 : keepIn K (.ref f12) = true)
    (a13 : nsIn K mainGlobals "_law_draws" = some (some (.ref f13)))
    (l13 : K.lookup f13 = some ⟨oc13, od13, .func (fnOf "_law_draws" "_law_draws" (defArgs sDraws) (defBody sDraws) (defScope sDraws) .none kV13 dc13 pm13 an13 cd13 ct13), sl13⟩)
    (c13 : codeIn K cd13 "_law_draws" = true)
    (k13 : keepIn K (.ref f13) = true)
    (a14 : nsIn K mainGlobals "_law_work" = some (some (.ref f14)))
    (l14 : K.lookup f14 = some ⟨oc14, od14, .func (fnOf "_law_work" "_law_work" (defArgs sMake) (defBody sMake) (defScope sMake) .none kV14 dc14 pm14 an14 cd14 ct14), sl14⟩)
    (c14 : codeIn K cd14 "_law_work" = true)
    (k14 : keepIn K (.ref f14) = true)
    (a15 : nsIn K mainGlobals "_law_moved" = some (some (.ref f15)))
    (l15 : K.lookup f15 = some ⟨oc15, od15, .func (fnOf "_law_moved" "_law_moved" (defArgs sMoved) (defBody sMoved) (defScope sMoved) .none kV15 dc15 pm15 an15 cd15 ct15), sl15⟩)
    (c15 : codeIn K cd15 "_law_moved" = true)
    (k15 : keepIn K (.ref f15) = true)
    (a16 : nsIn K mainGlobals "_law_places" = some (some (.ref f16)))
    (l16 : K.lookup f16 = some ⟨oc16, od16, .func (fnOf "_law_places" "_law_places" (defArgs sPlaces) (defBody sPlaces) (defScope sPlaces) .none kV16 dc16 pm16 an16 cd16 ct16), sl16⟩)
    (c16 : codeIn K cd16 "_law_places" = true)
    (k16 : keepIn K (.ref f16) = true)
    (a17 : nsIn K mainGlobals "_law_is_short" = some (some (.ref f17)))
    (l17 : K.lookup f17 = some ⟨oc17, od17, .func (fnOf "_law_is_short" "_law_is_short" (defArgs sIsShort) (defBody sIsShort) (defScope sIsShort) .none kV17 dc17 pm17 an17 cd17 ct17), sl17⟩)
    (c17 : codeIn K cd17 "_law_is_short" = true)
    (k17 : keepIn K (.ref f17) = true)
    (a18 : nsIn K mainGlobals "law" = some (some (.ref f18)))
    (l18 : K.lookup f18 = some ⟨oc18, od18, .func (fnOf "law" "law" (defArgs sLaw) (defBody sLaw) (defScope sLaw) .none kV18 dc18 pm18 an18 cd18 ct18), sl18⟩)
    (c18 : codeIn K cd18 "law" = true)
    (k18 : keepIn K (.ref f18) = true)
    (z0 : nsIn K mainGlobals "isinstance" = some none)
    (z1 : nsIn K mainGlobals "int" = some none)
    (z2 : nsIn K mainGlobals "bool" = some none)
    (z3 : nsIn K mainGlobals "tuple" = some none)
    (z4 : nsIn K mainGlobals "len" = some none)
    (z5 : nsIn K mainGlobals "range" = some none)
    (z6 : nsIn K mainGlobals "list" = some none)
    (z7 : nsIn K mainGlobals "max" = some none)
    (z8 : nsIn K mainGlobals "sum" = some none)
    (z9 : nsIn K mainGlobals "sorted" = some none)
    (z10 : nsIn K mainGlobals "any" = some none)
    (z11 : nsIn K mainGlobals "all" = some none)
    (z12 : nsIn K mainGlobals "set" = some none) :
    ∃ fd : FuncData, (∀ (s : Shared) (v : Value), BindsTo s fd ⟨[v], []⟩ [("_law_script", v)]) ∧ ∀ base : Heap, K.In base → base.Ns mainGlobals mg → FnOk l.prog w K mg base CX0 8 fa fd ["_law_script"] (spLaw K) := by
  have e := hfa.symm.trans (mg_of X G a18)
  cases e
  have B : Gb mg := ⟨mg_none_of X G z0, mg_none_of X G z1, mg_none_of X G z2, mg_none_of X G z3, mg_none_of X G z4, mg_none_of X G z5, mg_none_of X G z6, mg_none_of X G z7, mg_none_of X G z8, mg_none_of X G z9, mg_none_of X G z10, mg_none_of X G z11, mg_none_of X G z12⟩
  have F1 := fun_mk (st := sWhole) l1 c1 k1
  have b1 := F1.binds (ps := ["thing"]) fun _ _ _ _ _ _ us hl => match us, hl with | [_], _ => rfl
  have M1 := mg_of X G a1
  have F2 := fun_mk (st := sStretch) l2 c2 k2
  have b2 := F2.binds (ps := ["thing"]) fun _ _ _ _ _ _ us hl => match us, hl with | [_], _ => rfl
  have M2 := mg_of X G a2
  have F3 := fun_mk (st := sWork) l3 c3 k3
  have b3 := F3.binds (ps := ["thing"]) fun _ _ _ _ _ _ us hl => match us, hl with | [_], _ => rfl
  have M3 := mg_of X G a3
  have F4 := fun_mk (st := sCheck) l4 c4 k4
  have b4 := F4.binds (ps := ["work"]) fun _ _ _ _ _ _ us hl => match us, hl with | [_], _ => rfl
  have M4 := mg_of X G a4
  have F5 := fun_mk (st := sMerged) l5 c5 k5
  have b5 := F5.binds (ps := ["stretches"]) fun _ _ _ _ _ _ us hl => match us, hl with | [_], _ => rfl
  have M5 := mg_of X G a5
  have F6 := fun_mk (st := sShort) l6 c6 k6
  have b6 := F6.binds (ps := ["work"]) fun _ _ _ _ _ _ us hl => match us, hl with | [_], _ => rfl
  have M6 := mg_of X G a6
  have F7 := fun_mk (st := sEither) l7 c7 k7
  have b7 := F7.binds (ps := ["one", "other"]) fun _ _ _ _ _ _ us hl => match us, hl with | [_, _], _ => rfl
  have M7 := mg_of X G a7
  have F8 := fun_mk (st := sBoth) l8 c8 k8
  have b8 := F8.binds (ps := ["one", "other"]) fun _ _ _ _ _ _ us hl => match us, hl with | [_, _], _ => rfl
  have M8 := mg_of X G a8
  have F9 := fun_mk (st := sWithout) l9 c9 k9
  have b9 := F9.binds (ps := ["one", "other"]) fun _ _ _ _ _ _ us hl => match us, hl with | [_, _], _ => rfl
  have M9 := mg_of X G a9
  have F10 := fun_mk (st := sSize) l10 c10 k10
  have b10 := F10.binds (ps := ["work"]) fun _ _ _ _ _ _ us hl => match us, hl with | [_], _ => rfl
  have M10 := mg_of X G a10
  have F11 := fun_mk (st := sHas) l11 c11 k11
  have b11 := F11.binds (ps := ["work", "place"]) fun _ _ _ _ _ _ us hl => match us, hl with | [_, _], _ => rfl
  have M11 := mg_of X G a11
  have F12 := fun_mk (st := sCell) l12 c12 k12
  have b12 := F12.binds (ps := ["_law_script", "_law_k"]) fun _ _ _ _ _ _ us hl => match us, hl with | [_, _], _ => rfl
  have M12 := mg_of X G a12
  have F13 := fun_mk (st := sDraws) l13 c13 k13
  have b13 := F13.binds (ps := ["_law_cell", "_law_many"]) fun _ _ _ _ _ _ us hl => match us, hl with | [_, _], _ => rfl
  have M13 := mg_of X G a13
  have F14 := fun_mk (st := sMake) l14 c14 k14
  have b14 := F14.binds (ps := ["_law_cell"]) fun _ _ _ _ _ _ us hl => match us, hl with | [_], _ => rfl
  have M14 := mg_of X G a14
  have F15 := fun_mk (st := sMoved) l15 c15 k15
  have b15 := F15.binds (ps := ["_law_work_here", "_law_by"]) fun _ _ _ _ _ _ us hl => match us, hl with | [_, _], _ => rfl
  have M15 := mg_of X G a15
  have F16 := fun_mk (st := sPlaces) l16 c16 k16
  have b16 := F16.binds (ps := ["_law_work_here"]) fun _ _ _ _ _ _ us hl => match us, hl with | [_], _ => rfl
  have M16 := mg_of X G a16
  have F17 := fun_mk (st := sIsShort) l17 c17 k17
  have b17 := F17.binds (ps := ["_law_work_here", "_law_places_here"]) fun _ _ _ _ _ _ us hl => match us, hl with | [_, _], _ => rfl
  have M17 := mg_of X G a17
  have F18 := fun_mk (st := sLaw) l18 c18 k18
  refine ⟨fnOf "law" "law" (defArgs sLaw) (defBody sLaw) (defScope sLaw) .none kV18 dc18 pm18 an18 cd18 ct18, fun s v => .of_eq rfl, fun base _ _ => ?_⟩
  have G3 : FnOk l.prog w K mg base CX0 3 f3 _ ["thing"] spWork := ok_work F3 B F1 b1 M1 F2 b2 M2
  have G4 : FnOk l.prog w K mg base CX0 4 f4 _ ["work"] spCheck := ok_check F4 G3 k3 b3 M3
  have G5 : FnOk l.prog w K mg base CX0 1 f5 _ ["stretches"] (spMerged K) := ok_merged F5 B
  have G6 : FnOk l.prog w K mg base CX0 5 f6 _ ["work"] spShort := ok_short F6 G4 k4 b4 M4 (G5.mono (by decide)) k5 b5 M5
  have G7 : FnOk l.prog w K mg base CX0 5 f7 _ ["one", "other"] spEither := ok_either F7 B G4 k4 b4 M4 (G5.mono (by decide)) k5 b5 M5
  have G9 : FnOk l.prog w K mg base CX0 6 f9 _ ["one", "other"] spDiff := diff_of (ok_without F9 B G6 k6 b6 M6)
  have G8 : FnOk l.prog w K mg base CX0 7 f8 _ ["one", "other"] spBoth := ok_both F8 G9 k9 b9 M9
  have G10 : FnOk l.prog w K mg base CX0 5 f10 _ ["work"] spSize := ok_size F10 B G4 k4 b4 M4
  have G12 : FnOk l.prog w K mg base CX0 1 f12 _ ["_law_script", "_law_k"] (spCell K) := ok_cell F12 B
  have G13 : FnOk l.prog w K mg base CX0 1 f13 _ ["_law_cell", "_law_many"] spDraws := ok_draws F13 B
  have G14 : FnOk l.prog w K mg base CX0 2 f14 _ ["_law_cell"] spMake := ok_make F14 B G13 k13 b13 M13
  have G15 : FnOk l.prog w K mg base CX0 1 f15 _ ["_law_work_here", "_law_by"] spMoved := ok_moved F15 B
  have G1 : FnOk l.prog w K mg base CX0 1 f1 _ ["thing"] spWhole := ok_whole F1 B
  have G11 : FnOk l.prog w K mg base CX0 5 f11 _ ["work", "place"] spHas := ok_has F11 B G4 k4 b4 M4 (G1.mono (by decide)) k1 b1 M1
  have G16 : FnOk l.prog w K mg base CX0 1 f16 _ ["_law_work_here"] spPlaces := ok_places F16 B
  have G17 : FnOk l.prog w K mg base CX0 2 f17 _ ["_law_work_here", "_law_places_here"] spIsShort := ok_isshort F17 B G16 k16 b16 M16
  exact ok_law F18 B (G12.mono (by decide)) k12 b12 M12 (G13.mono (by decide)) k13 b13 M13 (G14.mono (by decide)) k14 b14 M14 (G15.mono (by decide)) k15 b15 M15 (G11.mono (by decide)) k11 b11 M11 (G16.mono (by decide)) k16 b16 M16 (G17.mono (by decide)) k17 b17 M17 (G7.mono (by decide)) k7 b7 M7 G8 k8 b8 M8 (G9.mono (by decide)) k9 b9 M9 ((st_of G6).mono (by decide)) k6 b6 M6 (G10.mono (by decide)) k10 b10 M10
theorem walk {l : OpenLaw} {q : Program} {loose : List Str} {XP : (Str → Option Value) → Heap → Prop} {YP : World → Heap → Prop} {d : DefRec} {K : Params → Frag} (hn : l.most = some 63) (hdf : d.params.defaults = [])
    (hY : ∀ (w : World) (h : Heap), YP w h → (K w.params).In h)
    (F : ∀ (w : World) (mg : Str → Option Value) (fa : Addr) (h : Heap), (K w.params).In h → h.Ns mainGlobals mg → mg d.name = some (.ref fa) →
      ∃ fd : FuncData, (∀ (s : Shared) (u : Value), BindsTo s fd ⟨[u], []⟩ [("_law_script", u)]) ∧ ∀ base : Heap, (K w.params).In base → base.Ns mainGlobals mg → FnOk l.prog w (K w.params) mg base CX0 8 fa fd ["_law_script"] (spLaw (K w.params))) :
    WalkO q loose XP YP l.row.toRowW d [] (fun f vs => PySem.call f vs) :=
  L2.walk_of (n := 63) (k := 8) (x := "_law_script") (CX := fun _ => CX0) (sp := fun w => spLaw (K w.params)) hn (by decide) hdf ⟨rfl, by decide, by decide⟩ hY F (fun _ _ a ns hl _ hS => ⟨a, ns, rfl, hS, hl, fun _ => rfl⟩) fun _ _ _ _ _ z => z
end Lw
open PySem PySem.W PyProof.Rows
set_option maxRecDepth 100000 in
set_option maxHeartbeats 0 in
theorem PySem.Challenge.cw_lentwork_k02_places_of_works_holds : PySem.Challenge.rw_lentwork_k02_places_of_works.Holds := by
  w_on; o_law; k_head; (case hw => w_witness2)
  k_fill
  refine Lw.walk (l := PySem.Challenge.rw_lentwork_k02_places_of_works) rfl rfl (fun w h Y => PySem.W.kIn_of Y) ?F
  case F =>
    intro w mg fa h KX G hmg
    refine' Lw.all_mk KX G hmg ?a1 ?l1 ?c1 ?k1 ?a2 ?l2 ?c2 ?k2 ?a3 ?l3 ?c3 ?k3 ?a4 ?l4 ?c4 ?k4 ?a5 ?l5 ?c5 ?k5 ?a6 ?l6 ?c6 ?k6 ?a7 ?l7 ?c7 ?k7 ?a8 ?l8 ?c8 ?k8 ?a9 ?l9 ?c9 ?k9 ?a10 ?l10 ?c10 ?k10 ?a11 ?l11 ?c11 ?k11 ?a12 ?l12 ?c12 ?k12 ?a13 ?l13 ?c13 ?k13 ?a14 ?l14 ?c14 ?k14 ?a15 ?l15 ?c15 ?k15 ?a16 ?l16 ?c16 ?k16 ?a17 ?l17 ?c17 ?k17 ?a18 ?l18 ?c18 ?k18 ?z0 ?z1 ?z2 ?z3 ?z4 ?z5 ?z6 ?z7 ?z8 ?z9 ?z10 ?z11 ?z12
    (case a1 => k_is)
    (case l1 => k_is)
    (case c1 => k_is)
    (case k1 => k_is)
    (case a2 => k_is)
    (case l2 => k_is)
    (case c2 => k_is)
    (case k2 => k_is)
    (case a3 => k_is)
    (case l3 => k_is)
    (case c3 => k_is)
    (case k3 => k_is)
    (case a4 => k_is)
    (case l4 => k_is)
    (case c4 => k_is)
    (case k4 => k_is)
    (case a5 => k_is)
    (case l5 => k_is)
    (case c5 => k_is)
    (case k5 => k_is)
    (case a6 => k_is)
    (case l6 => k_is)
    (case c6 => k_is)
    (case k6 => k_is)
    (case a7 => k_is)
    (case l7 => k_is)
    (case c7 => k_is)
    (case k7 => k_is)
    (case a8 => k_is)
    (case l8 => k_is)
    (case c8 => k_is)
    (case k8 => k_is)
    (case a9 => k_is)
    (case l9 => k_is)
    (case c9 => k_is)
    (case k9 => k_is)
    (case a10 => k_is)
    (case l10 => k_is)
    (case c10 => k_is)
    (case k10 => k_is)
    (case a11 => k_is)
    (case l11 => k_is)
    (case c11 => k_is)
    (case k11 => k_is)
    (case a12 => k_is)
    (case l12 => k_is)
    (case c12 => k_is)
    (case k12 => k_is)
    (case a13 => k_is)
    (case l13 => k_is)
    (case c13 => k_is)
    (case k13 => k_is)
    (case a14 => k_is)
    (case l14 => k_is)
    (case c14 => k_is)
    (case k14 => k_is)
    (case a15 => k_is)
    (case l15 => k_is)
    (case c15 => k_is)
    (case k15 => k_is)
    (case a16 => k_is)
    (case l16 => k_is)
    (case c16 => k_is)
    (case k16 => k_is)
    (case a17 => k_is)
    (case l17 => k_is)
    (case c17 => k_is)
    (case k17 => k_is)
    (case a18 => k_is)
    (case l18 => k_is)
    (case c18 => k_is)
    (case k18 => k_is)
    (case z0 => k_is)
    (case z1 => k_is)
    (case z2 => k_is)
    (case z3 => k_is)
    (case z4 => k_is)
    (case z5 => k_is)
    (case z6 => k_is)
    (case z7 => k_is)
    (case z8 => k_is)
    (case z9 => k_is)
    (case z10 => k_is)
    (case z11 => k_is)
    (case z12 => k_is)

