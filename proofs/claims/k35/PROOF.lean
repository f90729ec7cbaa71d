import PyProof.Rows.All
import Wide.All
import OpenK.AllK
import Wide.FinOn
import Lean
import PyProof.EqAt
import PyProof.EqKinds
import PyProof.TupleCall
import PySem.Challenge.RW_lentwork_k35_books_read
set_option Elab.async false
set_option linter.all false
set_option maxRecDepth 100000
/-! THE HAND LAYER, for ints, bools, texts, own classes, LISTS and tuples (index, slices, in, append, pop ..), calls, loops. Paste it whole ahead of your own text; what your proof does not reach may be deleted. -/
namespace L2
open PySem PySem.Spec PyProof.Rows

/-- a key: an int or a str -/
abbrev Key := Sum Int Str
def keyIs : Key → Value → Bool
  | .inl k, v => Value.isInt k v
  | .inr x, v => Value.isStrOf x v
def keyH (w : World) : Key → Int
  | .inl k => hashInt k
  | .inr x => hashStr w x
theorem keyIs_shape : ∀ {k : Key} {v : Value}, keyIs k v = true → (∃ i t, k = Sum.inl i ∧ v = Value.int i t) ∨ (∃ x t, k = Sum.inr x ∧ v = Value.str x t)
  | .inl i, v, h => by
    obtain ⟨t, e⟩ := Value.isInt_shape (k := i) (v := v) h
    exact .inl ⟨i, t, rfl, e⟩
  | .inr x, v, h => by
    obtain ⟨t, e⟩ := Value.isStrOf_shape (x := x) (v := v) h
    exact .inr ⟨x, t, rfl, e⟩
theorem key_ll (a b : Int) : decide ((Sum.inl a : Key) = Sum.inl b) = (a == b) := by
  by_cases e : a = b
  · subst e; simp
  · have h : ¬ (Sum.inl a : Key) = Sum.inl b := fun q => e (Sum.inl.inj q)
    rw [decide_eq_false h]
    exact (beq_eq_false_iff_ne.mpr e).symm
theorem key_rr (a b : Str) : decide ((Sum.inr a : Key) = Sum.inr b) = decide (a = b) := by
  by_cases e : a = b
  · subst e; simp
  · have h : ¬ (Sum.inr a : Key) = Sum.inr b := fun q => e (Sum.inr.inj q)
    rw [decide_eq_false h, decide_eq_false e]
theorem key_lr (a : Int) (b : Str) : decide ((Sum.inl a : Key) = Sum.inr b) = false := decide_eq_false (fun q => nomatch q)
theorem key_rl (a : Str) (b : Int) : decide ((Sum.inr a : Key) = Sum.inl b) = false := decide_eq_false (fun q => nomatch q)

def mixKind (prog : Program) (w : World) : PySem.KeyKind prog w Key where
  is := keyIs
  hash := keyH w
  inj := fun v a b ha hb => by
    rcases keyIs_shape ha with ⟨i, t, rfl, rfl⟩ | ⟨x, t, rfl, rfl⟩
    · rcases keyIs_shape hb with ⟨j, u, rfl, e⟩ | ⟨y, u, rfl, e⟩
      · injection e with e1 _; rw [e1]
      · exact nomatch e
    · rcases keyIs_shape hb with ⟨j, u, rfl, e⟩ | ⟨y, u, rfl, e⟩
      · exact nomatch e
      · injection e with e1 _; rw [e1]
  byValue := fun k v h => by
    rcases keyIs_shape h with ⟨i, t, rfl, rfl⟩ | ⟨x, t, rfl, rfl⟩ <;> rfl
  pyHash := fun hv h => by
    rcases keyIs_shape hv with ⟨i, t, rfl, rfl⟩ | ⟨x, t, rfl, rfl⟩
    · exact wpAny_pyHash_int h
    · exact wpAny_pyHash_str h
  eqBool := fun hu hv h => by
    rcases keyIs_shape hu with ⟨i, t, rfl, rfl⟩ | ⟨x, t, rfl, rfl⟩
    · rcases keyIs_shape hv with ⟨j, u, rfl, rfl⟩ | ⟨y, u, rfl, rfl⟩
      · rw [key_ll] at h; exact wpAny_eqBool_int h
      · rw [key_lr] at h; exact SeqAt.EqAt.int_str i t y u _ _ _ _ h
    · rcases keyIs_shape hv with ⟨j, u, rfl, rfl⟩ | ⟨y, u, rfl, rfl⟩
      · rw [key_rl] at h; exact SeqAt.EqAt.str_int x t j u _ _ _ _ h
      · rw [key_rr] at h; exact wpAny_eqBool_str h
  «strs» := fun k x t v h => by
    rcases keyIs_shape h with ⟨i, u, rfl, e⟩ | ⟨y, u, rfl, e⟩
    · exact nomatch e
    · injection e with e1 _
      subst e1
      cases v <;> rfl

end L2

namespace L2
open PySem PySem.Spec PyProof.Rows

/-- a value, without the heap -/
inductive V where
  | non | bl (b : Bool) | int (i : Int) | str (x : Str) | byt (b : Array UInt8) | flt (b : UInt64) | ref (a : Addr) | ty (n : String)
  deriving DecidableEq

def RelV : V → Value → Prop
  | .non, u => u = Value.none
  | .bl b, u => u = Value.bool b
  | .int i, u => ∃ t, u = Value.int i t
  | .str x, u => ∃ t, u = Value.str x t
  | .byt b, u => ∃ t, u = Value.bytes b t
  | .flt b, u => ∃ t, u = Value.float b t
  | .ref a, u => u = Value.ref a
  | .ty n, u => u = Value.type n

abbrev Vals : List V → List Value → Prop := Paired RelV
theorem Vals.length {xs : List V} {us : List Value} (r : Vals xs us) : xs.length = us.length := Paired.length r
theorem Vals.get : ∀ {xs : List V} {us : List Value} {i : Nat} {x : V}, Vals xs us → xs[i]? = some x → ∃ u, us[i]? = some u ∧ RelV x u
  | _, _, _, _, .nil, e => by simp at e
  | _, _, 0, _, .cons r _, e => by simp at e; subst e; exact ⟨_, rfl, r⟩
  | _, _, i + 1, x, .cons _ t, e => by
    obtain ⟨u, h1, h2⟩ := Vals.get (i := i) (x := x) t (by simpa using e)
    exact ⟨u, by simpa using h1, h2⟩
theorem Vals.set {x : V} {u : Value} (r : RelV x u) : ∀ {xs : List V} {us : List Value} (i : Nat), Vals xs us → Vals (xs.set i x) (us.set i u)
  | _, _, _, .nil => .nil
  | _, _, 0, .cons _ t => .cons r t
  | _, _, i + 1, .cons q t => .cons q (Vals.set r i t)
theorem Vals.append : ∀ {xs ys : List V} {us ws : List Value}, Vals xs us → Vals ys ws → Vals (xs ++ ys) (us ++ ws)
  | _, _, _, _, .nil, s => s
  | _, _, _, _, .cons r t, s => .cons r (Vals.append t s)
theorem Vals.take : ∀ {xs : List V} {us : List Value} (n : Nat), Vals xs us → Vals (xs.take n) (us.take n)
  | _, _, 0, _ => .nil
  | _, _, _ + 1, .nil => .nil
  | _, _, n + 1, .cons r t => .cons r (Vals.take n t)
theorem Vals.drop : ∀ {xs : List V} {us : List Value} (n : Nat), Vals xs us → Vals (xs.drop n) (us.drop n)
  | _, _, 0, r => r
  | _, _, _ + 1, .nil => .nil
  | _, _, n + 1, .cons _ t => Vals.drop n t

def RelO : Option V → Option Value → Prop
  | some v, some u => RelV v u
  | none, none => True
  | _, _ => False
def KV {κ : Type} : List (κ × V) → List (κ × Value) → Prop := Paired fun (p : κ × V) (q : κ × Value) => p.1 = q.1 ∧ RelV p.2 q.2

/-- a key of a dict (00_mix): an int or a text -/
def kV : Key → V
  | .inl i => .int i
  | .inr x => .str x

/-- what stands at a tracked address -/
inductive HO where
  /-- a list -/
  | lst (xs : List V)
  /-- a tuple (never changes) -/
  | tup (xs : List V)
  /-- a dict whose keys are ints and texts; one whose keys are tuples of ints and texts (the empty one is both) -/
  | dK (kvs : List (Key × V)) | dT (kvs : List (List Key × V))
  /-- a set of ints: its members, its size -/
  | set (S : Int → Bool) (n : Nat)
  /-- an instance of the class at C, its dict at dx, its attributes -/
  | ins (C dx : Addr) (fs : List (Str × V))
  /-- the dict of the instance at x -/
  | own (x : Addr)
  /-- the dict of an exception -/
  | xd (fs : List (Str × V))
  /-- a bound method, f of x -/
  | met (f x : Addr)
  /-- a range object lo, lo + 1, .. below hi -/
  | rng (lo hi : Int)
  /-- a thing that is known to the object (the script; a dict while a loop walks it): read, never written while it is so -/
  | frz (o : Obj) (u : HO)
  /-- a code object's table -/
  | tbl (ps : Array Value)
  /-- any other thing, by what is true of its one object (a def of one's own: SetO a S n := HO.ext fun h => ..) -/
  | ext (φ : Heap → Prop)

abbrev Hp := Addr → Option HO
def upd (H : Hp) (a : Addr) (o : HO) : Hp := fun b => if b = a then some o else H b
theorem upd_same {H : Hp} {a : Addr} {o : HO} : upd H a o a = some o := by unfold upd; rw [if_pos rfl]
theorem upd_ne {H : Hp} {a b : Addr} {o : HO} (h : b ≠ a) : upd H a o b = H b := by unfold upd; rw [if_neg h]
/-- two objects of different content stand apart -/
theorem ne_of {H : Hp} {a b : Addr} {o u : HO} (h : H a = some o) (h' : H b = some u) (d : o ≠ u) : a ≠ b := by
  intro e; subst e; rw [h] at h'; exact d (Option.some.inj h')
theorem ne_of_none {H : Hp} {a b : Addr} {o : HO} (h : H a = some o) (h' : H b = none) : a ≠ b := by
  intro e; subst e; rw [h] at h'; cases h'

section
variable (P : Program) (w : World)
def ObjOk (H : Hp) (h : Heap) (a : Addr) : HO → Prop
  | .lst xs => xs.length ≤ sizeLine ∧ ∃ (its : List Value) (n : Nat), Vals xs its ∧ h.get? a = some { cls := .type "list", data := .seq its.toArray n }
  | .tup xs => xs.length ≤ sizeLine ∧ ∃ its : List Value, Vals xs its ∧ IsTup h a its.toArray
  | .dK kvs => kvs.length ≤ sizeLine ∧ (a == sysModules) = false ∧ ∃ vs, KV kvs vs ∧ h.DictOf (mixKind P w) a vs
  | .dT kvs => kvs.length ≤ sizeLine ∧ (a == sysModules) = false ∧ ∃ xs : List (List Key × Addr × Value),
      Paired (fun (p : List Key × V) (q : List Key × Addr × Value) => p.1 = q.1 ∧ H q.2.1 = some (.tup (p.1.map kV)) ∧ RelV p.2 q.2.2) kvs xs ∧
      ∃ o es ep, h.get? a = some o ∧ o.ExactDict ∧ o.data = .dict es ep ∧ es.toList = xs.map (entryOfKey (tupleKind (mixKind P w))) ∧ (xs.map (·.1)).Nodup
  | .set S n => h.SetOf (intKind P w) a S n
  | .ins C dx fs => H dx = some (.own a) ∧ fs.length ≤ 1000 ∧ dx ≠ a ∧ h.get? a = some (PySem.W.instObj C dx) ∧
      ∃ mA, h.Ns1 dx mA ∧ (∀ f, RelO (fs.lookup f) (mA f)) ∧ PySem.Within mA (fs.map (·.1))
  | .own _ => ∃ o, h.get? a = some o
  | .xd fs => ∃ mA, h.Ns1 a mA ∧ ∀ f, RelO (fs.lookup f) (mA f)
  | .rng lo hi => ∃ t u v, h.get? a = some { cls := .type "range", data := .fields #[.int lo t, .int hi u, .int 1 v] }
  | .frz o u => h.get? a = some o ∧ ObjOk H h a u
  | .tbl ps => h.get? a = some { cls := .none, data := .fields ps }
  | .met f x => h.get? a = some (PySem.W.methodObj (.ref f) (.ref x))
  | .ext φ => φ h ∧ (∃ o, h.get? a = some o) ∧ ∀ h1 h2 : Heap, φ h1 → (∀ o, h1.get? a = some o → h2.get? a = some o) → φ h2
/-- the abstract heap is held -/
def HOk (H : Hp) (h : Heap) : Prop := ∀ a o, H a = some o → ObjOk P w H h a o
end

section
variable {P : Program} {w : World} {H H' : Hp} {h h' : Heap} {a : Addr} {o : HO}
theorem ObjOk.lt (x : ObjOk P w H h a o) : a < h.objs.size := by
  cases o with
  | lst xs => obtain ⟨_, _, _, _, e⟩ := x; exact Heap.lt_size e
  | tup xs => obtain ⟨_, _, _, p⟩ := x; exact p.lt
  | dK kvs => obtain ⟨_, _, _, _, o, _, _, e, _⟩ := x; exact Heap.lt_size e
  | dT kvs => obtain ⟨_, _, _, _, o, _, _, e, _⟩ := x; exact Heap.lt_size e
  | set S n => obtain ⟨o, _, _, _, e, _⟩ := x; exact Heap.lt_size e
  | ins C dx fs => obtain ⟨_, _, _, e, _⟩ := x; exact Heap.lt_size e
  | own y => obtain ⟨_, e⟩ := x; exact Heap.lt_size e
  | xd fs => obtain ⟨_, ⟨_, _, _, e, _⟩, _⟩ := x; exact Heap.lt_size e
  | rng lo hi => obtain ⟨_, _, _, e⟩ := x; exact Heap.lt_size e
  | frz ob u => obtain ⟨e, _⟩ := x; exact Heap.lt_size e
  | tbl ps => exact Heap.lt_size (show h.get? a = some _ from x)
  | met f y => exact Heap.lt_size (show h.get? a = some _ from x)
  | ext φ => obtain ⟨_, ⟨_, e⟩, _⟩ := x; exact Heap.lt_size e
theorem Paired.mapP {α β : Type} {F G : α → β → Prop} : ∀ {l₁ : List α} {l₂ : List β}, Paired F l₁ l₂ → (∀ a b, F a b → G a b) → Paired G l₁ l₂
  | _, _, .nil, _ => .nil
  | _, _, .cons r t, f => .cons (f _ _ r) (Paired.mapP t f)
/-- what an object's description leans on: its own object, its own dict, the tuples -/
theorem ObjOk.stay (x : ObjOk P w H h a o) (k : ∀ b u, (b = a ∨ H b = some (.own a)) → h.get? b = some u → h'.get? b = some u)
    (ho : ∀ b, H b = some (.own a) → H' b = some (.own a)) (ht : ∀ b xs, H b = some (.tup xs) → H' b = some (.tup xs)) : ObjOk P w H' h' a o := by
  induction o with
  | lst xs => obtain ⟨z, its, n, r, e⟩ := x; exact ⟨z, its, n, r, k _ _ (.inl rfl) e⟩
  | tup xs => obtain ⟨z, its, r, ob, e, c⟩ := x; exact ⟨z, its, r, ob, k _ _ (.inl rfl) e, c⟩
  | dK kvs => obtain ⟨z, y, vs, r, ob, es, ep, e, c⟩ := x; exact ⟨z, y, vs, r, ob, es, ep, k _ _ (.inl rfl) e, c⟩
  | dT kvs =>
    obtain ⟨z, y, xs, r, ob, es, ep, e, c⟩ := x
    exact ⟨z, y, xs, Paired.mapP r fun p q z => ⟨z.1, ht _ _ z.2.1, z.2.2⟩, ob, es, ep, k _ _ (.inl rfl) e, c⟩
  | set S n => obtain ⟨ob, es, ep, t, e, c⟩ := x; exact ⟨ob, es, ep, t, k _ _ (.inl rfl) e, c⟩
  | ins C dx fs =>
    obtain ⟨d, z, ne, e, mA, ⟨od, es, ep, e2, c⟩, r⟩ := x
    exact ⟨ho _ d, z, ne, k _ _ (.inl rfl) e, mA, ⟨od, es, ep, k _ _ (.inr d) e2, c⟩, r⟩
  | own y => obtain ⟨ob, e⟩ := x; exact ⟨ob, k _ _ (.inl rfl) e⟩
  | xd fs => obtain ⟨mA, ⟨od, es, ep, e, c⟩, r⟩ := x; exact ⟨mA, ⟨od, es, ep, k _ _ (.inl rfl) e, c⟩, r⟩
  | rng lo hi => obtain ⟨t, u, v, e⟩ := x; exact ⟨t, u, v, k _ _ (.inl rfl) e⟩
  | frz ob u ih => obtain ⟨e, q⟩ := x; exact ⟨k _ _ (.inl rfl) e, ih q⟩
  | tbl ps =>
    have e : h.get? a = some { cls := .none, data := .fields ps } := x
    show h'.get? a = some { cls := .none, data := .fields ps }
    exact k a _ (.inl rfl) e
  | met f y =>
    have e : h.get? a = some (PySem.W.methodObj (.ref f) (.ref y)) := x
    show h'.get? a = some (PySem.W.methodObj (.ref f) (.ref y))
    exact k a _ (.inl rfl) e
  | ext φ => obtain ⟨p, ⟨o, e⟩, st⟩ := x; exact ⟨st _ _ p fun o q => k _ _ (.inl rfl) q, ⟨o, k _ _ (.inl rfl) e⟩, st⟩
theorem HOk.lt (x : HOk P w H h) (e : H a = some o) : a < h.objs.size := (x a o e).lt
theorem HOk.fresh (x : HOk P w H h) (e : h.objs.size ≤ a) : H a = none := by
  cases q : H a with
  | none => rfl
  | some u => exact absurd (Nat.lt_of_lt_of_le (x.lt q) e) (Nat.lt_irrefl _)
/-- every object of the heap is kept -/
theorem HOk.kept (x : HOk P w H h) (k : ∀ b u, h.get? b = some u → h'.get? b = some u) : HOk P w H h' := fun a o e =>
  (x a o e).stay (fun b u _ q => k b u q) (fun _ q => q) fun _ _ q => q
/-- a new object is laid and tracked -/
theorem HOk.laid (x : HOk P w H h) (k : ∀ b u, h.get? b = some u → h'.get? b = some u) (hp : h.objs.size ≤ a) (new : ObjOk P w (upd H a o) h' a o) : HOk P w (upd H a o) h' := fun b u e => by
  have hn := x.fresh hp
  by_cases hb : b = a
  · subst hb; rw [upd_same] at e; cases e; exact new
  · rw [upd_ne hb] at e
    exact (x b u e).stay (fun c v _ q => k c v q) (fun c q => by rw [upd_ne (ne_of_none q hn)]; exact q) fun c xs q => by rw [upd_ne (ne_of_none q hn)]; exact q
end

/-- what may be read as u: it is u, or a known u -/
def Rd (H : Hp) (a : Addr) (u : HO) : Prop := H a = some u ∨ ∃ o, H a = some (.frz o u)
theorem Rd.ok {P : Program} {w : World} {H : Hp} {h : Heap} {a : Addr} {u : HO} (r : Rd H a u) (x : HOk P w H h) : ObjOk P w H h a u := by
  rcases r with r | ⟨o, r⟩
  · exact x a u r
  · obtain ⟨_, q⟩ := x a _ r
    exact q
/-- what may be written -/
def Mut : Option HO → Prop
  | some (.lst _) => True
  | some (.dK _) => True
  | some (.dT _) => True
  | some (.set _ _) => True
  | some (.ins _ _ _) => True
  | some (.ext _) => True
  | _ => False
section
variable {P : Program} {w : World} {H : Hp} {h h' : Heap} {x e : Addr} {o' : HO}
/-- the object at e is changed: x itself, or the dict of the instance x -/
theorem HOk.write (ok : HOk P w H h) (mu : Mut (H x)) (he : e = x ∨ H e = some (.own x)) (k : ∀ b u, b ≠ e → h.get? b = some u → h'.get? b = some u) (heo : ∃ u, h'.get? e = some u)
    (new : ObjOk P w (upd H x o') h' x o') : HOk P w (upd H x o') h' := fun b u q => by
  have nown : ∀ c y, H c = some (.own y) → c ≠ x := fun c y r z => by subst z; rw [r] at mu; exact mu
  have ntup : ∀ c xs, H c = some (.tup xs) → c ≠ x := fun c xs r z => by subst z; rw [r] at mu; exact mu
  by_cases hb : b = x
  · subst hb; rw [upd_same] at q; cases q; exact new
  · rw [upd_ne hb] at q
    by_cases hbe : b = e
    · have q' : H b = some (.own x) := by
        rcases he with z | z
        · exact absurd (hbe.trans z) hb
        · rw [hbe]; exact z
      rw [q] at q'; cases q'
      obtain ⟨v, hv⟩ := heo
      exact ⟨v, by rw [hbe]; exact hv⟩
    · refine (ok b u q).stay (fun c v hc r => k c v ?_ r) (fun c r => by rw [upd_ne (nown c b r)]; exact r) fun c xs r => by rw [upd_ne (ntup c xs r)]; exact r
      rcases hc with rfl | hc
      · exact hbe
      · rintro rfl
        rcases he with z | z
        · exact nown c b hc z
        · rw [hc] at z; cases z; exact hb rfl
end

/-! ### kept unless tracked; of the frames at fs (the callers') the slots may change (an exception that passes writes there); of the records at ex (iterators) nothing is said -/
structure Un (fs ex : List Addr) (H H' : Hp) (h h' : Heap) : Prop where
  keep : ∀ b o, h.get? b = some o → H b = none → b ∉ fs → b ∉ ex → h'.get? b = some o
  slot : ∀ b o, h.get? b = some o → H b = none → b ∈ fs → b ∉ ex → ∃ sl, h'.get? b = some { o with slots := sl }
  free : ∀ b o, h.get? b = some o → H b = none → b ∉ ex → H' b = none
  there : ∀ b o, h.get? b = some o → b ∉ ex → ∃ o', h'.get? b = some o'
  tups : ∀ b xs, H b = some (.tup xs) → H' b = some (.tup xs)
  frzs : ∀ b o u, H b = some (.frz o u) → H' b = some (.frz o u)
  tbls : ∀ b ps, H b = some (.tbl ps) → ∃ more, H' b = some (.tbl (ps ++ more))
section
variable {fs fs' ex ex' : List Addr} {H H1 H2 : Hp} {h h1 h2 h' : Heap} {a x e : Addr} {o : HO}
theorem Un.any (u : Un fs ex H H1 h h1) {b : Addr} {ob : Obj} (q : h.get? b = some ob) (n : H b = none) (hx : b ∉ ex) : ∃ sl, h1.get? b = some { ob with slots := sl } := by
  by_cases hb : b ∈ fs
  · exact u.slot b ob q n hb hx
  · exact ⟨ob.slots, u.keep b ob q n hb hx⟩
theorem Un.kept (k : ∀ b u, h.get? b = some u → h'.get? b = some u) : Un fs ex H H h h' :=
  ⟨fun b ob q _ _ _ => k b ob q, fun b ob q _ _ _ => ⟨ob.slots, k b ob q⟩, fun _ _ _ n _ => n, fun b ob q _ => ⟨ob, k b ob q⟩, fun _ _ q => q, fun _ _ _ q => q, fun _ ps q => ⟨#[], by rw [q]; simp⟩⟩
theorem Un.refl : Un fs ex H H h h := Un.kept fun _ _ q => q
theorem Un.laid (k : ∀ b u, h.get? b = some u → h'.get? b = some u) (hp : h.objs.size ≤ a) (hn : H a = none) : Un fs ex H (upd H a o) h h' where
  keep := fun b u q _ _ _ => k b u q
  slot := fun b u q _ _ _ => ⟨u.slots, k b u q⟩
  free := fun b u q n _ => by rw [upd_ne (Nat.ne_of_lt (Nat.lt_of_lt_of_le (Heap.lt_size q) hp))]; exact n
  there := fun b u q _ => ⟨u, k b u q⟩
  tups := fun b xs q => by rw [upd_ne (ne_of_none q hn)]; exact q
  frzs := fun b u xs q => by rw [upd_ne (ne_of_none q hn)]; exact q
  tbls := fun b ps q => ⟨#[], by rw [upd_ne (ne_of_none q hn), q]; simp⟩
theorem Un.write (mu : Mut (H x)) (he : e = x ∨ H e = some (.own x)) (k : ∀ b u, b ≠ e → h.get? b = some u → h'.get? b = some u) (heo : ∃ u, h'.get? e = some u) : Un fs ex H (upd H x o) h h' := by
  have hx : ∀ b, H b = none → b ≠ x := fun b n z => by subst z; rw [n] at mu; exact mu
  have hb : ∀ b, H b = none → b ≠ e := fun b n z => by
    subst z
    rcases he with r | r
    · exact hx b n r
    · rw [n] at r; cases r
  have hm : ∀ b u, H b = some u → ¬ Mut (some u) → b ≠ x := fun b u q nm z => by subst z; rw [q] at mu; exact nm mu
  refine ⟨fun b u q n _ _ => k b u (hb b n) q, fun b u q n _ _ => ⟨u.slots, k b u (hb b n) q⟩, fun b u q n _ => by rw [upd_ne (hx b n)]; exact n, fun b u q _ => ?_,
    fun b xs q => by rw [upd_ne (hm b _ q fun z => z)]; exact q, fun b u xs q => by rw [upd_ne (hm b _ q fun z => z)]; exact q, fun b ps q => ⟨#[], by rw [upd_ne (hm b _ q fun z => z), q]; simp⟩⟩
  by_cases hbe : b = e
  · subst hbe; exact heo
  · exact ⟨u, k b u hbe q⟩
end

/-! ### the heap without what is tracked -/
def trk (h : Heap) (H : Hp) : List Addr := (List.range h.objs.size).filter fun a => (H a).isSome
def hidT (h : Heap) (H : Hp) : Heap := PySem.W.hideAll h (trk h H)
theorem hidT_size (h : Heap) (H : Hp) : (hidT h H).objs.size = h.objs.size := PySem.W.hideAll_size _ _
theorem hidT_get {h : Heap} {H : Hp} {b : Addr} {o : Obj} (e : h.get? b = some o) (n : H b = none) : (hidT h H).get? b = some o :=
  PySem.W.hideAll_get _ e fun hm => by
    have q : (H b).isSome = true := (List.mem_filter.mp hm).2
    rw [n] at q; simp at q
theorem of_hidT {h : Heap} {H : Hp} {b : Addr} {o : Obj} (e : (hidT h H).get? b = some o) : h.get? b = some o ∧ H b = none := by
  have e' : h.get? b = some o := PySem.W.of_hideAll (trk h H) e
  refine ⟨e', ?_⟩
  cases q : H b with
  | none => rfl
  | some x =>
    have hm : b ∈ trk h H := List.mem_filter.mpr ⟨List.mem_range.mpr (Heap.lt_size e'), by simp [q]⟩
    have z : (hidT h H).get? b = none := PySem.W.hideAll_none (trk h H) hm
    rw [z] at e; cases e

/-! ### OpenK's ledger, filled with every new object but one -/
def allNews (g h : Heap) (L : Addr) : List (Addr × Obj) := (List.range h.objs.size).filterMap fun a => if a = L ∨ (g.get? a).isSome = true then none else (h.get? a).map fun o => (a, o)
theorem mem_allNews {g h : Heap} {L a : Addr} {o : Obj} (h1 : a ≠ L) (h2 : g.get? a = none) (h3 : h.get? a = some o) : (a, o) ∈ allNews g h L :=
  List.mem_filterMap.mpr ⟨a, List.mem_range.mpr (Heap.lt_size h3), by simp [h1, h2, h3]⟩
theorem of_mem_allNews {g h : Heap} {L : Addr} {p : Addr × Obj} (hp : p ∈ allNews g h L) : p.1 ≠ L ∧ g.get? p.1 = none ∧ h.get? p.1 = some p.2 := by
  obtain ⟨b, _, e⟩ := List.mem_filterMap.mp hp
  split at e
  · cases e
  · rename_i hn
    cases q : h.get? b with
    | none => rw [q] at e; simp at e
    | some u =>
      rw [q] at e
      simp only [Option.map_some, Option.some.injEq] at e
      subst e
      refine ⟨fun z => hn (.inl z), ?_, q⟩
      show g.get? b = none
      cases r : g.get? b with
      | none => rfl
      | some v => exact (hn (.inr (by simp [r]))).elim
theorem news_all {g h : Heap} {L : Addr} : News g L h (allNews g h L) := fun p hp => let ⟨a, b, c⟩ := of_mem_allNews hp; ⟨c, a, b⟩
end L2

namespace L2
open PySem PySem.Spec PyProof.Rows

/-- the module's facts, over the base: the heap at the law's entry without what is tracked there -/
structure Mod (K : PySem.W.Frag) (mg : Str → Option Value) (base : Heap) : Prop where
  kin : K.In base
  glob : base.Ns mainGlobals mg
  blt : ∃ mb, base.Ns builtinsNs mb ∧ ∀ x : Str, x ≠ "__name__" → mb x = bootBuiltins x
  nolimit : base.NoLimit

/-- the context: a def's body (or a comprehension's block) running. base: fixed through the whole law; s₀, H₀: the entry; outer: the frames whose slots others may change (a def's callers); stack: all frames that run;
   ex: iterators that were made ahead of the entry and are walked here (a comprehension's); fn: the names whose cells were made at the entry (a def: all; a comprehension's block: its own); calm: not within an except suite; pn: pins that every state bears; xe: what is wanted of an exception that leaves the code -/
structure Cx where
  prog : Program
  w : World
  K : PySem.W.Frag
  mg : Str → Option Value
  base : Heap
  A : Around
  N : List Str
  s₀ : Shared
  H₀ : Hp
  env : Env
  outer : List Env
  stack : List Env
  ex : List Addr
  fn : Str → Bool
  calm : Bool
  pn : List (Addr × Obj)
  xe : Value → Shared → Prop
/-- the callers' frames -/
def frs (l : List Env) : List Addr := l.filterMap (·.frame)
abbrev Cx.fs (X : Cx) : List Addr := frs X.outer

def Vis (sc : Scope) (x : Str) : Prop := sc.names.lookup x = some .local ∨ sc.names.lookup x = some .cell ∨ sc.names.lookup x = some .free
def Loc (sc : Scope) (x : Str) : Prop := sc.names.lookup x = some .local ∨ sc.names.lookup x = some .cell
def Look (env : Env) (h : Heap) (m : Str → Option Value) (x : Str) (u : Value) : Prop :=
  (env.kindOf x = some .local ∧ m x = some u) ∨ ((env.kindOf x = some .cell ∨ env.kindOf x = some .free) ∧ ∃ c, env.cells.lookup x = some c ∧ h.IsCell c (some u))

structure Cx.Ok (X : Cx) : Prop where
  mod : Mod X.K X.mg X.base
  kind : X.env.scope.kind = .function
  glob : X.env.globals = mainGlobals
  blt : X.env.builtins = builtinsNs
  above : X.s₀.heap.objs.size ≤ X.env.locals
  inj : ∀ x y c, X.env.cells.lookup x = some c → X.env.cells.lookup y = some c → x = y
  has : ∀ x, (X.env.kindOf x = some .cell ∨ X.env.kindOf x = some .free) → ∃ c, X.env.cells.lookup x = some c
  cab : ∀ x c, X.fn x = true → X.env.cells.lookup x = some c → X.s₀.heap.objs.size ≤ c
  hd : X.calm = true → X.A.handled = none
  frames : X.A.frames = some X.stack
  stk : X.stack = X.outer ∨ (X.stack = X.env :: X.outer ∧ X.env.frame = some X.env.locals)
  exf : ∀ b ∈ X.ex, b ≠ X.env.locals ∧ ∀ x c, X.env.cells.lookup x = some c → c ≠ b
  bs : ∀ b o, X.base.get? b = some o → X.s₀.heap.get? b = some o ∧ X.H₀ b = none
  bsz : X.base.objs.size ≤ X.s₀.heap.objs.size
  noex : ∀ b o, X.base.get? b = some o → b ∉ X.ex
  exfs : ∀ b ∈ X.ex, b ∉ X.fs
  funs : X.s₀.heap.FunFrames X.base X.outer
  frf : ∀ b ∈ X.fs, X.H₀ b = none

structure Inv (X : Cx) (pins : List (Addr × Obj)) (σ : List (Option V)) (H : Hp) (s : Shared) : Prop where
  ok : X.Ok
  os : s.os = X.s₀.os
  bare : AllBare s.gens
  base : Un X.fs X.ex X.H₀ H X.s₀.heap s.heap
  loc : ∃ m, s.heap.Ns X.env.locals m ∧ ∀ (i : Nat) (x : Str) (v : V), X.N[i]? = some x → σ[i]? = some (some v) → Vis X.env.scope x → ∃ u, RelV v u ∧ Look X.env s.heap m x u
  cell : ∀ x c, X.env.cells.lookup x = some c → ∃ v, s.heap.IsCell c v
  free : H X.env.locals = none
  freeC : ∀ x c, X.env.cells.lookup x = some c → H c = none
  pin : ∀ p ∈ X.pn ++ pins, s.heap.get? p.1 = some p.2 ∧ H p.1 = none ∧ p.1 ≠ X.env.locals ∧ p.1 ∉ X.fs ∧ ∀ v, p.2.data ≠ .cell v
  hok : HOk X.prog X.w H s.heap
  len : σ.length = X.N.length

section
variable {X : Cx} {pins : List (Addr × Obj)} {σ : List (Option V)} {H H' : Hp} {s : Shared} {h' : Heap}

theorem Cx.Ok.nofr (ok : X.Ok) {b : Addr} {o : Obj} (e : X.base.get? b = some o) : b ∉ X.fs := fun hb => by
  have := (ok.funs.mem hb).1
  rw [e] at this; cases this
theorem Inv.bs (I : Inv X pins σ H s) : ∀ b o, X.base.get? b = some o → s.heap.get? b = some o ∧ H b = none := fun b o e =>
  ⟨I.base.keep b o (I.ok.bs b o e).1 (I.ok.bs b o e).2 (I.ok.nofr e) (I.ok.noex b o e), I.base.free b o (I.ok.bs b o e).1 (I.ok.bs b o e).2 (I.ok.noex b o e)⟩
theorem Inv.bk (I : Inv X pins σ H s) : ∀ b o, X.base.get? b = some o → s.heap.get? b = some o := fun b o e => (I.bs b o e).1
theorem Inv.mod (I : Inv X pins σ H s) : Mod X.K X.mg X.base := I.ok.mod
theorem Inv.kIn (I : Inv X pins σ H s) : X.K.In s.heap := I.ok.mod.kin.keeps I.bk
/-- the frame over the base: for OpenK's rules (K.In X.base is I.mod.kin) -/
theorem Inv.fr (I : Inv X pins σ H s) : ∃ m, Fr X.base X.env.locals s.heap m :=
  let ⟨m, hn, _⟩ := I.loc
  ⟨m, hn, I.bk, Nat.le_trans I.ok.bsz I.ok.above⟩
theorem Inv.lt (I : Inv X pins σ H s) : X.env.locals < s.heap.objs.size := let ⟨_, hn, _⟩ := I.loc; hn.lt
theorem Inv.sz (I : Inv X pins σ H s) : X.s₀.heap.objs.size ≤ s.heap.objs.size := Nat.le_trans I.ok.above (Nat.le_of_lt I.lt)
theorem Inv.nofs (I : Inv X pins σ H s) {a : Addr} (h : s.heap.objs.size ≤ a) : a ∉ X.fs := fun hb => by
  obtain ⟨_, o, ho, _⟩ := I.ok.funs.mem hb
  exact absurd (Nat.lt_of_lt_of_le (Heap.lt_size ho) (Nat.le_trans I.sz h)) (Nat.lt_irrefl _)
theorem Inv.cne (I : Inv X pins σ H s) : ∀ x c, X.env.cells.lookup x = some c → c ≠ X.env.locals := fun x c e z => by
  obtain ⟨v, o, ho, hd⟩ := I.cell x c e
  obtain ⟨m, ⟨o', es, ep, ho', hd', _⟩, _⟩ := I.loc
  rw [z, ho'] at ho; cases ho; rw [hd'] at hd; cases hd
theorem Inv.funs (I : Inv X pins σ H s) : s.heap.FunFrames X.base X.outer := by
  have all : ∀ (l : List Env), (∀ b ∈ frs l, b ∈ X.fs) → X.s₀.heap.FunFrames X.base l → s.heap.FunFrames X.base l := by
    intro l
    induction l with
    | nil => intro _ _; trivial
    | cons env r ih =>
      intro hs hl
      obtain ⟨hk, ⟨L, o, hf, hn, ho, hd⟩, hr⟩ := hl
      have hL : L ∈ X.fs := hs L (by unfold frs; rw [List.filterMap_cons, hf]; exact List.mem_cons_self)
      obtain ⟨sl, e⟩ := I.base.slot L o ho (I.ok.frf L hL) hL fun z => I.ok.exfs L z hL
      exact ⟨hk, ⟨L, _, hf, hn, e, hd⟩, ih (fun b hb => hs b (by unfold frs; rw [List.filterMap_cons, hf]; exact List.mem_cons_of_mem _ hb)) hr⟩
  exact all X.outer (fun _ hb => hb) I.ok.funs

/-- the frames that run, for a call -/
theorem Inv.stack (I : Inv X pins σ H s) : s.heap.FunFrames X.base X.stack := by
  rcases I.ok.stk with e | ⟨e, hf⟩
  · rw [e]; exact I.funs
  · rw [e]
    obtain ⟨m, hn, _⟩ := I.loc
    refine .cons (by rw [I.ok.kind]; decide) hf hn ?_ I.funs
    exact Heap.get?_none_of_le (Nat.le_trans I.ok.bsz I.ok.above)
theorem Inv.stkSub (I : Inv X pins σ H s) : ∀ b ∈ frs X.stack, b ∈ X.env.locals :: X.fs := fun b hb => by
  rcases I.ok.stk with e | ⟨e, hf⟩
  · rw [e] at hb; exact List.mem_cons_of_mem _ hb
  · rw [e] at hb
    unfold frs at hb
    rw [List.filterMap_cons, hf] at hb
    exact hb
theorem Inv.stkFree (I : Inv X pins σ H s) : ∀ b ∈ frs X.stack, H b = none := fun b hb => by
  rcases List.mem_cons.mp (I.stkSub b hb) with e | hb
  · rw [e]; exact I.free
  · obtain ⟨_, o, ho, _⟩ := I.ok.funs.mem hb
    exact I.base.free b o ho (I.ok.frf b hb) fun z => I.ok.exfs b z hb

/-- THE STEP: the untracked objects but the frame and the records at ch are kept (the callers' frames up to slots), the frame's map is kept, the new abstract heap is held -/
theorem Inv.step {g' : Array GenState} {t' : Nat} {d' : Drawn} {ch : List Addr} (I : Inv X pins σ H s)
    (hch : ∀ b ∈ ch, (b ∈ X.ex ∨ X.s₀.heap.objs.size ≤ b) ∧ b ≠ X.env.locals ∧ (∀ x c, X.env.cells.lookup x = some c → c ≠ b) ∧ ∀ p ∈ X.pn ++ pins, p.1 ≠ b)
    (keep : ∀ b o, b ≠ X.env.locals → b ∉ X.fs → b ∉ ch → s.heap.get? b = some o → H b = none → h'.get? b = some o)
    (slot : ∀ b o, b ≠ X.env.locals → b ∈ X.fs → b ∉ ch → s.heap.get? b = some o → H b = none → ∃ sl, h'.get? b = some { o with slots := sl }) (free : ∀ b o, b ∉ ch → s.heap.get? b = some o → H b = none → H' b = none)
    (there : ∀ b o, b ∉ ch → s.heap.get? b = some o → ∃ o', h'.get? b = some o')
    (tups : ∀ b xs, H b = some (.tup xs) → H' b = some (.tup xs)) (frzs : ∀ b o u, H b = some (.frz o u) → H' b = some (.frz o u)) (tbls : ∀ b ps, H b = some (.tbl ps) → ∃ more, H' b = some (.tbl (ps ++ more)))
    (ns : ∀ m, s.heap.Ns X.env.locals m → h'.Ns X.env.locals m) (hok : HOk X.prog X.w H' h') (hg : AllBare g') :
    Inv X pins σ H' { s with heap := h', gens := g', drawn := d', toks := t' } := by
  have neL : ∀ b o, X.s₀.heap.get? b = some o → b ≠ X.env.locals := fun b o e => Nat.ne_of_lt (Nat.lt_of_lt_of_le (Heap.lt_size e) I.ok.above)
  have neC : ∀ b o, X.s₀.heap.get? b = some o → b ∉ X.ex → b ∉ ch := fun b o e hx hb => by
    rcases (hch b hb).1 with z | z
    · exact hx z
    · exact absurd (Nat.lt_of_lt_of_le (Heap.lt_size e) z) (Nat.lt_irrefl _)
  have cellK : ∀ x c, X.env.cells.lookup x = some c → ∀ v, s.heap.IsCell c v → h'.IsCell c v := fun x c e v ⟨o, ho, hd⟩ => by
    have nch : c ∉ ch := fun z => (hch c z).2.2.1 x c e rfl
    by_cases hc : c ∈ X.fs
    · obtain ⟨sl, q⟩ := slot c o (I.cne x c e) hc nch ho (I.freeC x c e)
      exact ⟨_, q, hd⟩
    · exact ⟨o, keep c o (I.cne x c e) hc nch ho (I.freeC x c e), hd⟩
  refine ⟨I.ok, I.os, hg, ⟨fun b o e n hb hx => ?_, fun b o e n hb hx => ?_, fun b o e n hx => ?_, fun b o e hx => ?_, fun b xs e => tups b xs (I.base.tups b xs e), fun b o xs e => frzs b o xs (I.base.frzs b o xs e), fun b ps e => ?_⟩, ?_, fun x c e => ?_, ?_, fun x c e => ?_, fun p hp => ?_, hok, I.len⟩
  · exact keep b o (neL b o e) hb (neC b o e hx) (I.base.keep b o e n hb hx) (I.base.free b o e n hx)
  · obtain ⟨sl, e1⟩ := I.base.slot b o e n hb hx
    obtain ⟨sl', e2⟩ := slot b _ (neL b o e) hb (neC b o e hx) e1 (I.base.free b o e n hx)
    exact ⟨sl', e2⟩
  · obtain ⟨o', e1⟩ := I.base.there b o e hx
    exact free b o' (neC b o e hx) e1 (I.base.free b o e n hx)
  · obtain ⟨o', e1⟩ := I.base.there b o e hx
    exact there b o' (neC b o e hx) e1
  · obtain ⟨m1, e1⟩ := I.base.tbls b ps e
    obtain ⟨m2, e2⟩ := tbls b _ e1
    exact ⟨m1 ++ m2, by rw [e2, Array.append_assoc]⟩
  · obtain ⟨m, hn, hl⟩ := I.loc
    refine ⟨m, ns m hn, fun i x v e1 e2 e3 => ?_⟩
    obtain ⟨u, r, l⟩ := hl i x v e1 e2 e3
    refine ⟨u, r, ?_⟩
    rcases l with l | ⟨k, c, e, z⟩
    · exact .inl l
    · exact .inr ⟨k, c, e, cellK x c e _ z⟩
  · obtain ⟨v, z⟩ := I.cell x c e
    exact ⟨v, cellK x c e v z⟩
  · obtain ⟨m, ⟨o, _, _, ho, _⟩, _⟩ := I.loc
    exact free _ o (fun z => (hch _ z).2.1 rfl) ho I.free
  · obtain ⟨v, o, ho, hd⟩ := I.cell x c e
    exact free c o (fun z => (hch c z).2.2.1 x c e rfl) ho (I.freeC x c e)
  · obtain ⟨e, n, ne, nf, d⟩ := I.pin p hp
    have nch : p.1 ∉ ch := fun z => (hch p.1 z).2.2.2 p hp rfl
    exact ⟨keep p.1 p.2 ne nf nch e n, free p.1 p.2 nch e n, ne, nf, d⟩
/-- .. where the frame's own object is kept too -/
theorem Inv.un {t' : Nat} (I : Inv X pins σ H s) (u : Un X.fs [] H H' s.heap h') (hok : HOk X.prog X.w H' h') : Inv X pins σ H' { s with heap := h', toks := t' } := by
  obtain ⟨m, ⟨o, es, ep, ho, r⟩, _⟩ := id I.loc
  obtain ⟨sl, hL⟩ := u.any ho I.free (by simp)
  exact I.step (g' := s.gens) (d' := s.drawn) (ch := []) (fun _ z => nomatch z) (fun b o _ hb _ e n => u.keep b o e n hb (by simp)) (fun b o _ hb _ e n => u.slot b o e n hb (by simp)) (fun b o _ e n => u.free b o e n (by simp)) (fun b o _ e => u.there b o e (by simp)) u.tups u.frzs u.tbls (fun m' hm => by
    obtain ⟨o', es', ep', ho', r'⟩ := hm
    rw [ho] at ho'; cases ho'
    exact ⟨_, es', ep', hL, r'⟩) hok I.bare
/-- behind a call (or a comprehension's block): the slots of this frame may have changed too, the records at ch may have turned -/
theorem Inv.call {g' : Array GenState} {t' : Nat} {d' : Drawn} {ch : List Addr} (I : Inv X pins σ H s) (u : Un (frs X.stack) ch H H' s.heap h') (hok : HOk X.prog X.w H' h') (hg : AllBare g')
    (hch : ∀ b ∈ ch, (b ∈ X.ex ∨ X.s₀.heap.objs.size ≤ b) ∧ b ≠ X.env.locals ∧ (∀ x c, X.env.cells.lookup x = some c → c ≠ b) ∧ ∀ p ∈ X.pn ++ pins, p.1 ≠ b) :
    Inv X pins σ H' { s with heap := h', gens := g', drawn := d', toks := t' } := by
  obtain ⟨m, ⟨o, es, ep, ho, r⟩, _⟩ := id I.loc
  obtain ⟨sl, hL⟩ := u.any ho I.free fun z => (hch _ z).2.1 rfl
  exact I.step (ch := ch) hch (fun b o hL hb hc e n => u.keep b o e n (fun z => (List.mem_cons.mp (I.stkSub b z)).elim hL hb) hc) (fun b o _ _ hc e n => u.any e n hc) (fun b o hc e n => u.free b o e n hc) (fun b o hc e => u.there b o e hc) u.tups u.frzs u.tbls (fun m' hm => by
    obtain ⟨o', es', ep', ho', r'⟩ := hm
    rw [ho] at ho'; cases ho'
    exact ⟨_, es', ep', hL, r'⟩) hok hg
/-- an untracked record of ours (an iterator) has turned -/
theorem Inv.turned {t' : Nat} {it : Addr} (I : Inv X pins σ H s) (k : ∀ b o, b ≠ it → s.heap.get? b = some o → h'.get? b = some o) (hn : H it = none) (hL : it ≠ X.env.locals)
    (h1 : it ∈ X.ex ∨ X.s₀.heap.objs.size ≤ it) (h2 : ∀ x c, X.env.cells.lookup x = some c → c ≠ it) (h3 : ∀ p ∈ X.pn ++ pins, p.1 ≠ it) : Inv X pins σ H { s with heap := h', toks := t' } := by
  have nit : ∀ b u, H b = some u → b ≠ it := fun b u e z => by rw [z, hn] at e; cases e
  refine I.step (g' := s.gens) (d' := s.drawn) (ch := [it]) (fun b hb => ?_) (fun b o _ _ hc e _ => k b o (fun z => hc (by simp [z])) e) (fun b o _ _ hc e _ => ⟨o.slots, k b o (fun z => hc (by simp [z])) e⟩) (fun _ _ _ _ n => n)
    (fun b o hc e => ⟨o, k b o (fun z => hc (by simp [z])) e⟩) (fun _ _ e => e) (fun _ _ _ e => e) (fun b ps e => ⟨#[], by rw [e]; simp⟩) (fun m hm => ?_) (fun b u e => ?_) I.bare
  · have e : b = it := by simpa using hb
    subst e
    exact ⟨h1, hL, h2, h3⟩
  · obtain ⟨o, es, ep, ho, r⟩ := hm
    exact ⟨o, es, ep, k _ o (Ne.symm hL) ho, r⟩
  · refine (I.hok b u e).stay (fun c v hc q => k c v ?_ q) (fun _ q => q) fun _ _ q => q
    rcases hc with z | z
    · rw [z]; exact nit b u e
    · exact nit c _ z
theorem Inv.tok (I : Inv X pins σ H s) (t : Nat) : Inv X pins σ H { s with toks := t } := I.un (h' := s.heap) (t' := t) Un.refl I.hok
/-- all objects kept -/
theorem Inv.kept {t' : Nat} (I : Inv X pins σ H s) (k : ∀ b u, s.heap.get? b = some u → h'.get? b = some u) : Inv X pins σ H { s with heap := h', toks := t' } := I.un (Un.kept k) (I.hok.kept k)
/-- a new object laid and tracked -/
theorem Inv.laid {a : Addr} {o : HO} {t' : Nat} (I : Inv X pins σ H s) (k : ∀ b u, s.heap.get? b = some u → h'.get? b = some u) (hp : s.heap.objs.size ≤ a) (new : ObjOk X.prog X.w (upd H a o) h' a o) :
    Inv X pins σ (upd H a o) { s with heap := h', toks := t' } := I.un (Un.laid k hp (I.hok.fresh hp)) (I.hok.laid k hp new)
/-- an object written -/
theorem Inv.write {x e : Addr} {o : HO} {t' : Nat} (I : Inv X pins σ H s) (mu : Mut (H x)) (he : e = x ∨ H e = some (.own x)) (k : ∀ b u, b ≠ e → s.heap.get? b = some u → h'.get? b = some u) (heo : ∃ u, h'.get? e = some u)
    (new : ObjOk X.prog X.w (upd H x o) h' x o) : Inv X pins σ (upd H x o) { s with heap := h', toks := t' } := I.un (Un.write mu he k heo) (I.hok.write mu he k heo new)
/-- forgetting slots, pins -/
theorem Inv.weak {σ' : List (Option V)} (I : Inv X pins σ H s) (hl : σ'.length = σ.length) (w : ∀ (i : Nat) v, σ'[i]? = some (some v) → σ[i]? = some (some v)) : Inv X pins σ' H s :=
  ⟨I.ok, I.os, I.bare, I.base, let ⟨m, hn, hl'⟩ := I.loc; ⟨m, hn, fun i x v e1 e2 e3 => hl' i x v e1 (w i v e2) e3⟩, I.cell, I.free, I.freeC, I.pin, I.hok, hl.trans I.len⟩
theorem Inv.pins_of {pins' : List (Addr × Obj)} (I : Inv X pins σ H s) (h : ∀ p ∈ pins', s.heap.get? p.1 = some p.2 ∧ H p.1 = none ∧ p.1 ≠ X.env.locals ∧ p.1 ∉ X.fs ∧ ∀ v, p.2.data ≠ .cell v) : Inv X pins' σ H s :=
  ⟨I.ok, I.os, I.bare, I.base, I.loc, I.cell, I.free, I.freeC, fun p hp => (List.mem_append.mp hp).elim (fun z => I.pin p (List.mem_append_left _ z)) (h p), I.hok, I.len⟩

theorem nodup_ix {N : List Str} (hN : N.Nodup) {i j : Nat} {x : Str} (a : N[i]? = some x) (b : N[j]? = some x) : i = j := by
  obtain ⟨h1, e1⟩ := List.getElem?_eq_some_iff.mp a
  obtain ⟨h2, e2⟩ := List.getElem?_eq_some_iff.mp b
  exact (List.getElem_inj hN).mp (e1.trans e2.symm)

/-- a name is stored; what changed -/
theorem store_ok2 {M : Model} {A : Around} {E : Value → Shared → Prop} {i : Nat} {x : Str} {v : V} {u : Value} {Q : Unit → Shared → Prop} (I : Inv X pins σ H s) (hN : X.N.Nodup) (hi : X.N[i]? = some x) (hx : Loc X.env.scope x) (r : RelV v u)
    (h : ∀ s', Inv X pins (σ.set i (some v)) H s' → (∃ a, Heap.SameBut a s.heap s'.heap ∧ (a = X.env.locals ∨ X.env.cells.lookup x = some a)) → Q () s') (hf : X.fn x = true ∨ X.env.scope.names.lookup x = some .local := by first | exact .inl rfl | exact .inr rfl | assumption) : wpAny M A (storeName X.env x u) Q E s := by
  obtain ⟨m, hn, hl⟩ := id I.loc
  have hcls : (X.env.scope.kind == .class || (X.env.scope.kind == .module && X.env.locals != X.env.globals)) = false := by rw [I.ok.kind]; rfl
  have hiσ : i < σ.length := by rw [I.len]; exact (List.getElem?_eq_some_iff.mp hi).1
  have cne := I.cne
  have tracked : ∀ {a : Addr} {h' : Heap}, (∃ o, s.heap.get? a = some o ∧ H a = none) → Heap.SameBut a s.heap h' → HOk X.prog X.w H h' := fun {a h'} ha hs b ob e => by
    obtain ⟨_, _, hfree⟩ := ha
    refine (I.hok b ob e).stay (fun c w' hc q => (hs.2 c ?_).trans q) (fun _ q => q) fun _ _ q => q
    rintro rfl
    rcases hc with rfl | hc
    · rw [hfree] at e; cases e
    · rw [hfree] at hc; cases hc
  rcases hx with hk | hk
  · refine wpAny_storeName_local hk hn (fun h' hn' hs => ?_) hcls
    obtain ⟨oL, _, _, hoL, _⟩ := id hn
    refine h _ ⟨I.ok, I.os, I.bare, ⟨fun b o e n hb hx => ?_, fun b o e n hb hx => ?_, I.base.free, fun b o e hx => ?_, I.base.tups, I.base.frzs, I.base.tbls⟩, ⟨_, hn', fun j y v' e1 e2 e3 => ?_⟩, fun y c e => ?_, I.free, I.freeC, fun p hp => ?_, tracked ⟨oL, hoL, I.free⟩ hs, by simpa using I.len⟩ ⟨_, hs, .inl rfl⟩
    · exact (hs.2 b (Nat.ne_of_lt (Nat.lt_of_lt_of_le (Heap.lt_size e) I.ok.above))).trans (I.base.keep b o e n hb hx)
    · obtain ⟨sl, e1⟩ := I.base.slot b o e n hb hx
      exact ⟨sl, (hs.2 b (Nat.ne_of_lt (Nat.lt_of_lt_of_le (Heap.lt_size e) I.ok.above))).trans e1⟩
    · obtain ⟨o', e1⟩ := I.base.there b o e hx
      exact ⟨o', (hs.2 b (Nat.ne_of_lt (Nat.lt_of_lt_of_le (Heap.lt_size e) I.ok.above))).trans e1⟩
    · by_cases hj : j = i
      · subst hj
        rw [hi] at e1; cases e1
        rw [List.getElem?_set_self hiσ] at e2
        cases e2
        exact ⟨u, r, .inl ⟨hk, by simp⟩⟩
      · rw [List.getElem?_set_ne (Ne.symm hj)] at e2
        obtain ⟨u', r', q⟩ := hl j y v' e1 e2 e3
        refine ⟨u', r', ?_⟩
        rcases q with ⟨k, e⟩ | ⟨k, c, e, z⟩
        · refine .inl ⟨k, ?_⟩
          have : y ≠ x := fun e => hj (nodup_ix hN e1 (e ▸ hi))
          simp [this, e]
        · exact .inr ⟨k, c, e, z.sameBut hs (cne y c e)⟩
    · obtain ⟨w', z⟩ := I.cell y c e
      exact ⟨w', z.sameBut hs (cne y c e)⟩
    · obtain ⟨e, n, ne, nf, d⟩ := I.pin p hp
      exact ⟨(hs.2 p.1 ne).trans e, n, ne, nf, d⟩
  · have hfn : X.fn x = true := by
      rcases hf with z | z
      · exact z
      · rw [z] at hk; cases hk
    obtain ⟨c, hc⟩ := I.ok.has x (.inl hk)
    obtain ⟨w', z⟩ := I.cell x c hc
    refine wpAny_storeName_cell I.ok.kind hk hc z (fun h' hc' hs => ?_)
    obtain ⟨oc, hoc, hocd⟩ := id z
    refine h { s with heap := h' } ⟨I.ok, I.os, I.bare, ⟨fun b o e n hb hx => ?_, fun b o e n hb hx => ?_, I.base.free, fun b o e hx => ?_, I.base.tups, I.base.frzs, I.base.tbls⟩, ⟨m, hn.sameBut hs (Ne.symm (cne x c hc)), fun j y v' e1 e2 e3 => ?_⟩, fun y c' e => ?_, I.free, I.freeC, fun p hp => ?_, tracked ⟨oc, hoc, I.freeC x c hc⟩ hs, by simpa using I.len⟩ ⟨c, hs, .inr hc⟩
    · exact (hs.2 b (Nat.ne_of_lt (Nat.lt_of_lt_of_le (Heap.lt_size e) (I.ok.cab x c hfn hc)))).trans (I.base.keep b o e n hb hx)
    · obtain ⟨sl, e1⟩ := I.base.slot b o e n hb hx
      exact ⟨sl, (hs.2 b (Nat.ne_of_lt (Nat.lt_of_lt_of_le (Heap.lt_size e) (I.ok.cab x c hfn hc)))).trans e1⟩
    · obtain ⟨o', e1⟩ := I.base.there b o e hx
      exact ⟨o', (hs.2 b (Nat.ne_of_lt (Nat.lt_of_lt_of_le (Heap.lt_size e) (I.ok.cab x c hfn hc)))).trans e1⟩
    · by_cases hj : j = i
      · subst hj
        rw [hi] at e1; cases e1
        rw [List.getElem?_set_self hiσ] at e2
        cases e2
        exact ⟨u, r, .inr ⟨.inl hk, c, hc, hc'⟩⟩
      · rw [List.getElem?_set_ne (Ne.symm hj)] at e2
        obtain ⟨u', r', q⟩ := hl j y v' e1 e2 e3
        refine ⟨u', r', ?_⟩
        rcases q with q | ⟨k, c', e, z'⟩
        · exact .inl q
        · refine .inr ⟨k, c', e, z'.sameBut hs ?_⟩
          rintro rfl
          exact hj (nodup_ix hN e1 (I.ok.inj _ _ _ e hc ▸ hi))
    · by_cases hcc : c' = c
      · subst hcc; exact ⟨_, hc'⟩
      · obtain ⟨w2, z2⟩ := I.cell y c' e
        exact ⟨w2, z2.sameBut hs hcc⟩
    · obtain ⟨e, n, ne, nf, d⟩ := I.pin p hp
      refine ⟨(hs.2 p.1 ?_).trans e, n, ne, nf, d⟩
      intro q
      rw [q, hoc] at e
      have q' : oc = p.2 := Option.some.inj e
      exact d w' (by rw [← q']; exact hocd)
theorem store_ok {M : Model} {A : Around} {E : Value → Shared → Prop} {i : Nat} {x : Str} {v : V} {u : Value} {Q : Unit → Shared → Prop} (I : Inv X pins σ H s) (hN : X.N.Nodup) (hi : X.N[i]? = some x) (hx : Loc X.env.scope x) (r : RelV v u)
    (h : ∀ s', Inv X pins (σ.set i (some v)) H s' → Q () s') (hf : X.fn x = true ∨ X.env.scope.names.lookup x = some .local := by first | exact .inl rfl | exact .inr rfl | assumption) : wpAny M A (storeName X.env x u) Q E s :=
  store_ok2 I hN hi hx r (fun s' I' _ => h s' I') hf
/-- behind a call or a block, the state as it is -/
theorem Inv.call' {s' : Shared} {ch : List Addr} (I : Inv X pins σ H s) (ho : s'.os = s.os) (u : Un (frs X.stack) ch H H' s.heap s'.heap) (hok : HOk X.prog X.w H' s'.heap) (hg : AllBare s'.gens)
    (hch : ∀ b ∈ ch, (b ∈ X.ex ∨ X.s₀.heap.objs.size ≤ b) ∧ b ≠ X.env.locals ∧ (∀ x c, X.env.cells.lookup x = some c → c ≠ b) ∧ ∀ p ∈ X.pn ++ pins, p.1 ≠ b) : Inv X pins σ H' s' := by
  obtain ⟨h', g', d', t', o'⟩ := s'
  have e : o' = s.os := ho
  subst e
  exact I.call (g' := g') (t' := t') (d' := d') u hok hg hch
end

/-! ### the judgements -/
/-- an exception: its class, its own dict's address (where it has one), the abstract heap behind it -/
abbrev XK := Value → Option Addr → Hp → Prop
abbrev St := List (Option V)
abbrev VK := V → Hp → Prop
/-- an expression's reading; a test's; an argument list's -/
abbrev TE := St → Hp → VK → Prop
abbrev TT := St → Hp → (Bool → Hp → Prop) → Prop
abbrev TA := St → Hp → (List V → Hp → Prop) → Prop
/-- what is wanted behind a statement -/
structure Ends where
  nx : St → Hp → Prop
  rt : VK
  bk : St → Hp → Prop := fun _ _ => False
  ct : St → Hp → Prop := fun _ _ => False
abbrev TS := Ends → St → Hp → Prop

def EP (X : Cx) (pins : List (Addr × Obj)) (σ : St) (Q : VK) (u : Value) (s' : Shared) : Prop := ∃ v H', Inv X pins σ H' s' ∧ RelV v u ∧ Q v H'
def TP (X : Cx) (pins : List (Addr × Obj)) (σ : St) (Q : Bool → Hp → Prop) (b : Bool) (s' : Shared) : Prop := ∃ H', Inv X pins σ H' s' ∧ Q b H'
def AP (X : Cx) (pins : List (Addr × Obj)) (σ : St) (Q : List V → Hp → Prop) (us : List Value) (s' : Shared) : Prop := ∃ vs H', Inv X pins σ H' s' ∧ Vals vs us ∧ Q vs H'
def SP (X : Cx) (pins : List (Addr × Obj)) (D : Ends) (f : Flow) (s' : Shared) : Prop :=
  match f with
  | .next => ∃ σ' H', Inv X pins σ' H' s' ∧ D.nx σ' H'
  | .brk => ∃ σ' H', Inv X pins σ' H' s' ∧ D.bk σ' H'
  | .cont => ∃ σ' H', Inv X pins σ' H' s' ∧ D.ct σ' H'
  | .ret u => ∃ v σ' H', Inv X pins σ' H' s' ∧ RelV v u ∧ D.rt v H'

def PE (X : Cx) (e : Expr) (t : TE) : Prop :=
  ∀ (pins : List (Addr × Obj)) (s : Shared) (σ : St) (H : Hp) (Q : VK), Inv X pins σ H s → t σ H Q → wpAny (model X.prog X.w) X.A (eval e X.env) (EP X pins σ Q) X.xe s
def PT (X : Cx) (e : Expr) (t : TT) : Prop :=
  ∀ (pins : List (Addr × Obj)) (s : Shared) (σ : St) (H : Hp) (Q : Bool → Hp → Prop), Inv X pins σ H s → t σ H Q → wpAny (model X.prog X.w) X.A (isTrue e X.env (eval e X.env)) (TP X pins σ Q) X.xe s
/-- a test whatever its 'whole' is (and, or) -/
def PW (X : Cx) (e : Expr) (t : TT) : Prop :=
  ∀ (whole : Sem Value) (pins : List (Addr × Obj)) (s : Shared) (σ : St) (H : Hp) (Q : Bool → Hp → Prop), Inv X pins σ H s → t σ H Q → wpAny (model X.prog X.w) X.A (isTrue e X.env whole) (TP X pins σ Q) X.xe s
theorem PW.pt {X : Cx} {e : Expr} {t : TT} (h : PW X e t) : PT X e t := h _
/-- an argument list (no star), from the left -/
def PA (X : Cx) (es : List Expr) (t : TA) : Prop :=
  ∀ (pos : Pos) (pins : List (Addr × Obj)) (s : Shared) (σ : St) (H : Hp) (Q : List V → Hp → Prop), Inv X pins σ H s → t σ H Q → wpAny (model X.prog X.w) X.A (spliced (backTo pos (starEach es X.env))) (AP X pins σ Q) X.xe s
def PS (X : Cx) (st : Stmt) (t : TS) : Prop :=
  ∀ (pins : List (Addr × Obj)) (s : Shared) (σ : St) (H : Hp) (D : Ends), Inv X pins σ H s → t D σ H → wpAny (model X.prog X.w) X.A (exec st X.env) (SP X pins D) X.xe s
def PSs (X : Cx) (st : List Stmt) (t : TS) : Prop :=
  ∀ (pins : List (Addr × Obj)) (s : Shared) (σ : St) (H : Hp) (D : Ends), Inv X pins σ H s → t D σ H → wpAny (model X.prog X.w) X.A (execs st X.env) (SP X pins D) X.xe s
/-- weaken the end -/
theorem thn {α : Type} {t : Sem α} {Q Q' : α → Shared → Prop} {M : Model} {A : Around} {E : Value → Shared → Prop} {s : Shared} (h : wpAny M A t Q E s) (hQ : ∀ a s, Q a s → Q' a s) : wpAny M A t Q' E s := wpAny_mono h hQ fun _ _ x => x
end L2

namespace L2
open PySem PySem.Spec PyProof.Rows
section
variable {X : Cx}


/-! ### names and constants -/
def tVar (i : Nat) : TE := fun σ H Q => ∃ v, σ[i]? = some (some v) ∧ Q v H
def tC (v : V) : TE := fun _ H Q => Q v H
theorem pe_var {i : Nat} {x : Str} {pos : Pos} (hN : X.N[i]? = some x) (hv : Vis X.env.scope x) (hd : (x == ("__debug__" : Str)) = false := by decide) (hcd : (x == ("__classdict__" : Str)) = false := by decide) : PE X (.Name x pos) (tVar i) := by
  intro pins s σ H Q I h
  obtain ⟨v, e, h⟩ := h
  obtain ⟨m, hn, hl⟩ := I.loc
  obtain ⟨u, r, l⟩ := hl i x v hN e hv
  have fin : EP X pins σ Q u s := ⟨v, H, I, r, h⟩
  rcases l with ⟨hk, hm⟩ | ⟨hk, c, hc, hcell⟩
  · exact wpAny_Name (wpAny_loadName_local I.ok.kind hk hn hm fin) hd
  · rcases hk with hk | hk
    · exact wpAny_Name (wpAny_loadName_cell I.ok.kind hk hc hcell fin) hd
    · exact wpAny_Name (wpAny_loadName_free I.ok.kind hk hc hcell fin hcd) hd
theorem pe_int {i j pos} : PE X (.Constant (.int i) j pos) (tC (.int i)) := fun _ _ _ H _ I h => wpAny_Constant_int ⟨.int i, H, I.tok _, ⟨_, rfl⟩, h⟩
theorem pe_bl {b j pos} : PE X (.Constant (.bool b) j pos) (tC (.bl b)) := fun _ _ _ H _ I h => Constant_bool ⟨.bl b, H, I, rfl, h⟩
theorem pe_str {x j pos} : PE X (.Constant (.str x) j pos) (tC (.str x)) := fun _ _ _ H _ I h => Calls.Constant_str ⟨.str x, H, I.tok _, ⟨_, rfl⟩, h⟩

/-- a global name of the def -/
def Gl (X : Cx) (x : Str) : Prop := X.env.kindOf x = some .globalImplicit
theorem ld_glob {E : Value → Shared → Prop} {pins : List (Addr × Obj)} {s : Shared} {σ : St} {H : Hp} {x : Str} {u : Value} {pos : Pos} {Q : Value → Shared → Prop} (I : Inv X pins σ H s) (hg : Gl X x) (hm : X.mg x = some u) (h : Q u s)
    (hd : (x == ("__debug__" : Str)) = false := by decide) : wpAny (model X.prog X.w) X.A (eval (.Name x pos) X.env) Q E s :=
  Calls.Name_function_global I.ok.kind hg (Calls.loadGlobal_global (by rw [I.ok.glob]; exact I.mod.glob.keeps I.bk) hm h) hd
theorem ld_blt {E : Value → Shared → Prop} {pins : List (Addr × Obj)} {s : Shared} {σ : St} {H : Hp} {x : Str} {u : Value} {pos : Pos} {Q : Value → Shared → Prop} (I : Inv X pins σ H s) (hg : Gl X x) (hm : X.mg x = none) (hv : bootBuiltins x = some u) (h : Q u s)
    (hn : x ≠ "__name__" := by decide) (hd : (x == ("__debug__" : Str)) = false := by decide) : wpAny (model X.prog X.w) X.A (eval (.Name x pos) X.env) Q E s := by
  obtain ⟨mb, h1, h2⟩ := I.mod.blt
  exact Calls.Name_function_global I.ok.kind hg (Calls.loadGlobal_builtin (by rw [I.ok.glob]; exact I.mod.glob.keeps I.bk) hm (by rw [I.ok.blt]; exact h1.keeps I.bk) ((h2 x hn).trans hv) h) hd
theorem pe_bltn {x : Str} {v : V} {u : Value} {pos : Pos} (hg : Gl X x) (hm : X.mg x = none) (hv : bootBuiltins x = some u) (r : RelV v u) (hn : x ≠ "__name__" := by decide) (hd : (x == ("__debug__" : Str)) = false := by decide) : PE X (.Name x pos) (tC v) :=
  fun _ _ _ H _ I h => ld_blt I hg hm hv ⟨v, H, I, r, h⟩ hn hd

/-! ### arithmetic -/
variable {a b : Expr} {ta tb : TE} {pos : Pos}

/-! ### comparisons -/
/-- a comparison as a value, as a test -/
def tB (t : TE) : TT := fun σ H Q => t σ H fun x H1 => ∃ c, x = .bl c ∧ Q c H1
/-- an expression whose value is a bool, as a test -/
theorem pt_val {e : Expr} {t : TE} (h : PE X e t) (he : ∀ whole, isTrue e X.env whole = (do let v ← whole; standAt e.pos; holding [v] (truthy v)) := by intro _; rfl) : PT X e (tB t) := by
  intro pins s σ H Q I hw
  refine isTrue_plain (thn (h pins s σ H _ I hw) fun v s1 ⟨x, H1, I1, r1, q1⟩ => ?_) (he _)
  obtain ⟨d, rfl, q⟩ := q1
  cases r1
  exact wpAny_truthy_bool ⟨H1, I1, q⟩

/-! ### and, or, not -/
variable {tA tB' : TT} {rest : List Expr}
def tAnd (t u : TT) : TT := fun σ H Q => t σ H fun c H1 => if c = true then u σ H1 Q else Q false H1
def tOr (t u : TT) : TT := fun σ H Q => t σ H fun c H1 => if c = true then Q true H1 else u σ H1 Q
def tNot (t : TT) : TT := fun σ H Q => t σ H fun c H1 => Q (!c) H1
theorem pw_and1 (ha : PT X a tA) : PW X (.BoolOp .And [a] pos) tA := by
  intro wh pins s σ H Q I h
  refine isTrue_and (thn (ha pins s σ H Q I h) fun c s1 e => ?_)
  cases c with
  | true => exact isTrue_and_nil e
  | false => exact e
theorem pw_or1 (ha : PT X a tA) : PW X (.BoolOp .Or [a] pos) tA := by
  intro wh pins s σ H Q I h
  refine isTrue_or (thn (ha pins s σ H Q I h) fun c s1 e => ?_)
  cases c with
  | false => exact isTrue_or_nil e
  | true => exact e
theorem pw_and (ha : PT X a tA) (hb : PW X (.BoolOp .And (b :: rest) pos) tB') : PW X (.BoolOp .And (a :: b :: rest) pos) (tAnd tA tB') := by
  intro wh pins s σ H Q I h
  refine isTrue_and (thn (ha pins s σ H _ I h) fun c s1 ⟨H1, I1, q1⟩ => ?_)
  cases c with
  | true => exact hb wh pins s1 σ H1 Q I1 q1
  | false => exact ⟨H1, I1, q1⟩
theorem pw_or (ha : PT X a tA) (hb : PW X (.BoolOp .Or (b :: rest) pos) tB') : PW X (.BoolOp .Or (a :: b :: rest) pos) (tOr tA tB') := by
  intro wh pins s σ H Q I h
  refine isTrue_or (thn (ha pins s σ H _ I h) fun c s1 ⟨H1, I1, q1⟩ => ?_)
  cases c with
  | true => exact ⟨H1, I1, q1⟩
  | false => exact hb wh pins s1 σ H1 Q I1 q1
theorem pt_not (ha : PT X a tA) : PT X (.UnaryOp .Not a pos) (tNot tA) := by
  intro pins s σ H Q I h
  exact isTrue_not (ha pins s σ H (fun c H1 => Q (!c) H1) I h)
/-- .. as values (bools) -/
def tAndV (ta tb : TE) : TE := fun σ H Q => ta σ H fun x H1 => ∃ c, x = .bl c ∧ if c = true then tb σ H1 Q else Q (.bl false) H1
def tOrV (ta tb : TE) : TE := fun σ H Q => ta σ H fun x H1 => ∃ c, x = .bl c ∧ if c = true then Q (.bl true) H1 else tb σ H1 Q
def tNotV (ta : TE) : TE := fun σ H Q => ta σ H fun x H1 => ∃ c, x = .bl c ∧ Q (.bl (!c)) H1
theorem pe_one {op} {t : TE} (h : PE X a t) : PE X (.BoolOp op [a] pos) t := fun pins s σ H Q I hw => BoolOp_one (h pins s σ H Q I hw)
theorem pe_and (ha : PE X a ta) (hb : PE X (.BoolOp .And (b :: rest) pos) tb) : PE X (.BoolOp .And (a :: b :: rest) pos) (tAndV ta tb) := by
  intro pins s σ H Q I h
  refine BoolOp_and (thn (ha pins s σ H _ I h) fun v s1 ⟨x, H1, I1, r1, q1⟩ => ?_)
  obtain ⟨c, rfl, q1⟩ := q1
  cases r1
  refine wpAny_truthy_bool ?_
  cases c with
  | true => exact hb pins s1 σ H1 Q I1 q1
  | false => exact ⟨.bl false, H1, I1, rfl, q1⟩
theorem pe_or (ha : PE X a ta) (hb : PE X (.BoolOp .Or (b :: rest) pos) tb) : PE X (.BoolOp .Or (a :: b :: rest) pos) (tOrV ta tb) := by
  intro pins s σ H Q I h
  refine BoolOp_or (thn (ha pins s σ H _ I h) fun v s1 ⟨x, H1, I1, r1, q1⟩ => ?_)
  obtain ⟨c, rfl, q1⟩ := q1
  cases r1
  refine wpAny_truthy_bool ?_
  cases c with
  | false => exact hb pins s1 σ H1 Q I1 q1
  | true => exact ⟨.bl true, H1, I1, rfl, q1⟩
theorem pe_not (ha : PE X a ta) : PE X (.UnaryOp .Not a pos) (tNotV ta) := by
  intro pins s σ H Q I h
  refine UnaryOp_ (thn (ha pins s σ H _ I h) fun v s1 ⟨x, H1, I1, r1, q1⟩ => ?_)
  obtain ⟨c, rfl, q1⟩ := q1
  cases r1
  exact not_of (wpAny_truthy_bool ⟨.bl (!c), H1, I1, rfl, q1⟩)
/-- a if t else b -/
def tIf (t : TT) (ta tb : TE) : TE := fun σ H Q => t σ H fun c H1 => if c = true then ta σ H1 Q else tb σ H1 Q
theorem pe_ifExp {c : Expr} (hc : PT X c tA) (ha : PE X a ta) (hb : PE X b tb) : PE X (.IfExp c a b pos) (tIf tA ta tb) := by
  intro pins s σ H Q I h
  refine wpAny_IfExp (thn (hc pins s σ H _ I h) fun d s1 ⟨H1, I1, q1⟩ => ?_)
  cases d with
  | true => exact ha pins s1 σ H1 Q I1 q1
  | false => exact hb pins s1 σ H1 Q I1 q1
end
end L2

namespace L2
open PySem PySem.Spec PyProof.Rows

/-! ### a list, a tuple that is read: tracked, frozen, or an object of the module -/
def SqL (K : PySem.W.Frag) (H : Hp) (a : Addr) (xs : List V) : Prop :=
  Rd H a (.lst xs) ∨
    ∃ (o : Obj) (its : Array Value) (n : Nat), K.lookup a = some o ∧ o.cls = .type "list" ∧ o.dict = none ∧ o.data = .seq its n ∧ its.size ≤ sizeLine ∧ Vals xs its.toList
def SqT (K : PySem.W.Frag) (H : Hp) (a : Addr) (xs : List V) : Prop :=
  Rd H a (.tup xs) ∨
    ∃ (o : Obj) (its : Array Value) (n : Nat), K.lookup a = some o ∧ o.cls = .type "tuple" ∧ o.data = .seq its n ∧ its.size ≤ sizeLine ∧ Vals xs its.toList
def absV : Value → Option V
  | .none => some .non
  | .bool b => some (.bl b)
  | .int i _ => some (.int i)
  | .str x _ => some (.str x)
  | .bytes b _ => some (.byt b)
  | .float b _ => some (.flt b)
  | .ref a => some (.ref a)
  | .type n => some (.ty n)
  | _ => none
theorem RelV.abs {x : V} {u : Value} (r : RelV x u) : absV u = some x := by
  cases x with
  | non => cases r; rfl
  | bl _ => cases r; rfl
  | int _ => obtain ⟨t, rfl⟩ := r; rfl
  | str _ => obtain ⟨t, rfl⟩ := r; rfl
  | byt _ => obtain ⟨t, rfl⟩ := r; rfl
  | flt _ => obtain ⟨t, rfl⟩ := r; rfl
  | ref _ => cases r; rfl
  | ty _ => cases r; rfl
theorem RelV.inj {x y : V} {u : Value} (r : RelV x u) (q : RelV y u) : x = y := Option.some.inj (r.abs.symm.trans q.abs)
theorem Vals.inj : ∀ {xs ys : List V} {us : List Value}, Vals xs us → Vals ys us → xs = ys
  | _, _, _, .nil, .nil => rfl
  | _, _, _, .cons r t, .cons r' t' => by rw [r.inj r', Vals.inj t t']
section
variable {X : Cx} {pins : List (Addr × Obj)} {σ : St} {H : Hp} {s : Shared} {a : Addr} {xs ys : List V}
theorem SqL.of {K : PySem.W.Frag} (h : H a = some (.lst xs)) : SqL K H a xs := .inl (.inl h)
theorem SqT.of {K : PySem.W.Frag} (h : H a = some (.tup xs)) : SqT K H a xs := .inl (.inl h)
theorem Inv.list (I : Inv X pins σ H s) (h : SqL X.K H a xs) : ∃ its : List Value, Vals xs its ∧ PlainL s.heap a its.toArray ∧ xs.length ≤ sizeLine := by
  rcases h with h | ⟨o, its, n, hk, hc, hd, hs, hz, r⟩
  · obtain ⟨z, its, n, r, e⟩ := h.ok I.hok
    exact ⟨its, r, ⟨_, n, e, rfl, rfl, rfl⟩, z⟩
  · refine ⟨its.toList, r, ⟨o, n, I.kIn a o hk, hc, hd, by simpa using hs⟩, ?_⟩
    have e := r.length
    simp only [Array.length_toList] at e
    omega
theorem Inv.tuple (I : Inv X pins σ H s) (h : SqT X.K H a xs) : ∃ its : List Value, Vals xs its ∧ IsTup s.heap a its.toArray ∧ xs.length ≤ sizeLine := by
  rcases h with h | ⟨o, its, n, hk, hc, hs, hz, r⟩
  · obtain ⟨z, its, r, p⟩ := h.ok I.hok
    exact ⟨its, r, p, z⟩
  · refine ⟨its.toList, r, ⟨o, I.kIn a o hk, hc, n, by simpa using hs⟩, ?_⟩
    have e := r.length
    simp only [Array.length_toList] at e
    omega
theorem Inv.list_inj (I : Inv X pins σ H s) (h : SqL X.K H a xs) (h' : SqL X.K H a ys) : xs = ys := by
  obtain ⟨its, r, ⟨o, n, e, _, _, d⟩, _⟩ := I.list h
  obtain ⟨its', r', ⟨o', n', e', _, _, d'⟩, _⟩ := I.list h'
  rw [e] at e'; cases e'
  rw [d] at d'
  injection d' with d1 _
  have : its = its' := by simpa using congrArg Array.toList d1
  subst this
  exact r.inj r'
theorem Inv.tuple_inj (I : Inv X pins σ H s) (h : SqT X.K H a xs) (h' : SqT X.K H a ys) : xs = ys := by
  obtain ⟨its, r, ⟨o, e, _, n, d⟩, _⟩ := I.tuple h
  obtain ⟨its', r', ⟨o', e', _, n', d'⟩, _⟩ := I.tuple h'
  rw [e] at e'; cases e'
  rw [d] at d'
  injection d' with d1 _
  have : its = its' := by simpa using congrArg Array.toList d1
  subst this
  exact r.inj r'
end

/-! ### another wish about exceptions -/
abbrev Cx.wish (X : Cx) (E : Value → Shared → Prop) : Cx := { X with xe := E }
/-- no exception leaves -/
abbrev Cx.nox (X : Cx) : Cx := X.wish fun _ _ => False
theorem Cx.Ok.wish {X : Cx} (ok : X.Ok) (E : Value → Shared → Prop) : (X.wish E).Ok :=
  ⟨ok.mod, ok.kind, ok.glob, ok.blt, ok.above, ok.inj, ok.has, ok.cab, ok.hd, ok.frames, ok.stk, ok.exf, ok.bs, ok.bsz, ok.noex, ok.exfs, ok.funs, ok.frf⟩
theorem Cx.Ok.unwish {X : Cx} {E : Value → Shared → Prop} (ok : (X.wish E).Ok) : X.Ok :=
  ⟨ok.mod, ok.kind, ok.glob, ok.blt, ok.above, ok.inj, ok.has, ok.cab, ok.hd, ok.frames, ok.stk, ok.exf, ok.bs, ok.bsz, ok.noex, ok.exfs, ok.funs, ok.frf⟩
section
variable {X : Cx} {pins : List (Addr × Obj)} {σ : St} {H : Hp} {s : Shared} {E : Value → Shared → Prop}
theorem Inv.wish (I : Inv X pins σ H s) (E : Value → Shared → Prop) : Inv (X.wish E) pins σ H s := ⟨I.ok.wish E, I.os, I.bare, I.base, I.loc, I.cell, I.free, I.freeC, I.pin, I.hok, I.len⟩
theorem Inv.unwish (I : Inv (X.wish E) pins σ H s) : Inv X pins σ H s := ⟨I.ok.unwish, I.os, I.bare, I.base, I.loc, I.cell, I.free, I.freeC, I.pin, I.hok, I.len⟩
theorem SP.unwish {D : Ends} {f : Flow} {s' : Shared} (h : SP (X.wish E) pins D f s') : SP X pins D f s' := by
  cases f with
  | next => obtain ⟨σ', H', I, q⟩ := h; exact ⟨σ', H', I.unwish, q⟩
  | brk => obtain ⟨σ', H', I, q⟩ := h; exact ⟨σ', H', I.unwish, q⟩
  | cont => obtain ⟨σ', H', I, q⟩ := h; exact ⟨σ', H', I.unwish, q⟩
  | ret u => obtain ⟨v, σ', H', I, r, q⟩ := h; exact ⟨v, σ', H', I.unwish, r, q⟩
theorem PSs.nox {st : List Stmt} {t : TS} (h : PSs X.nox st t) : PSs X st t := fun pins s σ H D I hw =>
  wpAny_mono (h pins s σ H D (I.wish _) hw) (fun _ _ q => q.unwish) fun _ _ z => False.elim z
end

/-! ### blocks and small statements -/
section
variable {X : Cx} {st : Stmt} {rest : List Stmt} {t u : TS} {e : Expr} {te : TE} {pos : Pos}
def tNext : TS := fun D σ H => D.nx σ H
def tSeq (t u : TS) : TS := fun D σ H => t { D with nx := u D } σ H
theorem pss_nil : PSs X [] tNext := fun _ _ σ H _ I h => wpAny_execs_nil ⟨σ, H, I, h⟩
theorem pss_cons (h1 : PS X st t) (h2 : PSs X rest u) : PSs X (st :: rest) (tSeq t u) := by
  intro pins s σ H D I h
  refine wpAny_execs_cons (thn (h1 pins s σ H { D with nx := u D } I h) fun f s1 q => ?_)
  cases f with
  | next =>
    obtain ⟨σ', H', I', q⟩ := q
    exact h2 pins s1 σ' H' D I' q
  | ret v => exact q
  | brk => exact q
  | cont => exact q
theorem pss_one (h1 : PS X st t) : PSs X [st] t := by
  intro pins s σ H D I h
  refine wpAny_execs_cons (thn (h1 pins s σ H D I h) fun f s1 q => ?_)
  cases f with
  | next => exact wpAny_execs_nil q
  | ret v => exact q
  | brk => exact q
  | cont => exact q
/-- in a def's body nothing is shown -/
theorem Inv.quiet {pins : List (Addr × Obj)} {σ : St} {H : Hp} {s : Shared} (I : Inv X pins σ H s) : interactive X.env = false := by simp [interactive, I.ok.kind]
/-- an expression whose value is dropped -/
def tDrop (te : TE) : TS := fun D σ H => te σ H fun _ H1 => D.nx σ H1
theorem ps_expr (he : PE X e te) (hs : swapsWith e none pos.line X.env = pure false := by rfl) : PS X (.Expr e pos) (tDrop te) := by
  intro pins s σ H D I h
  exact wpAny_Expr_any (thn (he pins s σ H _ I h) fun v s1 ⟨x, H1, I1, r1, q1⟩ => ⟨σ, H1, I1, q1⟩) I.quiet hs
def tRet (te : TE) : TS := fun D σ H => te σ H D.rt
theorem ps_ret (he : PE X e te) : PS X (.Return (some e) pos) (tRet te) := by
  intro pins s σ H D I h
  exact wpAny_Return_some (thn (he pins s σ H _ I h) fun v s1 ⟨x, H1, I1, r1, q1⟩ => ⟨x, σ, H1, I1, r1, q1⟩)
def tIfS (c : TT) (t u : TS) : TS := fun D σ H => c σ H fun b H1 => if b = true then t D σ H1 else u D σ H1
theorem ps_if {c : Expr} {a b : List Stmt} {tc : TT} (hc : PT X c tc) (ha : PSs X a t) (hb : PSs X b u) : PS X (.If c a b pos) (tIfS tc t u) := by
  intro pins s σ H D I h
  refine wpAny_If (thn (hc pins s σ H _ I h) fun d s1 ⟨H1, I1, q1⟩ => ?_)
  cases d with
  | true => exact ha pins s1 σ H1 D I1 q1
  | false => exact hb pins s1 σ H1 D I1 q1
/-- code that the proof never comes to -/
def tNever : TS := fun _ _ _ => False
theorem ps_never : PS X st tNever := fun _ _ _ _ _ _ h => h.elim
end

/-! ### targets -/
abbrev TG := V → St → Hp → (St → Hp → Prop) → Prop
abbrev TGs := List V → St → Hp → (St → Hp → Prop) → Prop
def PG (X : Cx) (target : Expr) (t : TG) : Prop :=
  ∀ (pins : List (Addr × Obj)) (s : Shared) (σ : St) (H : Hp) (v : V) (u : Value) (Q : St → Hp → Prop), Inv X pins σ H s → RelV v u → t v σ H Q →
    wpAny (model X.prog X.w) X.A (assign target X.env u) (fun _ s' => ∃ σ' H', Inv X pins σ' H' s' ∧ Q σ' H') X.xe s
/-- several targets, one after another -/
def PGs (X : Cx) (ts : List Expr) (t : TGs) : Prop :=
  ∀ (pins : List (Addr × Obj)) (s : Shared) (σ : St) (H : Hp) (vs : List V) (us : List Value) (Q : St → Hp → Prop), Inv X pins σ H s → Vals vs us → t vs σ H Q →
    wpAny (model X.prog X.w) X.A (assignInOrder ((assignEach ts X.env).map (·.2)) us) (fun _ s' => ∃ σ' H', Inv X pins σ' H' s' ∧ Q σ' H') X.xe s
/-- o[i] = v, by values -/
abbrev TSet := V → V → V → Hp → (Hp → Prop) → Prop
def PSet (X : Cx) (t : TSet) : Prop :=
  ∀ (pins : List (Addr × Obj)) (s : Shared) (σ : St) (H : Hp) (o i v : V) (ov iv u : Value) (Q : Hp → Prop), Inv X pins σ H s → RelV o ov → RelV i iv → RelV v u → t o i v H Q →
    wpAny (model X.prog X.w) X.A (setItem ov iv u) (fun _ s' => ∃ H', Inv X pins σ H' s' ∧ Q H') X.xe s
section
variable {X : Cx} {pos : Pos}
def gName (i : Nat) : TG := fun v σ H Q => Q (σ.set i (some v)) H
theorem pg_name {i : Nat} {x : Str} (hN : X.N.Nodup) (hi : X.N[i]? = some x) (hx : Loc X.env.scope x) (hf : X.fn x = true ∨ X.env.scope.names.lookup x = some .local := by first | exact .inl rfl | exact .inr rfl | assumption) : PG X (.Name x pos) (gName i) := by
  intro pins s σ H v u Q I r h
  exact wpAny_assign_Name (store_ok I hN hi hx r (fun s' I' => ⟨_, H, I', h⟩) hf)
def gNil : TGs := fun vs σ H Q => vs = [] ∧ Q σ H
def gCons (t : TG) (u : TGs) : TGs := fun vs σ H Q => ∃ v r, vs = v :: r ∧ t v σ H fun σ' H' => u r σ' H' Q
theorem pgs_nil : PGs X [] gNil := by
  intro pins s σ H vs us Q I r h
  obtain ⟨e, h⟩ := h
  subst e
  cases r
  exact assignInOrder_nil ⟨σ, H, I, h⟩
theorem pgs_cons {e : Expr} {es : List Expr} {t : TG} {u : TGs} (h1 : PG X e t) (h2 : PGs X es u)
    (hs : (assignEach (e :: es) X.env).map (·.2) = assign e X.env :: (assignEach es X.env).map (·.2) := by rfl) : PGs X (e :: es) (gCons t u) := by
  intro pins s σ H vs us Q I r h
  obtain ⟨v, vr, e1, h⟩ := h
  subst e1
  cases r with
  | cons r rr =>
    rw [hs]
    refine assignInOrder_cons (thn (h1 pins s σ H _ _ _ I r h) fun _ s1 ⟨σ1, H1, I1, q1⟩ => ?_)
    exact h2 pins s1 σ1 H1 _ _ Q I1 rr q1
/-- (a, b, ..) = a tuple of that length -/
def gTup (K : PySem.W.Frag) (n : Nat) (t : TGs) : TG := fun v σ H Q => ∃ a xs, v = .ref a ∧ SqT K H a xs ∧ xs.length = n ∧ t xs σ H Q
theorem pg_tup {es : List Expr} {k : Nat} {t : TGs} {n : Nat} (hc : X.calm = true) (h : PGs X es t)
    (hn : (assignEach es X.env).length = n := by rfl) (hst : (assignEach es X.env).findIdx? (·.1) = none := by rfl) : PG X (.Tuple es k pos) (gTup X.K n t) := by
  intro pins s σ H v u Q I r hw
  obtain ⟨a, xs, e1, hq, hl, hw⟩ := hw
  subst e1
  cases r
  obtain ⟨its, rv, ht, hz⟩ := I.tuple hq
  refine assign_Tuple_tuple (I.ok.hd hc) ht (by simp [hn, ← hl, rv.length]) hst fun h' hx => ?_
  have I1 : Inv X pins σ H { s with heap := h' } := I.kept (t' := s.toks) fun b o e => hx b o (Nat.ne_of_lt (Heap.lt_size e)) e
  exact h pins _ σ H xs _ Q I1 (by simpa using rv) hw
/-- o[i] = .. -/
def gSub (to ti : TE) (t : TSet) : TG := fun v σ H Q => to σ H fun o H1 => ti σ H1 fun i H2 => t o i v H2 fun H3 => Q σ H3
theorem pg_sub {o i : Expr} {to ti : TE} {t : TSet} (ho : PE X o to) (hi : PE X i ti) (hs : PSet X t)
    (ha : ∀ v, assign (.Subscript o i pos) X.env v = (do
      let ov ← holding [v] (eval o X.env)
      let iv ← holding [v, ov] (eval i X.env)
      standAt pos
      holding [v, ov, iv] (setItem ov iv v)
      release [v, ov, iv] []) := by intro _; rfl) : PG X (.Subscript o i pos) (gSub to ti t) := by
  intro pins s σ H v u Q I r h
  rw [ha]
  refine wpAny_bind (wpAny_holding (thn (ho pins s σ H _ I h) fun ov s1 ⟨x, H1, I1, r1, q1⟩ => ?_))
  refine wpAny_bind (wpAny_holding (thn (hi pins s1 σ H1 _ I1 q1) fun iv s2 ⟨y, H2, I2, r2, q2⟩ => ?_))
  refine wpAny_bind (wpAny_standAt (wpAny_bind (wpAny_holding (thn (hs pins s2 σ H2 x y v ov iv u _ I2 r1 r2 r q2) fun _ s3 ⟨H3, I3, q3⟩ => ?_))))
  exact wpAny_release ⟨σ, H3, I3, q3⟩
/-- target = value -/
def tAsg (te : TE) (g : TG) : TS := fun D σ H => te σ H fun x H1 => g x σ H1 D.nx
theorem ps_asg {tg e : Expr} {te : TE} {g : TG} (he : PE X e te) (hg : PG X tg g) (hs : swapsWithSole [tg] e pos.line X.env = pure false := by rfl) (hw : swappedStores [tg] e X.env = pure none := by rfl)
    (h1 : (assignEach [tg] X.env).map (·.2) = [assign tg X.env] := by rfl) : PS X (.Assign [tg] e pos) (tAsg te g) := by
  intro pins s σ H D I h
  refine wpAny_Assign_stores (thn (he pins s σ H _ I h) fun v s1 ⟨x, H1, I1, r1, q1⟩ => ?_) hs hw
  rw [h1]
  exact thn (hg pins s1 σ H1 x v _ I1 r1 q1) fun _ s2 q => q
/-- name = value -/
theorem ps_set {i : Nat} {x : Str} {e : Expr} {te : TE} {pos' : Pos} (hN : X.N.Nodup) (hi : X.N[i]? = some x) (hx : Loc X.env.scope x) (he : PE X e te) (hs : swapsWith e (some (.Name x pos')) pos.line X.env = pure false := by rfl) (hf : X.fn x = true ∨ X.env.scope.names.lookup x = some .local := by first | exact .inl rfl | exact .inr rfl | assumption) :
    PS X (.Assign [.Name x pos'] e pos) (tAsg te (gName i)) := by
  intro pins s σ H D I h
  refine wpAny_Assign_Name (thn (he pins s σ H _ I h) fun v s1 ⟨y, H1, I1, r1, q1⟩ => ?_) hs
  exact store_ok I1 hN hi hx r1 (fun s2 I2 => ⟨_, H1, I2, q1⟩) hf
end

/-! ### while -/
section
variable {X : Cx} {pos : Pos}
end

/-! ### what a loop or a comprehension walks -/
/-- at turn i: it yields x (the heap may grow), or it stops -/
structure It where
  go : Nat → Hp → Prop
  yld : Nat → Hp → V → Hp → Prop
  stop : Nat → Hp → Prop
/-- the iterator's own objects may turn: they are not the frame's, not pinned, younger than the entry (or a comprehension's own) -/
def FpOk (X : Cx) (pins : List (Addr × Obj)) (H : Hp) (b : Addr) : Prop :=
  H b = none ∧ b ≠ X.env.locals ∧ b ∉ X.fs ∧ (b ∈ X.ex ∨ X.s₀.heap.objs.size ≤ b) ∧ (∀ x c, X.env.cells.lookup x = some c → c ≠ b) ∧ ∀ p ∈ X.pn ++ pins, p.1 ≠ b
theorem Inv.fpOk {X : Cx} {pins : List (Addr × Obj)} {σ : St} {H H' : Hp} {s : Shared} {b : Addr} (I : Inv X pins σ H s) (hb : s.heap.objs.size ≤ b) (hn : H' b = none) : FpOk X pins H' b := by
  refine ⟨hn, Nat.ne_of_gt (Nat.lt_of_lt_of_le I.lt hb), I.nofs hb, .inr (Nat.le_trans I.sz hb), fun x c e z => ?_, fun p hp z => ?_⟩
  · obtain ⟨v, q⟩ := I.cell x c e
    exact absurd (Nat.lt_of_lt_of_le q.lt (by rw [z]; exact hb)) (Nat.lt_irrefl _)
  · exact absurd (Nat.lt_of_lt_of_le (Heap.lt_size (I.pin p hp).1) (by rw [z]; exact hb)) (Nat.lt_irrefl _)
structure Turn (P : Program) (w : World) (K : PySem.W.Frag) (tg : Expr) (J : It) (fp : List Addr) (it : Addr) (tn : Nat → Heap → Prop) : Prop where
  mem : it ∈ fp
  obj : ∀ i h, tn i h → ∀ b ∈ fp, ∃ o, h.get? b = some o ∧ ∀ v, o.data ≠ .cell v
  keep : ∀ i h h', tn i h → (∀ b ∈ fp, ∀ o, h.get? b = some o → h'.get? b = some o) → tn i h'
  item : ∀ (X : Cx), X.prog = P → X.w = w → X.K = K → X.calm = true → ∀ (i : Nat) (pins : List (Addr × Obj)) (s : Shared) (σ : St) (H : Hp) (E : Value → Shared → Prop), Inv X pins σ H s → (∀ b ∈ fp, FpOk X pins H b) → tn i s.heap → J.go i H →
    wpAny (model P w) X.A (pyNext (.ref it)) (fun r s1 => ∃ u, r = some u ∧
      wpAny (model P w) X.A (letOwnedTupleGo tg (.ref it) u) (fun _ s2 => ∃ x H', Inv X pins σ H' s2 ∧ RelV x u ∧ J.yld i H x H' ∧ tn (i + 1) s2.heap ∧ ∀ b ∈ fp, H' b = none) E s1) E s
  done : ∀ (X : Cx), X.prog = P → X.w = w → X.K = K → X.calm = true → ∀ (i : Nat) (pins : List (Addr × Obj)) (s : Shared) (σ : St) (H : Hp) (E : Value → Shared → Prop), Inv X pins σ H s → (∀ b ∈ fp, FpOk X pins H b) → tn i s.heap → J.stop i H →
    wpAny (model P w) X.A (pyNext (.ref it)) (fun r s1 => r = none ∧ Inv X pins σ H s1) E s
  self : ∀ (A : Around) (i : Nat) (s : Shared) (Q : Value → Shared → Prop) (E : Value → Shared → Prop), tn i s.heap → Q (.ref it) s → wpAny (model P w) A (pyIter (.ref it)) Q E s
abbrev TI := St → Hp → (It → Hp → Prop) → Prop
/-- an iterator has come -/
def PIE (X : Cx) (pins : List (Addr × Obj)) (σ : St) (tg : Expr) (R : It → Hp → Prop) (itv : Value) (s2 : Shared) : Prop :=
  ∃ (it : Addr) (fp : List Addr) (tn : Nat → Heap → Prop) (J : It) (H' : Hp), itv = .ref it ∧ Inv X pins σ H' s2 ∧ Turn X.prog X.w X.K tg J fp it tn ∧ tn 0 s2.heap ∧ (∀ b ∈ fp, FpOk X pins H' b) ∧ R J H'
def PI (X : Cx) (tg iter : Expr) (wi : TI) : Prop :=
  ∀ (pins : List (Addr × Obj)) (s : Shared) (σ : St) (H : Hp) (R : It → Hp → Prop), Inv X pins σ H s → wi σ H R →
    wpAny (model X.prog X.w) X.A (eval iter X.env) (fun v s1 => wpAny (model X.prog X.w) X.A (pyIter v) (PIE X pins σ tg R) X.xe s1) X.xe s

/-- the step ahead of the store is nothing for an iterator that keeps no tuple -/
theorem go_of {M : Model} {A : Around} {E : Value → Shared → Prop} {s : Shared} {tg : Expr} {it : Addr} {u : Value} {o : Obj} {n : String} {vs : Array Value} {Q : Unit → Shared → Prop} (ho : s.heap.get? it = some o) (hc : o.cls = .type n) (hd : o.data = .fields vs)
    (hn : ["enumerate", "zip", "dict_itemiterator", "dict_reverseitemiterator", "odict_iterator", "itertools.zip_longest", "itertools.pairwise"].contains n = false) (hQ : Q () s) : wpAny M A (letOwnedTupleGo tg (.ref it) u) Q E s := by
  unfold letOwnedTupleGo
  cases tg <;> first
    | exact wpAny_pure hQ
    | (cases u <;> first
        | exact wpAny_pure hQ
        | (refine wpAny_bind (wpAny_load ho ?_)
           rw [hc, hd]
           show wpAny M A (if (["enumerate", "zip", "dict_itemiterator", "dict_reverseitemiterator", "odict_iterator", "itertools.zip_longest", "itertools.pairwise"].contains n && vs[0]? == some (rawInt _)) = true then _ else _) Q E s
           rw [if_neg (by intro h; rw [hn, Bool.false_and] at h; cases h)]
           exact wpAny_pure hQ))

/-- the list at a, as it stands at each turn (a loop may append to it) -/
def Itl (K : PySem.W.Frag) (a : Addr) : It :=
  ⟨fun i H => ∃ xs x, SqL K H a xs ∧ xs[i]? = some x, fun i H x H' => H' = H ∧ ∀ xs, SqL K H a xs → xs[i]? = some x, fun i H => ∃ xs, SqL K H a xs ∧ xs.length ≤ i⟩
def Itt (K : PySem.W.Frag) (a : Addr) : It :=
  ⟨fun i H => ∃ xs x, SqT K H a xs ∧ xs[i]? = some x, fun i H x H' => H' = H ∧ ∀ xs, SqT K H a xs → xs[i]? = some x, fun i H => ∃ xs, SqT K H a xs ∧ xs.length ≤ i⟩
/-- lo, lo + 1, .. (n of them) -/
def Itr (lo : Int) (n : Nat) : It := ⟨fun i _ => i < n, fun i H x H' => H' = H ∧ x = .int (lo + i), fun i _ => n ≤ i⟩
theorem turn_list {P : Program} {w : World} {K : PySem.W.Frag} {tg : Expr} (a it : Addr) : Turn P w K tg (Itl K a) [it] it (fun i h => h.IsListIter it a i) where
  mem := by simp
  obj := fun i h st b hb => by
    have e : b = it := by simpa using hb
    subst e
    obtain ⟨o, e, c, d⟩ := st
    exact ⟨o, e, fun v z => by rw [d] at z; cases z⟩
  keep := fun i h h' st k => st.at fun o e => k it (by simp) o e
  item := by
    intro X hP hw hK hc i pins s σ H E I hf st hg
    subst hP hw hK
    obtain ⟨xs, x, hq, hx⟩ := hg
    obtain ⟨its, rv, p, hz⟩ := I.list hq
    obtain ⟨u, hu, ru⟩ := rv.get hx
    obtain ⟨f0, f1, f2, f3, f4, f5⟩ := hf it (by simp)
    refine wpAny_pyNext_list_item st p.isList (x := u) (by simpa using hu) fun h' st' sb => ?_
    have I1 : Inv X pins σ H { s with heap := h' } := I.turned (t' := s.toks) (fun b o hb e => (sb.2 b hb).trans e) f0 f1 f3 f4 f5
    obtain ⟨o, e, c, d⟩ := id st'
    exact ⟨u, rfl, go_of (s := { s with heap := h' }) e c d (by decide) ⟨x, H, I1, ru, ⟨rfl, fun ys hy => by rw [I.list_inj hy hq]; exact hx⟩, st', fun b hb => (hf b hb).1⟩⟩
  done := by
    intro X hP hw hK hc i pins s σ H E I hf st hg
    subst hP hw hK
    obtain ⟨xs, hq, hx⟩ := hg
    obtain ⟨its, rv, p, hz⟩ := I.list hq
    obtain ⟨f0, f1, f2, f3, f4, f5⟩ := hf it (by simp)
    have hl := rv.length
    exact wpAny_pyNext_list_end (I.ok.hd hc) st p.isList (by simp; omega) fun h' eb => ⟨rfl, I.turned (t' := s.toks) (fun b o hb e => eb b o hb e) f0 f1 f3 f4 f5⟩
  self := fun _ _ _ _ _ st h => wpAny_pyIter_listiter st h
theorem turn_tuple {P : Program} {w : World} {K : PySem.W.Frag} {tg : Expr} (a it : Addr) : Turn P w K tg (Itt K a) [it] it (fun i h => h.IsTupleIter it a i) where
  mem := by simp
  obj := fun i h st b hb => by
    have e : b = it := by simpa using hb
    subst e
    obtain ⟨o, e, c, d⟩ := st
    exact ⟨o, e, fun v z => by rw [d] at z; cases z⟩
  keep := fun i h h' st k => st.at fun o e => k it (by simp) o e
  item := by
    intro X hP hw hK hc i pins s σ H E I hf st hg
    subst hP hw hK
    obtain ⟨xs, x, hq, hx⟩ := hg
    obtain ⟨its, rv, p, hz⟩ := I.tuple hq
    obtain ⟨u, hu, ru⟩ := rv.get hx
    obtain ⟨f0, f1, f2, f3, f4, f5⟩ := hf it (by simp)
    refine wpAny_pyNext_tuple_item st (show s.heap.IsTuple a its.toArray from p) (x := u) (by simpa using hu) fun h' st' sb => ?_
    have I1 : Inv X pins σ H { s with heap := h' } := I.turned (t' := s.toks) (fun b o hb e => (sb.2 b hb).trans e) f0 f1 f3 f4 f5
    obtain ⟨o, e, c, d⟩ := id st'
    exact ⟨u, rfl, go_of (s := { s with heap := h' }) e c d (by decide) ⟨x, H, I1, ru, ⟨rfl, fun ys hy => by rw [I.tuple_inj hy hq]; exact hx⟩, st', fun b hb => (hf b hb).1⟩⟩
  done := by
    intro X hP hw hK hc i pins s σ H E I hf st hg
    subst hP hw hK
    obtain ⟨xs, hq, hx⟩ := hg
    obtain ⟨its, rv, p, hz⟩ := I.tuple hq
    obtain ⟨f0, f1, f2, f3, f4, f5⟩ := hf it (by simp)
    have hl := rv.length
    exact wpAny_pyNext_tuple_end (I.ok.hd hc) st (show s.heap.IsTuple a its.toArray from p) (by simp; omega) fun h' eb => ⟨rfl, I.turned (t' := s.toks) (fun b o hb e => eb b o hb e) f0 f1 f3 f4 f5⟩
  self := fun _ _ _ _ _ st h => wpAny_pyIter_tupleiter st h
theorem turn_range {P : Program} {w : World} {K : PySem.W.Frag} {tg : Expr} (it : Addr) (lo : Int) (n : Nat) : Turn P w K tg (Itr lo n) [it] it (fun i h => IsRangeIter h it (lo + (i : Nat) * 1) ((n : Int) - (i : Nat)) 1) where
  mem := by simp
  obj := fun i h st b hb => by
    have e : b = it := by simpa using hb
    subst e
    exact ⟨_, st, fun v z => by
      have z' : Data.fields _ = Data.cell v := z
      cases z'⟩
  keep := fun i h h' st k => k it (by simp) _ st
  item := by
    intro X hP hw hK hc i pins s σ H E I hf st hg
    subst hP hw hK
    obtain ⟨f0, f1, f2, f3, f4, f5⟩ := hf it (by simp)
    have W := Walks.range (prog := X.prog) (w := X.w) (I.ok.hd hc) it lo 1 n
    refine W.item i s _ _ hg st fun v h' tk hv st' kk => ?_
    obtain ⟨t, rfl⟩ := hv
    have I1 : Inv X pins σ H { s with heap := h', toks := tk } := I.turned (fun b o hb e => kk b o (by simpa using hb) e) f0 f1 f3 f4 f5
    refine ⟨_, rfl, go_of (s := { s with heap := h', toks := tk }) (n := "range_iterator") st' rfl rfl (by decide) ⟨.int (lo + i), H, I1, ⟨t, ?_⟩, ⟨rfl, rfl⟩, st', fun b hb => (hf b hb).1⟩⟩
    rw [Int.mul_one]
  done := by
    intro X hP hw hK hc i pins s σ H E I hf st hg
    subst hP hw hK
    obtain ⟨f0, f1, f2, f3, f4, f5⟩ := hf it (by simp)
    exact wpAny_pyNext_range_end (I.ok.hd hc) st (by have : n ≤ i := hg; omega) fun h' eb => ⟨rfl, I.turned (t' := s.toks) (fun b o hb e => eb b o hb e) f0 f1 f3 f4 f5⟩
  self := fun _ _ _ _ _ st h => wpAny_pyIter_rangeiter st h
end L2

namespace L2
open PySem PySem.Spec PyProof.Rows
section
variable {X : Cx} {tg : Expr}
def iList (K : PySem.W.Frag) (tl : TE) : TI := fun σ H R => tl σ H fun x H1 => ∃ a, x = .ref a ∧ (∃ xs, SqL K H1 a xs) ∧ R (Itl K a) H1
def iTup (K : PySem.W.Frag) (tl : TE) : TI := fun σ H R => tl σ H fun x H1 => ∃ a, x = .ref a ∧ (∃ xs, SqT K H1 a xs) ∧ R (Itt K a) H1
theorem pi_list {l : Expr} {tl : TE} (hl : PE X l tl) : PI X tg l (iList X.K tl) := by
  intro pins s σ H R I h
  refine thn (hl pins s σ H _ I h) fun v s1 ⟨x, H1, I1, r1, q1⟩ => ?_
  obtain ⟨a, e, ⟨xs, hq⟩, q⟩ := q1
  subst e
  cases r1
  obtain ⟨its, rv, p, hz⟩ := I1.list hq
  refine wpAny_pyIter_list p.isList ?_
  refine ⟨s1.heap.objs.size, [s1.heap.objs.size], _, _, H1, rfl, I1.kept (t' := s1.toks) fun b o e => Heap.get?_push_of_some _ e, turn_list a _, ⟨_, Heap.get?_push_size _ rfl, rfl, rfl⟩, fun b hb => ?_, q⟩
  have e : b = s1.heap.objs.size := by simpa using hb
  subst e
  exact I1.fpOk (Nat.le_refl _) (I1.hok.fresh (Nat.le_refl _))
theorem pi_tup {l : Expr} {tl : TE} (hl : PE X l tl) : PI X tg l (iTup X.K tl) := by
  intro pins s σ H R I h
  refine thn (hl pins s σ H _ I h) fun v s1 ⟨x, H1, I1, r1, q1⟩ => ?_
  obtain ⟨a, e, ⟨xs, hq⟩, q⟩ := q1
  subst e
  cases r1
  obtain ⟨its, rv, p, hz⟩ := I1.tuple hq
  refine wpAny_pyIter_tuple (show s1.heap.IsTuple a its.toArray from p) ?_
  refine ⟨s1.heap.objs.size, [s1.heap.objs.size], _, _, H1, rfl, I1.kept (t' := s1.toks) fun b o e => Heap.get?_push_of_some _ e, turn_tuple a _, ⟨_, Heap.get?_push_size _ rfl, rfl, rfl⟩, fun b hb => ?_, q⟩
  have e : b = s1.heap.objs.size := by simpa using hb
  subst e
  exact I1.fpOk (Nat.le_refl _) (I1.hok.fresh (Nat.le_refl _))
/-- a range object just made, walked -/
theorem range_it {pins : List (Addr × Obj)} {σ : St} {H : Hp} {s : Shared} {R : It → Hp → Prop} {E : Value → Shared → Prop} {lo hi : Int} {t u v : Tok} {tk : Nat} (I : Inv X pins σ H s) (h1 : -(2 ^ 62) ≤ lo) (h2 : lo < 2 ^ 62) (h3 : -(2 ^ 62) ≤ hi) (h4 : hi < 2 ^ 62)
    (q : R (Itr lo (hi - lo).toNat) H) : wpAny (model X.prog X.w) X.A (pyIter (.ref s.heap.objs.size)) (PIE X pins σ tg R) E { s with heap := s.heap.push { cls := .type "range", data := .fields #[.int lo t, .int hi u, .int 1 v] }, toks := tk } := by
  refine wpAny_pyIter_range (IsRange.new ..) (small_one h1 h2 h3 h4) ?_
  have I1 : Inv X pins σ H { s with heap := s.heap.push { cls := .type "range", data := .fields #[.int lo t, .int hi u, .int 1 v] }, toks := tk } := I.kept fun b o e => Heap.get?_push_of_some _ e
  refine ⟨(s.heap.push { cls := .type "range", data := .fields #[.int lo t, .int hi u, .int 1 v] }).objs.size, [(s.heap.push { cls := .type "range", data := .fields #[.int lo t, .int hi u, .int 1 v] }).objs.size], _, _, H, rfl,
    I1.kept (t' := tk) fun b o e => Heap.get?_push_of_some _ e, turn_range _ lo (hi - lo).toNat, ?_, fun b hb => ?_, q⟩
  · have e1 : lo + ((0 : Nat) : Int) * 1 = lo := by simp
    have e2 : (((hi - lo).toNat : Nat) : Int) - ((0 : Nat) : Int) = Builtin.Range.rangeSize lo hi 1 := by rw [rangeSize_one]; split <;> omega
    show IsRangeIter _ _ (lo + ((0 : Nat) : Int) * 1) ((((hi - lo).toNat : Nat) : Int) - ((0 : Nat) : Int)) 1
    rw [e1, e2]
    exact Heap.get?_push_size _ rfl
  · have e : b = (s.heap.push { cls := .type "range", data := .fields #[.int lo t, .int hi u, .int 1 v] }).objs.size := by simpa using hb
    subst e
    exact I1.fpOk (Nat.le_refl _) (I1.hok.fresh (Nat.le_refl _))
def iRng1 (ta : TA) : TI := fun σ H R => ta σ H fun vs H1 => ∃ j : Int, vs = [.int j] ∧ -(2 ^ 62) ≤ j ∧ j < 2 ^ 62 ∧ R (Itr 0 j.toNat) H1
def iRng2 (ta : TA) : TI := fun σ H R => ta σ H fun vs H1 => ∃ i j : Int, vs = [.int i, .int j] ∧ (-(2 ^ 62) ≤ i ∧ i < 2 ^ 62 ∧ -(2 ^ 62) ≤ j ∧ j < 2 ^ 62) ∧ R (Itr i (j - i).toNat) H1
theorem pi_range1 {a : Expr} {ta : TA} {p pos : Pos} (hg : Gl X "range") (hm : X.mg "range" = none) (ha : PA X [a] ta) (hs : starEach [a] X.env = [(false, eval a X.env)] := by rfl) : PI X tg (.Call (.Name "range" p) [a] [] pos) (iRng1 ta) := by
  intro pins s σ H R I h
  refine Call_ (ld_blt I hg hm boot_range (PyProof.Rows.callWith_type1 (thn (ha pos pins s σ H _ I h) fun us s1 ⟨vs, H1, I1, r1, q1⟩ => ?_) hs rfl))
  obtain ⟨j, e, q1, q2, q⟩ := q1
  subst e
  cases r1 with
  | cons r rr =>
    cases rr
    obtain ⟨t, rfl⟩ := r
    exact call_range_1 (range_it I1 (by omega) (by omega) q1 q2 (by simpa using q))
theorem pi_range2 {a b : Expr} {ta : TA} {p pos : Pos} (hg : Gl X "range") (hm : X.mg "range" = none) (ha : PA X [a, b] ta) (hs : starEach [a, b] X.env = [(false, eval a X.env), (false, eval b X.env)] := by rfl) (hs2 : starEach [b] X.env = [(false, eval b X.env)] := by rfl) :
    PI X tg (.Call (.Name "range" p) [a, b] [] pos) (iRng2 ta) := by
  intro pins s σ H R I h
  refine Call_ (ld_blt I hg hm boot_range (PyProof.Rows.callWith_type1 (thn (ha pos pins s σ H _ I h) fun us s1 ⟨vs, H1, I1, r1, q1⟩ => ?_) (by rw [hs, hs2]) (by rw [hs2]; rfl)))
  obtain ⟨i, j, e, ⟨q1, q2, q3, q4⟩, q⟩ := q1
  subst e
  cases r1 with
  | cons r rr =>
    cases rr with
    | cons r' rr =>
      cases rr
      obtain ⟨t, rfl⟩ := r
      obtain ⟨t', rfl⟩ := r'
      exact call_range_2 (range_it I1 q1 q2 q3 q4 q)

/-! ### for -/
/-- W: the invariant by the turn and a measure; N: what the body is to reach -/
def tFor (wi : TI) (g : TG) (tb : TS) : TS := fun D σ H => wi σ H fun J H1 => ∃ W : Nat → Nat → St → Hp → Prop, (∃ m, W 0 m σ H1) ∧ ∀ i m σ H, W i m σ H →
  (J.stop i H ∧ D.nx σ H) ∨ (J.go i H ∧ ∃ N : St → Hp → Prop, (∀ σ' H', N σ' H' → ∃ m', m' < m ∧ W (i + 1) m' σ' H') ∧ ∀ x H', J.yld i H x H' → g x σ H' fun σ2 H2 => tb { D with nx := N, ct := N, bk := D.nx } σ2 H2)
/-- the records at fp as they stand -/
def pinsAt (fp : List Addr) (h : Heap) : List (Addr × Obj) := fp.filterMap fun b => (h.get? b).map fun o => (b, o)
theorem mem_pinsAt {fp : List Addr} {h : Heap} {b : Addr} {o : Obj} (hb : b ∈ fp) (e : h.get? b = some o) : (b, o) ∈ pinsAt fp h := List.mem_filterMap.mpr ⟨b, hb, by rw [e]; rfl⟩
theorem of_pinsAt {fp : List Addr} {h : Heap} {p : Addr × Obj} (hp : p ∈ pinsAt fp h) : p.1 ∈ fp ∧ h.get? p.1 = some p.2 := by
  obtain ⟨b, hb, e⟩ := List.mem_filterMap.mp hp
  cases q : h.get? b with
  | none => rw [q] at e; cases e
  | some o =>
    rw [q] at e
    have e' : (b, o) = p := Option.some.inj e
    subst e'
    exact ⟨hb, q⟩
theorem Inv.pinned {pins : List (Addr × Obj)} {σ : St} {H : Hp} {s : Shared} {fp : List Addr} (I : Inv X pins σ H s) (hf : ∀ b ∈ fp, FpOk X pins H b) (ho : ∀ b ∈ fp, ∃ o, s.heap.get? b = some o ∧ ∀ v, o.data ≠ .cell v) : Inv X (pins ++ pinsAt fp s.heap) σ H s :=
  I.pins_of fun p hp => (List.mem_append.mp hp).elim (fun z => I.pin p (List.mem_append_right _ z)) fun z => by
    obtain ⟨hb, e⟩ := of_pinsAt z
    obtain ⟨f0, f1, f2, _⟩ := hf p.1 hb
    obtain ⟨o, e', d⟩ := ho p.1 hb
    rw [e] at e'; cases e'
    exact ⟨e, f0, f1, f2, d⟩
theorem Inv.unpinned {pins pl : List (Addr × Obj)} {σ : St} {H : Hp} {s : Shared} (I : Inv X (pins ++ pl) σ H s) : Inv X pins σ H s := I.pins_of fun p hp => I.pin p (List.mem_append_right _ (List.mem_append_left _ hp))
theorem ps_for {iter : Expr} {body : List Stmt} {wi : TI} {g : TG} {tb : TS} {pos : Pos} (hp : PassesOwn (model X.prog X.w) X.A X.env X.xe) (hc : X.calm = true) (hi : PI X tg iter wi) (hg : PG X tg g) (hb : PSs X body tb)
    (hs : ∀ x, foldedSetIterable iter X.env x = pure x := by intro _; rfl) : PS X (.For tg iter body [] pos) (tFor wi g tb) := by
  intro pins s σ H D I h
  refine wpAny_For (thn (hi pins s σ H _ I h) fun v s1 h1 => thn h1 fun itv s2 h2 => ?_) hs
  obtain ⟨it, fp, tn, J, H2, e, I2, T, st2, f2, W, ⟨m0, w0⟩, turn⟩ := h2
  subst e
  -- what stays true of the iterator's objects through the loop
  have stat : ∀ {H' : Hp}, (∀ b ∈ fp, H' b = none) → ∀ b ∈ fp, FpOk X pins H' b := fun hn b hb => ⟨hn b hb, (f2 b hb).2⟩
  refine codeAny_forLoop_any (fun n s' => ∃ i σ' H', Inv X pins σ' H' s' ∧ tn i s'.heap ∧ (∀ b ∈ fp, H' b = none) ∧ W i n σ' H') ?_ m0 ⟨0, σ, H2, I2, st2, fun b hb => (f2 b hb).1, w0⟩
  rintro n s3 ⟨i, σ3, H3, I3, st3, fr3, w3⟩
  rcases turn i n σ3 H3 w3 with ⟨stop, qn⟩ | ⟨go, N, hN, step⟩
  · refine wpAny_passesOwn hp (thn (T.done X rfl rfl rfl hc i pins s3 σ3 H3 X.xe I3 (stat fr3) st3 stop) fun r s4 ⟨hr, I4⟩ => ?_)
    subst hr
    exact wpAny_execs_nil ⟨σ3, H3, I4, qn⟩
  · refine wpAny_passesOwn hp (thn (T.item X rfl rfl rfl hc i pins s3 σ3 H3 X.xe I3 (stat fr3) st3 go) fun r s4 ⟨u, hr, h4⟩ => ?_)
    subst hr
    refine wpAny_passesOwn hp (thn h4 fun _ s5 ⟨x, H5, I5, r5, y5, st5, fr5⟩ => ?_)
    have I5' := I5.pinned (stat fr5) (T.obj _ _ st5)
    refine wpAny_passesOwn hp (thn (hg _ s5 σ3 H5 x u _ I5' r5 (step x H5 y5)) fun _ s6 ⟨σ6, H6, I6, q6⟩ => ?_)
    refine wpAny_passesOwn hp (thn (hb _ s6 σ6 H6 _ I6 q6) fun f s7 q7 => ?_)
    have again : ∀ {σ7 : St} {H7 : Hp}, Inv X (pins ++ pinsAt fp s5.heap) σ7 H7 s7 → N σ7 H7 → ∃ m, m < n ∧ ∃ i σ' H', Inv X pins σ' H' s7 ∧ tn i s7.heap ∧ (∀ b ∈ fp, H' b = none) ∧ W i m σ' H' := fun {σ7 H7} I7 n7 => by
      obtain ⟨m', hm, w7⟩ := hN σ7 H7 n7
      refine ⟨m', hm, i + 1, σ7, H7, I7.unpinned, T.keep _ _ _ st5 fun b hb o e => (I7.pin (b, o) (List.mem_append_right _ (List.mem_append_right _ (mem_pinsAt hb e)))).1, fun b hb => ?_, w7⟩
      obtain ⟨o, e, d⟩ := T.obj _ _ st5 b hb
      exact (I7.pin (b, o) (List.mem_append_right _ (List.mem_append_right _ (mem_pinsAt hb e)))).2.1
    cases f with
    | next => obtain ⟨σ7, H7, I7, n7⟩ := q7; exact again I7 n7
    | cont => obtain ⟨σ7, H7, I7, n7⟩ := q7; exact again I7 n7
    | brk => obtain ⟨σ7, H7, I7, q7⟩ := q7; exact ⟨σ7, H7, I7.unpinned, q7⟩
    | ret v => obtain ⟨x7, σ7, H7, I7, r7, q7⟩ := q7; exact ⟨x7, σ7, H7, I7.unpinned, r7, q7⟩
end

/-! ### the forms one uses -/
/-- over a list that the body leaves as it is -/
theorem for_list {K : PySem.W.Frag} {a : Addr} {xs : List V} {g : TG} {tb : TS} {D : Ends} {σ : St} {H : Hp} (Pv : Nat → St → Hp → Prop) (h0 : Pv 0 σ H) (hl : ∀ i σ H, i ≤ xs.length → Pv i σ H → SqL K H a xs)
    (hs : ∀ i x σ H, xs[i]? = some x → Pv i σ H → g x σ H fun σ2 H2 => tb { D with nx := Pv (i + 1), ct := Pv (i + 1), bk := D.nx } σ2 H2) (hd : ∀ σ H, Pv xs.length σ H → D.nx σ H) :
    ∃ W : Nat → Nat → St → Hp → Prop, (∃ m, W 0 m σ H) ∧ ∀ i m σ H, W i m σ H →
      ((Itl K a).stop i H ∧ D.nx σ H) ∨ ((Itl K a).go i H ∧ ∃ N : St → Hp → Prop, (∀ σ' H', N σ' H' → ∃ m', m' < m ∧ W (i + 1) m' σ' H') ∧ ∀ x H', (Itl K a).yld i H x H' → g x σ H' fun σ2 H2 => tb { D with nx := N, ct := N, bk := D.nx } σ2 H2) := by
  refine ⟨fun i m σ H => m = xs.length - i ∧ i ≤ xs.length ∧ Pv i σ H, ⟨xs.length, by simp, Nat.zero_le _, h0⟩, ?_⟩
  rintro i m σ H ⟨rfl, hi, p⟩
  have q := hl i σ H hi p
  by_cases hlt : i < xs.length
  · refine .inr ⟨⟨xs, xs[i], q, by simp [hlt]⟩, Pv (i + 1), fun σ' H' p' => ⟨xs.length - (i + 1), by omega, rfl, hlt, p'⟩, fun x H' y => ?_⟩
    obtain ⟨e, y⟩ := y
    subst e
    exact hs i x σ _ (y xs q) p
  · have e : i = xs.length := by omega
    subst e
    exact .inl ⟨⟨xs, q, Nat.le_refl _⟩, hd σ H p⟩
theorem for_tup {K : PySem.W.Frag} {a : Addr} {xs : List V} {g : TG} {tb : TS} {D : Ends} {σ : St} {H : Hp} (Pv : Nat → St → Hp → Prop) (h0 : Pv 0 σ H) (hl : ∀ i σ H, i ≤ xs.length → Pv i σ H → SqT K H a xs)
    (hs : ∀ i x σ H, xs[i]? = some x → Pv i σ H → g x σ H fun σ2 H2 => tb { D with nx := Pv (i + 1), ct := Pv (i + 1), bk := D.nx } σ2 H2) (hd : ∀ σ H, Pv xs.length σ H → D.nx σ H) :
    ∃ W : Nat → Nat → St → Hp → Prop, (∃ m, W 0 m σ H) ∧ ∀ i m σ H, W i m σ H →
      ((Itt K a).stop i H ∧ D.nx σ H) ∨ ((Itt K a).go i H ∧ ∃ N : St → Hp → Prop, (∀ σ' H', N σ' H' → ∃ m', m' < m ∧ W (i + 1) m' σ' H') ∧ ∀ x H', (Itt K a).yld i H x H' → g x σ H' fun σ2 H2 => tb { D with nx := N, ct := N, bk := D.nx } σ2 H2) := by
  refine ⟨fun i m σ H => m = xs.length - i ∧ i ≤ xs.length ∧ Pv i σ H, ⟨xs.length, by simp, Nat.zero_le _, h0⟩, ?_⟩
  rintro i m σ H ⟨rfl, hi, p⟩
  have q := hl i σ H hi p
  by_cases hlt : i < xs.length
  · refine .inr ⟨⟨xs, xs[i], q, by simp [hlt]⟩, Pv (i + 1), fun σ' H' p' => ⟨xs.length - (i + 1), by omega, rfl, hlt, p'⟩, fun x H' y => ?_⟩
    obtain ⟨e, y⟩ := y
    subst e
    exact hs i x σ _ (y xs q) p
  · have e : i = xs.length := by omega
    subst e
    exact .inl ⟨⟨xs, q, Nat.le_refl _⟩, hd σ H p⟩
theorem for_range {lo : Int} {n : Nat} {g : TG} {tb : TS} {D : Ends} {σ : St} {H : Hp} (Pv : Nat → St → Hp → Prop) (h0 : Pv 0 σ H)
    (hs : ∀ i σ H, i < n → Pv i σ H → g (.int (lo + i)) σ H fun σ2 H2 => tb { D with nx := Pv (i + 1), ct := Pv (i + 1), bk := D.nx } σ2 H2) (hd : ∀ σ H, Pv n σ H → D.nx σ H) :
    ∃ W : Nat → Nat → St → Hp → Prop, (∃ m, W 0 m σ H) ∧ ∀ i m σ H, W i m σ H →
      ((Itr lo n).stop i H ∧ D.nx σ H) ∨ ((Itr lo n).go i H ∧ ∃ N : St → Hp → Prop, (∀ σ' H', N σ' H' → ∃ m', m' < m ∧ W (i + 1) m' σ' H') ∧ ∀ x H', (Itr lo n).yld i H x H' → g x σ H' fun σ2 H2 => tb { D with nx := N, ct := N, bk := D.nx } σ2 H2) := by
  refine ⟨fun i m σ H => m = n - i ∧ i ≤ n ∧ Pv i σ H, ⟨n, by simp, Nat.zero_le _, h0⟩, ?_⟩
  rintro i m σ H ⟨rfl, hi, p⟩
  by_cases hlt : i < n
  · refine .inr ⟨hlt, Pv (i + 1), fun σ' H' p' => ⟨n - (i + 1), by omega, rfl, hlt, p'⟩, fun x H' y => ?_⟩
    obtain ⟨e, y⟩ := y
    subst e y
    exact hs i σ _ hlt p
  · have e : i = n := by omega
    subst e
    exact .inl ⟨Nat.le_refl _, hd σ H p⟩
end L2

namespace L2
open PySem PySem.Spec PyProof.Rows

abbrev R2 := V → V → Hp → VK → Prop
/-- a two-place operation on values: f is binaryOp op, inplaceOp op or compareOp op -/
def OpR (X : Cx) (f : Value → Value → Sem Value) (r : R2) : Prop :=
  ∀ (pins : List (Addr × Obj)) (s : Shared) (σ : St) (H : Hp) (x y : V) (v u : Value) (Q : VK), Inv X pins σ H s → RelV x v → RelV y u → r x y H Q →
    wpAny (model X.prog X.w) X.A (f v u) (EP X pins σ Q) X.xe s
/-- a one-place operation -/
def UnR (X : Cx) (f : Value → Sem Value) (r : V → Hp → VK → Prop) : Prop :=
  ∀ (pins : List (Addr × Obj)) (s : Shared) (σ : St) (H : Hp) (x : V) (v : Value) (Q : VK), Inv X pins σ H s → RelV x v → r x H Q →
    wpAny (model X.prog X.w) X.A (f v) (EP X pins σ Q) X.xe s
/-- a call of a value that is known (a builtin, a type) with values -/
def CallR (X : Cx) (f : Value) (r : List V → Hp → VK → Prop) : Prop :=
  ∀ (pins : List (Addr × Obj)) (s : Shared) (σ : St) (H : Hp) (xs : List V) (us : List Value) (Q : VK), Inv X pins σ H s → Vals xs us → r xs H Q →
    wpAny (model X.prog X.w) X.A (call f us) (EP X pins σ Q) X.xe s
/-- a value's truth -/
def TruR (X : Cx) (r : V → Hp → (Bool → Hp → Prop) → Prop) : Prop :=
  ∀ (pins : List (Addr × Obj)) (s : Shared) (σ : St) (H : Hp) (x : V) (v : Value) (Q : Bool → Hp → Prop), Inv X pins σ H s → RelV x v → r x H Q →
    wpAny (model X.prog X.w) X.A (truthy v) (TP X pins σ Q) X.xe s

def tOp (r : R2) (ta tb : TE) : TE := fun σ H Q => ta σ H fun x H1 => tb σ H1 fun y H2 => r x y H2 Q
def tUn (r : V → Hp → VK → Prop) (ta : TE) : TE := fun σ H Q => ta σ H fun x H1 => r x H1 Q
/-- ints in, under C, and a value out -/
def rI (C : Int → Int → Prop) (g : Int → Int → V) : R2 := fun x y H Q => ∃ i j, x = .int i ∧ y = .int j ∧ C i j ∧ Q (g i j) H
def rI0 (g : Int → Int → V) : R2 := fun x y H Q => ∃ i j, x = .int i ∧ y = .int j ∧ Q (g i j) H
def rU (g : Int → V) : V → Hp → VK → Prop := fun x H Q => ∃ i, x = .int i ∧ Q (g i) H

section
variable {X : Cx} {a b c : Expr} {ta tb tc : TE} {pos : Pos}

theorem binT (ha : PE X a ta) (hb : PE X b tb) {pins : List (Addr × Obj)} {s : Shared} {σ : St} {H : Hp} {R : V → V → Hp → Prop} (I : Inv X pins σ H s)
    (h : ta σ H fun x H1 => tb σ H1 fun y H2 => R x y H2) {Q : Value → Shared → Prop} {f : Value → Value → Sem Value}
    (hf : ∀ v u s2 x y H2, Inv X pins σ H2 s2 → RelV x v → RelV y u → R x y H2 → wpAny (model X.prog X.w) X.A (f v u) Q X.xe s2) :
    wpAny (model X.prog X.w) X.A (eval a X.env) (fun v s₁ => wpAny (model X.prog X.w) X.A (eval b X.env) (fun u s₂ => wpAny (model X.prog X.w) X.A (f v u) Q X.xe s₂) X.xe s₁) X.xe s := by
  refine thn (ha pins s σ H _ I h) fun v s1 ⟨x, H1, I1, r1, q1⟩ => ?_
  refine thn (hb pins s1 σ H1 _ I1 q1) fun u s2 ⟨y, H2, I2, r2, q2⟩ => ?_
  exact hf v u s2 x y H2 I2 r1 r2 q2

theorem pe_op {op : Operator} {r : R2} (ho : OpR X (binaryOp op) r) (ha : PE X a ta) (hb : PE X b tb) : PE X (.BinOp a op b pos) (tOp r ta tb) := by
  intro pins s σ H Q I h
  exact wpAny_BinOp (binT ha hb I h fun v u s2 x y H2 I2 rx ry q => ho pins s2 σ H2 x y v u Q I2 rx ry q)
theorem pe_un {op : UnaryOp} {r : V → Hp → VK → Prop} (ho : UnR X (unaryOp op) r) (ha : PE X a ta) : PE X (.UnaryOp op a pos) (tUn r ta) := by
  intro pins s σ H Q I h
  exact UnaryOp_ (thn (ha pins s σ H _ I h) fun v s1 ⟨x, H1, I1, r1, q1⟩ => ho pins s1 σ H1 x v Q I1 r1 q1)

/-! ### ints -/
theorem opI {f : Value → Value → Sem Value} {C : Int → Int → Prop} {g : Int → Int → Int}
    (rule : ∀ (i j : Int) (t u : Tok) (s : Shared) (Q : Value → Shared → Prop) (E : Value → Shared → Prop), C i j → Q (.int (g i j) s.toks) { s with toks := s.toks + 1 } → wpAny (model X.prog X.w) X.A (f (.int i t) (.int j u)) Q E s) :
    OpR X f (rI C fun i j => .int (g i j)) := by
  intro pins s σ H x y v u Q I rx ry h
  obtain ⟨i, j, rfl, rfl, hc, q⟩ := h
  obtain ⟨t, rfl⟩ := rx
  obtain ⟨t', rfl⟩ := ry
  exact rule i j t t' s _ _ hc ⟨.int (g i j), H, I.tok _, ⟨_, rfl⟩, q⟩
theorem opI0 {f : Value → Value → Sem Value} {g : Int → Int → Int}
    (rule : ∀ (i j : Int) (t u : Tok) (s : Shared) (Q : Value → Shared → Prop) (E : Value → Shared → Prop), Q (.int (g i j) s.toks) { s with toks := s.toks + 1 } → wpAny (model X.prog X.w) X.A (f (.int i t) (.int j u)) Q E s) :
    OpR X f (rI0 fun i j => .int (g i j)) := by
  intro pins s σ H x y v u Q I rx ry h
  obtain ⟨i, j, rfl, rfl, q⟩ := h
  obtain ⟨t, rfl⟩ := rx
  obtain ⟨t', rfl⟩ := ry
  exact rule i j t t' s _ _ ⟨.int (g i j), H, I.tok _, ⟨_, rfl⟩, q⟩
theorem opB0 {f : Value → Value → Sem Value} {g : Int → Int → Bool}
    (rule : ∀ (i j : Int) (t u : Tok) (s : Shared) (Q : Value → Shared → Prop) (E : Value → Shared → Prop), Q (.bool (g i j)) s → wpAny (model X.prog X.w) X.A (f (.int i t) (.int j u)) Q E s) :
    OpR X f (rI0 fun i j => .bl (g i j)) := by
  intro pins s σ H x y v u Q I rx ry h
  obtain ⟨i, j, rfl, rfl, q⟩ := h
  obtain ⟨t, rfl⟩ := rx
  obtain ⟨t', rfl⟩ := ry
  exact rule i j t t' s _ _ ⟨.bl (g i j), H, I, rfl, q⟩

def CDiv (i j : Int) : Prop := 0 < j ∧ j < 1073741824
def CPow (i j : Int) : Prop := 0 ≤ j ∧ j ≤ 1000000 ∧ i.natAbs < 2 ^ 64
def CMul (i j : Int) : Prop := (-(2 ^ 64) < i ∧ i < 2 ^ 64) ∨ (-(2 ^ 64) < j ∧ j < 2 ^ 64)
theorem CMul.ok {i j : Int} (h : CMul i j) : IntMulOk i j := by
  rcases h with ⟨h1, h2⟩ | ⟨h1, h2⟩
  · exact .of_left (intBits_le_64 h1 h2)
  · exact .of_right (intBits_le_64 h1 h2)

theorem op_add : OpR X (binaryOp .Add) (rI0 fun i j => .int (i + j)) := opI0 fun _ _ _ _ _ _ _ q => add_int q
theorem op_sub : OpR X (binaryOp .Sub) (rI0 fun i j => .int (i - j)) := opI0 fun _ _ _ _ _ _ _ q => sub_int q
theorem op_mul : OpR X (binaryOp .Mult) (rI CMul fun i j => .int (i * j)) := opI fun _ _ _ _ _ _ _ hc q => mul_int q hc.ok
/-- // by a positive divisor -/
theorem op_fdiv : OpR X (binaryOp .FloorDiv) (rI CDiv fun i j => .int (i / j)) := opI fun i j _ _ _ _ _ hc q => by
  have h1 : (0 : Int) < j := hc.1
  have h2 : j < 1073741824 := hc.2
  exact floordiv_int (by omega) (by rw [Int.fdiv_eq_ediv_of_nonneg i (by omega)]; exact q) (.inl (PyProof.noPylong_small (by omega)))
/-- % by a positive divisor of any size -/
theorem op_mod : OpR X (binaryOp .Mod) (rI (fun _ j => 0 < j) fun i j => .int (i % j)) := opI fun i j _ _ _ _ _ hc q => by
  have h1 : (0 : Int) < j := hc
  exact mod_int' (by omega) (by rw [Int.fmod_eq_emod_of_nonneg i (by omega)]; exact q)
theorem op_pow : OpR X (binaryOp .Pow) (rI CPow fun i j => .int (i ^ j.toNat)) := opI fun _ _ _ _ _ _ _ hc q => pow_int_small hc.1 hc.2.1 hc.2.2 q


theorem unI {f : Value → Sem Value} {g : Int → Int}
    (rule : ∀ (i : Int) (t : Tok) (s : Shared) (Q : Value → Shared → Prop) (E : Value → Shared → Prop), Q (.int (g i) s.toks) { s with toks := s.toks + 1 } → wpAny (model X.prog X.w) X.A (f (.int i t)) Q E s) :
    UnR X f (rU fun i => .int (g i)) := by
  intro pins s σ H x v Q I rx h
  obtain ⟨i, rfl, q⟩ := h
  obtain ⟨t, rfl⟩ := rx
  exact rule i t s _ _ ⟨.int (g i), H, I.tok _, ⟨_, rfl⟩, q⟩
theorem un_neg : UnR X (unaryOp .USub) (rU fun i => .int (-i)) := unI fun _ _ _ _ _ q => neg_int q

/-! ### bools among ints: n += (a < b) -/
end

/-! ### comparisons -/
/-- the scalars that == tells apart as data does -/
def scal : V → V → Bool
  | .non, .non => true | .non, .int _ => true | .int _, .non => true | .non, .bl _ => true | .bl _, .non => true | .non, .str _ => true | .str _, .non => true
  | .int _, .int _ => true | .bl _, .bl _ => true | .str _, .str _ => true | .byt _, .byt _ => true
  | .int _, .str _ => true | .str _, .int _ => true | .bl _, .str _ => true | .str _, .bl _ => true
  | _, _ => false
def rEq : R2 := fun x y H Q => scal x y = true ∧ Q (.bl (decide (x = y))) H
def rNe : R2 := fun x y H Q => scal x y = true ∧ Q (.bl (!decide (x = y))) H

theorem dec_int {i j : Int} : decide (V.int i = V.int j) = (i == j) := by
  rw [Bool.eq_iff_iff]
  simp
theorem dec_bl {i j : Bool} : decide (V.bl i = V.bl j) = (i == j) := by
  rw [Bool.eq_iff_iff]
  simp
theorem dec_str {i j : Str} : decide (V.str i = V.str j) = (i == j) := by
  rw [Bool.eq_iff_iff]
  simp
theorem dec_byt {i j : Array UInt8} : decide (V.byt i = V.byt j) = (i.toList == j.toList) := by
  rw [Bool.eq_iff_iff]
  cases i
  cases j
  simp

section
variable {X : Cx} {a b c : Expr} {ta tb tc : TE} {pos : Pos}
theorem fin_bl {pins : List (Addr × Obj)} {σ : St} {H : Hp} {s : Shared} {Q : VK} {k k' : Bool} (I : Inv X pins σ H s) (q : Q (.bl k) H) (e : k = k') : EP X pins σ Q (.bool k') s := by
  subst e
  exact ⟨.bl k, H, I, rfl, q⟩
theorem op_eq : OpR X (compareOp .Eq) rEq := by
  intro pins s σ H x y v u Q I rx ry h
  obtain ⟨hs, q⟩ := h
  cases x with
  | non =>
    cases rx
    cases y with
    | non => cases ry; exact PySem.EqNone.eq_none_none (fin_bl I q (by simp))
    | bl j => cases ry; exact PySem.EqNone.eq_none_bool (fin_bl I q (by simp))
    | int j => obtain ⟨t', rfl⟩ := ry; exact PySem.EqNone.eq_none_int (fin_bl I q (by simp))
    | str j => obtain ⟨t', rfl⟩ := ry; exact PySem.EqNone.eq_none_str (fin_bl I q (by simp))
    | _ => exact absurd (show false = true from hs) Bool.false_ne_true
  | bl i =>
    cases rx
    cases y with
    | non => cases ry; exact PySem.EqNone.eq_bool_none (fin_bl I q (by simp))
    | bl j => cases ry; exact eq_bool (fin_bl I q dec_bl)
    | str j => obtain ⟨t', rfl⟩ := ry; exact PySem.EqMixed.eq_bool_str (fin_bl I q (by simp))
    | _ => exact absurd (show false = true from hs) Bool.false_ne_true
  | int i =>
    obtain ⟨t, rfl⟩ := rx
    cases y with
    | non => cases ry; exact PySem.EqNone.eq_int_none (fin_bl I q (by simp))
    | int j => obtain ⟨t', rfl⟩ := ry; exact eq_int (fin_bl I q dec_int)
    | str j => obtain ⟨t', rfl⟩ := ry; exact PySem.EqMixed.eq_int_str (fin_bl I q (by simp))
    | _ => exact absurd (show false = true from hs) Bool.false_ne_true
  | str i =>
    obtain ⟨t, rfl⟩ := rx
    cases y with
    | non => cases ry; exact PySem.EqNone.eq_str_none (fin_bl I q (by simp))
    | bl j => cases ry; exact PySem.EqMixed.eq_str_bool (fin_bl I q (by simp))
    | int j => obtain ⟨t', rfl⟩ := ry; exact PySem.EqMixed.eq_str_int (fin_bl I q (by simp))
    | str j => obtain ⟨t', rfl⟩ := ry; exact eq_str (fin_bl I q dec_str)
    | _ => exact absurd (show false = true from hs) Bool.false_ne_true
  | byt i =>
    obtain ⟨t, rfl⟩ := rx
    cases y with
    | byt j => obtain ⟨t', rfl⟩ := ry; exact PySem.W.eq_bytes (fin_bl I q dec_byt)
    | _ => exact absurd (show false = true from hs) Bool.false_ne_true
  | _ => cases y <;> exact absurd (show false = true from hs) Bool.false_ne_true
theorem op_ne : OpR X (compareOp .NotEq) rNe := by
  intro pins s σ H x y v u Q I rx ry h
  obtain ⟨hs, q⟩ := h
  cases x with
  | non =>
    cases rx
    cases y with
    | non => cases ry; exact PySem.EqNone.ne_none_none (fin_bl I q (by simp))
    | bl j => cases ry; exact PySem.EqNone.ne_none_bool (fin_bl I q (by simp))
    | int j => obtain ⟨t', rfl⟩ := ry; exact PySem.EqNone.ne_none_int (fin_bl I q (by simp))
    | str j => obtain ⟨t', rfl⟩ := ry; exact PySem.EqNone.ne_none_str (fin_bl I q (by simp))
    | _ => exact absurd (show false = true from hs) Bool.false_ne_true
  | bl i =>
    cases rx
    cases y with
    | non => cases ry; exact PySem.EqNone.ne_bool_none (fin_bl I q (by simp))
    | bl j => cases ry; exact ne_bool (fin_bl I q (congrArg not dec_bl))
    | str j => obtain ⟨t', rfl⟩ := ry; exact PySem.EqMixed.ne_bool_str (fin_bl I q (by simp))
    | _ => exact absurd (show false = true from hs) Bool.false_ne_true
  | int i =>
    obtain ⟨t, rfl⟩ := rx
    cases y with
    | non => cases ry; exact PySem.EqNone.ne_int_none (fin_bl I q (by simp))
    | int j => obtain ⟨t', rfl⟩ := ry; exact ne_int (fin_bl I q (congrArg not dec_int))
    | str j => obtain ⟨t', rfl⟩ := ry; exact PySem.EqMixed.ne_int_str (fin_bl I q (by simp))
    | _ => exact absurd (show false = true from hs) Bool.false_ne_true
  | str i =>
    obtain ⟨t, rfl⟩ := rx
    cases y with
    | non => cases ry; exact PySem.EqNone.ne_str_none (fin_bl I q (by simp))
    | bl j => cases ry; exact PySem.EqMixed.ne_str_bool (fin_bl I q (by simp))
    | int j => obtain ⟨t', rfl⟩ := ry; exact PySem.EqMixed.ne_str_int (fin_bl I q (by simp))
    | str j => obtain ⟨t', rfl⟩ := ry; exact ne_str (fin_bl I q (congrArg not dec_str))
    | _ => exact absurd (show false = true from hs) Bool.false_ne_true
  | byt i =>
    obtain ⟨t, rfl⟩ := rx
    cases y with
    | byt j => obtain ⟨t', rfl⟩ := ry; exact PySem.W.ne_bytes (fin_bl I q (congrArg not dec_byt))
    | _ => exact absurd (show false = true from hs) Bool.false_ne_true
  | _ => cases y <;> exact absurd (show false = true from hs) Bool.false_ne_true

theorem op_lt : OpR X (compareOp .Lt) (rI0 fun i j => .bl (decide (i < j))) := opB0 fun _ _ _ _ _ _ _ q => lt_int q
theorem op_le : OpR X (compareOp .LtE) (rI0 fun i j => .bl (decide (i ≤ j))) := opB0 fun _ _ _ _ _ _ _ q => le_int q
theorem op_gt : OpR X (compareOp .Gt) (rI0 fun i j => .bl (decide (j < i))) := opB0 fun _ _ _ _ _ _ _ q => gt_int q
theorem op_ge : OpR X (compareOp .GtE) (rI0 fun i j => .bl (decide (j ≤ i))) := opB0 fun _ _ _ _ _ _ _ q => ge_int q




theorem nomark (b : Expr) {op : CmpOp} (h : op ≠ .In := by decide) (h2 : op ≠ .NotIn := by decide) : behindInMarks op b = false := by
  have e1 : (op == CmpOp.In) = false := by cases op <;> first | rfl | exact absurd rfl h
  have e2 : (op == CmpOp.NotIn) = false := by cases op <;> first | rfl | exact absurd rfl h2
  cases b <;> simp [behindInMarks, e1, e2]
/-- a comparison as a value; hm: nomark b, or (for in, not in) by with_unfolding_all rfl -/
theorem pe_cmpR {op : CmpOp} {r : R2} (ho : OpR X (compareOp op) r) (ha : PE X a ta) (hb : PE X b tb) (hm : behindInMarks op b = false) : PE X (.Compare a [op] [b] pos) (tOp r ta tb) := by
  intro pins s σ H Q I h
  exact wpAny_Compare1 (binT ha hb I h fun v u s2 x y H2 I2 rx ry q => ho pins s2 σ H2 x y v u Q I2 rx ry q) hm
/-- a reading of a value as a test -/
def tTest (t : TE) : TT := fun σ H Q => t σ H fun x H' => ∃ k, x = .bl k ∧ Q k H'
theorem pt_cmpR {op : CmpOp} {r : R2} (ho : OpR X (compareOp op) r) (ha : PE X a ta) (hb : PE X b tb) (hm : behindInMarks op b = false) : PT X (.Compare a [op] [b] pos) (tTest (tOp r ta tb)) := by
  intro pins s σ H Q I h
  refine wpAny_isTrue_Compare1 (thn (ha pins s σ H _ I h) fun v s1 ⟨x, H1, I1, r1, q1⟩ => thn (hb pins s1 σ H1 _ I1 q1) fun u s2 ⟨y, H2, I2, r2, q2⟩ =>
    thn (ho pins s2 σ H2 x y v u _ I2 r1 r2 q2) fun c s3 ⟨z, H3, I3, r3, k, e, q3⟩ => ?_) hm
  subst e
  cases r3
  exact wpAny_truthy_bool ⟨H3, I3, q3⟩
/-- a op1 b op2 c -/
def tChain (r r' : R2) (ta tb tc : TE) : TE := fun σ H Q => ta σ H fun x H1 => tb σ H1 fun y H2 => r x y H2 fun z H3 => ∃ k, z = .bl k ∧
  (if k = true then tc σ H3 fun w' H4 => r' y w' H4 Q else Q (.bl false) H3)
theorem pe_chain {op op' : CmpOp} {r r' : R2} (ho : OpR X (compareOp op) r) (ho' : OpR X (compareOp op') r') (ha : PE X a ta) (hb : PE X b tb) (hc : PE X c tc)
    (hm : lastMarks [op, op'] [b, c] = false := by with_unfolding_all rfl) : PE X (.Compare a [op, op'] [b, c] pos) (tChain r r' ta tb tc) := by
  intro pins s σ H Q I h
  refine Compare_chain (thn (ha pins s σ H _ I h) fun v s1 ⟨x, H1, I1, r1, q1⟩ => chain_link (thn (hb pins s1 σ H1 _ I1 q1) fun u s2 ⟨y, H2, I2, r2, q2⟩ =>
    thn (ho pins s2 σ H2 x y v u _ I2 r1 r2 q2) fun d s3 ⟨z, H3, I3, r3, k, e, q3⟩ => ?_)) hm
  subst e
  cases r3
  refine wpAny_truthy_bool ?_
  cases k with
  | false => exact ite_ff ⟨.bl false, H3, I3, rfl, q3⟩
  | true => exact ite_tt (chain_last (thn (hc pins s3 σ H3 _ I3 q3) fun w' s4 ⟨z', H4, I4, r4, q4⟩ => ho' pins s4 σ H4 y z' u w' Q I4 r2 r4 q4))
theorem pt_chain {op op' : CmpOp} {r r' : R2} (ho : OpR X (compareOp op) r) (ho' : OpR X (compareOp op') r') (ha : PE X a ta) (hb : PE X b tb) (hc : PE X c tc)
    (hm : lastMarks [op, op'] [b, c] = false := by with_unfolding_all rfl) : PT X (.Compare a [op, op'] [b, c] pos) (tTest (tChain r r' ta tb tc)) := by
  intro pins s σ H Q I h
  refine isTrue_chain (thn (ha pins s σ H _ I h) fun v s1 ⟨x, H1, I1, r1, q1⟩ => test_link (thn (hb pins s1 σ H1 _ I1 q1) fun u s2 ⟨y, H2, I2, r2, q2⟩ =>
    thn (ho pins s2 σ H2 x y v u _ I2 r1 r2 q2) fun d s3 ⟨z, H3, I3, r3, k, e, q3⟩ => ?_)) hm
  subst e
  cases r3
  refine wpAny_truthy_bool ?_
  cases k with
  | false =>
    obtain ⟨k', e', q'⟩ := q3
    cases e'
    exact ite_ff ⟨H3, I3, q'⟩
  | true =>
    refine ite_tt (test_last (thn (hc pins s3 σ H3 _ I3 q3) fun w' s4 ⟨z', H4, I4, r4, q4⟩ => thn (ho' pins s4 σ H4 y z' u w' _ I4 r2 r4 q4) fun d' s5 ⟨z2, H5, I5, r5, k2, e2, q5⟩ => ?_))
    subst e2
    cases r5
    exact wpAny_truthy_bool ⟨H5, I5, q5⟩

/-! ### truth -/
/-- a value's truth by the abstract heap -/
def TruV (K : PySem.W.Frag) (x : V) (H : Hp) (k : Bool) : Prop :=
  match x with
  | .non => k = false
  | .bl b => k = b
  | .int i => k = (i != 0)
  | .str y => y.length ≤ sizeLine ∧ k = ((y.length : Int) != 0)
  | .byt y => y.size ≤ sizeLine ∧ k = ((y.size : Int) != 0)
  | .ref p => (∃ xs, SqL K H p xs ∧ k = !xs.isEmpty) ∨ (∃ xs, SqT K H p xs ∧ k = !xs.isEmpty) ∨ ∃ kvs, H p = some (.dK kvs) ∧ k = !kvs.isEmpty
  | _ => False
theorem isEmpty_kv {κ : Type} {kvs : List (κ × V)} {vs : List (κ × Value)} (r : KV kvs vs) : (!vs.isEmpty) = !kvs.isEmpty := by
  cases r <;> rfl
theorem isEmpty_of {xs : List V} {its : List Value} (r : Vals xs its) : (!its.toArray.isEmpty) = !xs.isEmpty := by
  cases r <;> simp
theorem line63 : (sizeLine : Nat) < 2 ^ 63 := by rw [sizeLine_eq]; decide
theorem tru_ok : TruR X (fun x H Q => ∃ k, TruV X.K x H k ∧ Q k H) := by
  intro pins s σ H x v Q I rx h
  obtain ⟨k, e, q⟩ := h
  have hl := line63
  have hs : sizeLine = 16777216 := sizeLine_eq
  cases x with
  | non =>
    cases rx
    have e' : k = false := e
    subst e'
    exact truthy_none ⟨H, I, q⟩
  | bl b =>
    cases rx
    have e' : k = b := e
    subst e'
    exact wpAny_truthy_bool ⟨H, I, q⟩
  | int i =>
    obtain ⟨t, rfl⟩ := rx
    have e' : k = (i != 0) := e
    subst e'
    exact PySem.P.truthy_int ⟨H, I, q⟩
  | str y =>
    obtain ⟨t, rfl⟩ := rx
    obtain ⟨hy, e'⟩ : y.length ≤ sizeLine ∧ k = ((y.length : Int) != 0) := e
    subst e'
    exact PySem.P.truthy_str (by omega) ⟨H, I.tok _, q⟩
  | byt y =>
    obtain ⟨t, rfl⟩ := rx
    obtain ⟨hy, e'⟩ : y.size ≤ sizeLine ∧ k = ((y.size : Int) != 0) := e
    subst e'
    exact PySem.W.truthy_bytes (by omega) ⟨H, I.tok _, q⟩
  | ref p =>
    cases rx
    have e' : (∃ xs, SqL X.K H p xs ∧ k = !xs.isEmpty) ∨ (∃ xs, SqT X.K H p xs ∧ k = !xs.isEmpty) ∨ ∃ kvs, H p = some (.dK kvs) ∧ k = !kvs.isEmpty := e
    rcases e' with ⟨xs, hx, e'⟩ | ⟨xs, hx, e'⟩ | ⟨kvs, hx, e'⟩
    · subst e'
      obtain ⟨its, r, pl, hz⟩ := I.list hx
      have hlen := r.length
      exact wpAny_truthy_list pl.isList (by simp only [List.size_toArray]; omega) ⟨H, I.tok _, by rw [isEmpty_of r]; exact q⟩
    · subst e'
      obtain ⟨its, r, pl, hz⟩ := I.tuple hx
      have hlen := r.length
      exact truthy_tuple pl (by simp only [List.size_toArray]; omega) ⟨H, I.tok _, by rw [isEmpty_of r]; exact q⟩
    · subst e'
      obtain ⟨hz, hS, vs, r, m⟩ : kvs.length ≤ sizeLine ∧ (p == sysModules) = false ∧ ∃ vs, KV kvs vs ∧ s.heap.DictOf (mixKind X.prog X.w) p vs := I.hok p _ hx
      have hlen : kvs.length = vs.length := Paired.length r
      exact wpAny_truthy_dict hS m (by omega) ⟨H, I.tok _, by rw [isEmpty_kv r]; exact q⟩
  | _ => exact (show False from e).elim
/-- any expression whose test is its value's truth (a name, a call, a subscript, a field ..: he by fun _ => rfl) -/
theorem pt_truth (ha : PE X a ta) (he : ∀ whole, isTrue a X.env whole = (do let v ← whole; standAt a.pos; holding [v] (truthy v))) :
    PT X a (fun σ H Q => ta σ H fun x H' => ∃ k, TruV X.K x H' k ∧ Q k H') := by
  intro pins s σ H Q I h
  exact isTrue_plain (thn (ha pins s σ H _ I h) fun v s1 ⟨x, H1, I1, r1, q1⟩ => tru_ok pins s1 σ H1 x v Q I1 r1 q1) (he _)

/-! ### strs and bytes -/
theorem op_add_str : OpR X (binaryOp .Add) (fun x y H Q => ∃ i j, x = .str i ∧ y = .str j ∧ i.length + j.length ≤ sizeLine ∧ Q (.str (i ++ j)) H) := by
  intro pins s σ H x y v u Q I rx ry h
  obtain ⟨i, j, rfl, rfl, hz, q⟩ := h
  obtain ⟨t, rfl⟩ := rx
  obtain ⟨t', rfl⟩ := ry
  exact add_str (fun t' tk => ⟨.str (i ++ j), H, I.tok _, ⟨_, rfl⟩, q⟩) hz

def PlainIxT (b : Expr) : Prop := ∀ o i, subscripted b false o i = operate [o, i] (getItem o i)
/-- s[i], 0 ≤ i < len -/
theorem pe_item_str (ha : PE X a ta) (hb : PE X b tb) (hs : PlainIxT b) :
    PE X (.Subscript a b pos) (tOp (fun x y H Q => ∃ z i c, x = .str z ∧ y = .int i ∧ 0 ≤ i ∧ i < 2 ^ 63 ∧ i < z.length ∧ z.cps[i.toNat]? = some c ∧ Q (.str ⟨#[c]⟩) H) ta tb) := by
  intro pins s σ H Q I h
  refine Subscript_ (binT ha hb I h fun v u s2 x y H2 I2 rx ry q => ?_)
  obtain ⟨z, i, c, rfl, rfl, h0, h63, h1, hc, q⟩ := q
  obtain ⟨t, rfl⟩ := rx
  obtain ⟨t', rfl⟩ := ry
  have e : seqIndex? i z.length = some i.toNat := PySem.StrLaws.seqIndex_nonneg h0 h1
  exact tail_any (typeIs_str s2 z t) slot_str_getitem.lookup (getItem_str (c := c) (by
    have e1 : decide (i < -(2 ^ 63 : Int)) = false := decide_eq_false (by omega)
    have e2 : decide (i ≥ 2 ^ 63) = false := decide_eq_false (by omega)
    rw [e1, e2] <;> rfl) (by rw [e]; exact hc) ⟨.str ⟨#[c]⟩, H2, I2.tok _, ⟨_, rfl⟩, q⟩) (hs _ _)

/-! ### scalar builtins, by CallR -/
theorem vals1 {x : V} {us : List Value} (r : Vals [x] us) : ∃ u, us = [u] ∧ RelV x u := by
  cases r with
  | cons r1 r2 => cases r2; exact ⟨_, rfl, r1⟩
theorem vals2 {x y : V} {us : List Value} (r : Vals [x, y] us) : ∃ u w', us = [u, w'] ∧ RelV x u ∧ RelV y w' := by
  cases r with
  | cons r1 r2 =>
    cases r2 with
    | cons r3 r4 => cases r4; exact ⟨_, _, rfl, r1, r3⟩
theorem call_int1 : CallR X (.type "int") (fun xs H Q => (∃ i, xs = [.int i] ∧ Q (.int i) H) ∨ ∃ k, xs = [.bl k] ∧ Q (.int (if k then 1 else 0)) H) := by
  intro pins s σ H xs us Q I r h
  rcases h with ⟨i, rfl, q⟩ | ⟨k, rfl, q⟩
  · obtain ⟨u, rfl, t, rfl⟩ := vals1 r
    exact call_int_int ⟨.int i, H, I, ⟨_, rfl⟩, q⟩
  · obtain ⟨u, rfl, r1⟩ := vals1 r
    cases r1
    exact call_int_bool ⟨.int (if k then 1 else 0), H, I.tok _, ⟨_, rfl⟩, q⟩
theorem call_str_int : CallR X (.type "str") (fun xs H Q => ∃ i, xs = [.int i] ∧ i.natAbs.log2 < 1920 ∧ Q (.str (toString i)) H) := by
  intro pins s σ H xs us Q I r h
  obtain ⟨i, rfl, hz, q⟩ := h
  obtain ⟨u, rfl, t, rfl⟩ := vals1 r
  exact PySem.P.str_of_int hz ⟨.str _, H, I.tok _, ⟨_, rfl⟩, q⟩
end
end L2

namespace L2
open PySem PySem.Spec PyProof.Rows

/-! ### an instance, its attributes a map -/
structure ObjM (h : Heap) (x dx C : Addr) (mA : Str → Option Value) : Prop where
  obj : h.get? x = some (PySem.W.instObj C dx)
  ns : h.Ns1 dx mA
  ne : dx ≠ x

theorem lookIn_ns {h : Heap} {dx : Addr} {mA : Str → Option Value} (n : h.Ns1 dx mA) : ∃ od, h.get? dx = some od ∧ ∀ name, PySem.W.lookIn name od = some (mA name) := by
  obtain ⟨o, es, ep, ho, hd, hk, _, hm⟩ := n
  refine ⟨o, ho, fun name => ?_⟩
  have e := hm name
  unfold nsFind findBy at e
  rw [← Array.find?_toList] at e
  unfold PySem.W.lookIn
  rw [hd]
  dsimp only
  split
  · rename_i y q
    rw [q] at e
    exact congrArg some e
  · rename_i q
    rw [q] at e
    have a : es.toList.any (·.refKey) = false := by
      rw [List.any_eq_false]
      intro y hy
      obtain ⟨z, t, hkey⟩ := hk y (Array.mem_toList_iff.mp hy)
      simp [DictEntry.refKey, hkey]
    have a' : ¬ es.toList.any (·.refKey) = true := by rw [a]; exact Bool.false_ne_true
    rw [if_neg a']
    exact congrArg some e

theorem ObjM.look {h : Heap} {x dx C : Addr} {mA : Str → Option Value} (I : ObjM h x dx C mA) : ∃ od, PySem.W.InstAt h x (PySem.W.instObj C dx) C (some od) ∧ ∀ name, PySem.W.lookIn name od = some (mA name) :=
  let ⟨od, ho, hl⟩ := lookIn_ns I.ns
  ⟨od, ⟨I.obj, rfl, rfl, ho⟩, hl⟩

section
variable {prog : Program} {w : World} {A : Around} {E : Value → Shared → Prop} {s : Shared} {K : PySem.W.Frag} {x dx C f : Addr} {mA : Str → Option Value} {name : Str} {v : Value}





end

/-! ### the attributes as a list of pairs -/


section
variable {P : Program} {w : World} {H H' : Hp} {h h' : Heap} {a C dx : Addr} {fs fs' : List (Str × V)}
theorem ins_get (hok : HOk P w H h) (e : H a = some (.ins C dx fs)) : ∃ mA, ObjM h a dx C mA ∧ (∀ f, RelO (fs.lookup f) (mA f)) ∧ PySem.Within mA (fs.map (·.1)) ∧ fs.length ≤ 1000 ∧ H dx = some (.own a) := by
  obtain ⟨d, z, ne, ob, mA, n, r, q⟩ := (show ObjOk P w H h a (.ins C dx fs) from hok a _ e)
  exact ⟨mA, ⟨ob, n, ne⟩, r, q, z, d⟩
end

/-! ### what of the text a class must have -/
structure Cls (K : PySem.W.Frag) (C : Addr) : Prop where
  pg : PySem.W.plainGet K C Str.empty = true
  hd : PySem.W.hasDictIn K C = true
  po : PySem.W.plainOver K C = true
  sa : PySem.W.findIn K (.ref C) "__setattr__" = some (some (.builtin "object.__setattr__"))
theorem Cls.get {K : PySem.W.Frag} {C : Addr} (c : Cls K C) (f : Str) : PySem.W.plainGet K C f = true := c.pg

section
variable {X : Cx} {pins : List (Addr × Obj)} {σ : St} {H : Hp} {s : Shared} {a C dx : Addr} {fs : List (Str × V)} {f : Str} {v : V} {A : Around} {E : Value → Shared → Prop}






end

/-! ### readings and rules -/

section
variable {X : Cx} {o e value : Expr} {f : Str} {pos pos' tpos : Pos} {ta tv : TE}

end

/-! ### isinstance -/
section
variable {X : Cx} {pins : List (Addr × Obj)} {σ : St} {H : Hp} {s : Shared} {A : Around} {E : Value → Shared → Prop} {Q : Value → Shared → Prop} {c : Value} {b : Bool}
/-- the type of a value, as the fragment's deciders take it; for an instance its class -/
inductive TyOf (K : PySem.W.Frag) (H : Hp) : V → Value → Prop where
  | non : TyOf K H .non (.type "NoneType")
  | bl (x : Bool) : TyOf K H (.bl x) (.type "bool")
  | int (i : Int) : TyOf K H (.int i) (.type "int")
  | str (x : Str) : TyOf K H (.str x) (.type "str")
  | flt (x : UInt64) : TyOf K H (.flt x) (.type "float")
  | lst {a : Addr} {xs : List V} (e : H a = some (.lst xs)) : TyOf K H (.ref a) (.type "list")
  | frz {a : Addr} {o : Obj} {xs : List V} (e : H a = some (.frz o (.lst xs))) : TyOf K H (.ref a) (.type "list")
  | tup {a : Addr} {xs : List V} (e : H a = some (.tup xs)) : TyOf K H (.ref a) (.type "tuple")
  | dK {a : Addr} {kvs : List (Key × V)} (e : H a = some (.dK kvs)) : TyOf K H (.ref a) (.type "dict")
  | dT {a : Addr} {kvs : List (List Key × V)} (e : H a = some (.dT kvs)) : TyOf K H (.ref a) (.type "dict")
  | ins {a C dx : Addr} {fs : List (Str × V)} (e : H a = some (.ins C dx fs)) (cl : Cls K C) (ha : PySem.W.findIn K (.ref C) "__class__" = some (some (.builtin "object.__class__")))
      (hn : PySem.W.specialIn K (.builtin "object.__class__") "__get__" = some (some (.builtin "getset_descriptor.__get__"))) (htk : PySem.W.takesIn K (.builtin "object.__class__") = some true)
      (hm : PySem.W.mroIn K C (.type "object") = some true) : TyOf K H (.ref a) (.ref C)
/-- isinstance(x, c) for one class c, a built-in or an own one: kitOne's answer -/
theorem isinst_ok {x : V} {u t : Value} (I : Inv X pins σ H s) (rx : RelV x u) (ty : TyOf X.K H x t) (e : PySem.W.kitOne X.K t c = some b) (h : ∀ tk, Q (.bool b) { s with toks := tk }) :
    wpAny (model X.prog X.w) A (call (.builtin "isinstance") [u, c]) Q E s := by
  cases ty with
  | non => cases (show u = Value.none from rx); exact PySem.W.kia_one PySem.W.kitx_none I.kIn True.intro e (fun z => nomatch z) h
  | bl y => cases (show u = Value.bool y from rx); exact PySem.W.kia_one PySem.W.kitx_bool I.kIn True.intro e (fun z => nomatch z) h
  | int i => obtain ⟨t, q⟩ := (show ∃ t, u = Value.int i t from rx); cases q; exact PySem.W.kia_one PySem.W.kitx_int I.kIn True.intro e (fun z => nomatch z) h
  | str y => obtain ⟨t, q⟩ := (show ∃ t, u = Value.str y t from rx); cases q; exact PySem.W.kia_one PySem.W.kitx_str I.kIn True.intro e (fun z => nomatch z) h
  | flt y => obtain ⟨t, q⟩ := (show ∃ t, u = Value.float y t from rx); cases q; exact PySem.W.kia_one PySem.W.kitx_float I.kIn True.intro e (fun z => nomatch z) h
  | @lst a xs ea =>
    cases (show u = Value.ref a from rx)
    obtain ⟨_, _, n, _, h1⟩ := (show ObjOk X.prog X.w H s.heap a (.lst xs) from I.hok a _ ea)
    exact PySem.W.kia_one PySem.W.kitx_list I.kIn ⟨_, h1, rfl⟩ e (fun z => nomatch z) h
  | @frz a ob xs ea =>
    cases (show u = Value.ref a from rx)
    obtain ⟨_, _, _, n, _, h1⟩ := (show ObjOk X.prog X.w H s.heap a (.frz ob (.lst xs)) from I.hok a _ ea)
    exact PySem.W.kia_one PySem.W.kitx_list I.kIn ⟨_, h1, rfl⟩ e (fun z => nomatch z) h
  | @tup a xs ea =>
    cases (show u = Value.ref a from rx)
    obtain ⟨_, _, _, p⟩ := (show ObjOk X.prog X.w H s.heap a (.tup xs) from I.hok a _ ea)
    obtain ⟨o, h1, h2, _⟩ := p
    exact PySem.W.kia_one PySem.W.kitx_tuple I.kIn ⟨o, h1, h2⟩ e (fun z => nomatch z) h
  | @dK a kvs ea =>
    cases (show u = Value.ref a from rx)
    obtain ⟨_, _, vs, _, p⟩ := (show ObjOk X.prog X.w H s.heap a (.dK kvs) from I.hok a _ ea)
    obtain ⟨o, es, ep, h1, h2, _⟩ := p
    exact PySem.W.kia_one PySem.W.kitx_dict I.kIn ⟨o, h1, h2.1⟩ e (fun z => nomatch z) h
  | @dT a kvs ea =>
    cases (show u = Value.ref a from rx)
    obtain ⟨_, _, xs, _, o, es, ep, h1, h2, _⟩ := (show ObjOk X.prog X.w H s.heap a (.dT kvs) from I.hok a _ ea)
    exact PySem.W.kia_one PySem.W.kitx_dict I.kIn ⟨o, h1, h2.1⟩ e (fun z => nomatch z) h
  | @ins a C dx fs ea cl ha hn htk hm =>
    cases (show u = Value.ref a from rx)
    obtain ⟨mA, O, _⟩ := ins_get I.hok ea
    obtain ⟨od, J, _⟩ := O.look
    exact PySem.W.kia_one (PySem.W.kitx_own (cl.get _) cl.hd ha hn htk hm) I.kIn J e (fun z => nomatch z) h
end
end L2

namespace L2
open PySem PySem.Spec PyProof.Rows

/-! ### room -/
structure Room (k : Nat) (A : Around) : Prop where
  hd : A.handled = none
  dp : A.depth + 3 * k + 5 < recursionLimit
  un : A.units + 16 * k + 200 < cLine
theorem Room.mono {j k : Nat} {A : Around} (r : Room k A) (h : j ≤ k) : Room j A := ⟨r.hd, by have := r.dp; omega, by have := r.un; omega⟩
theorem Room.deeper {k : Nat} {A : Around} (r : Room (k + 1) A) (env : Env) : Room k (A.deeper env) :=
  ⟨r.hd, by have := r.dp; show A.depth + 1 + 3 * k + 5 < _; omega, by have := r.un; show A.units + 3 + 16 * k + 200 < _; omega⟩
theorem Room.depth {k : Nat} {A : Around} (r : Room k A) : A.depth < recursionLimit := by have := r.dp; omega
theorem Room.units {k : Nat} {A : Around} (r : Room k A) : A.units + 64 < cLine := by have := r.un; omega

/-! ### argument lists and displays -/
def tNil : TA := fun _ H Q => Q [] H
def tCons (ta : TE) (tr : TA) : TA := fun σ H Q => ta σ H fun x H1 => tr σ H1 fun xs H2 => Q (x :: xs) H2
section
variable {X : Cx} {e : Expr} {es : List Expr} {te : TE} {t : TA} {pos : Pos}
theorem pa_nil : PA X [] tNil := fun _ _ _ _ H Q I h => Calls.spliced_nil ⟨[], H, I, .nil, h⟩
theorem pa_cons (ha : PE X e te) (hr : PA X es t) (hs : starEach (e :: es) X.env = (false, eval e X.env) :: starEach es X.env := by rfl) : PA X (e :: es) (tCons te t) := by
  intro pos pins s σ H Q I h
  rw [hs]
  show wpAny _ _ (spliced ((false, eval e X.env) :: backTo pos (starEach es X.env))) _ _ s
  refine Calls.spliced_cons (thn (ha pins s σ H _ I h) fun u s1 ⟨x, H1, I1, r1, q1⟩ => ?_)
  exact thn (hr pos pins s1 σ H1 _ I1 q1) fun us s2 ⟨xs, H2, I2, r2, q2⟩ => ⟨x :: xs, H2, I2, .cons r1 r2, q2⟩

/-- a tuple, a list of written items -/
def tTup (t : TA) : TE := fun σ H Q => t σ H fun xs H1 => xs.length ≤ sizeLine ∧ ∀ p, H1 p = none → Q (.ref p) (upd H1 p (.tup xs))
def tLst (t : TA) : TE := fun σ H Q => t σ H fun xs H1 => xs.length ≤ sizeLine ∧ ∀ p, H1 p = none → Q (.ref p) (upd H1 p (.lst xs))
theorem pe_tup {x1} (h : PA X es t) : PE X (.Tuple es x1 pos) (tTup t) := by
  intro pins s σ H Q I hq
  refine wpAny_Tuple_spliced (thn (h pos pins s σ H _ I hq) fun us s1 ⟨xs, H1, I1, r, z, q⟩ => ⟨by rw [← r.length]; exact z, ?_⟩)
  have hf : H1 s1.heap.objs.size = none := I1.hok.fresh (Nat.le_refl _)
  refine ⟨.ref s1.heap.objs.size, upd H1 s1.heap.objs.size (.tup xs), I1.laid (t' := s1.toks) (fun b u e => Heap.get?_push_of_some _ e) (Nat.le_refl _) ?_, rfl, q _ hf⟩
  exact ⟨z, us, r, ⟨_, Heap.get?_push_size _ rfl, rfl, _, rfl⟩⟩
theorem pe_lst (h : PA X es t) : PE X (.List es pos) (tLst t) := by
  intro pins s σ H Q I hq
  refine wpAny_List_spliced (thn (h pos pins s σ H _ I hq) fun us s1 ⟨xs, H1, I1, r, z, q⟩ => ⟨by rw [← r.length]; exact z, ?_⟩)
  have hf : H1 s1.heap.objs.size = none := I1.hok.fresh (Nat.le_refl _)
  refine ⟨.ref s1.heap.objs.size, upd H1 s1.heap.objs.size (.lst xs), I1.laid (t' := s1.toks) (fun b u e => Heap.get?_push_of_some _ e) (Nat.le_refl _) ?_, rfl, q _ hf⟩
  exact ⟨z, us, 0, r, Heap.get?_push_size _ rfl⟩
end

/-! ### what a def promises -/
/-- a def's promise: the bound arguments in the parameters' order, the heap, the wanted end, the wanted exception -/
abbrev Sp := List V → Hp → VK → XK → Prop
/-- how an exception lies behind a call (file 08 gives it): the callers' frames, abstract heap and state ahead of the call, the wish, the exception, the state -/
abbrev CXT := List Env → Hp → Shared → XK → Value → Shared → Prop

/-- the state at a call -/
structure Env0 (P : Program) (w : World) (K : PySem.W.Frag) (mg : Str → Option Value) (base : Heap) (A : Around) (outer : List Env) (s : Shared) (H : Hp) : Prop where
  frames : A.frames = some outer
  mod : Mod K mg base
  bs : ∀ b o, base.get? b = some o → s.heap.get? b = some o ∧ H b = none
  bsz : base.objs.size ≤ s.heap.objs.size
  funs : s.heap.FunFrames base outer
  frf : ∀ b ∈ frs outer, H b = none
  hok : HOk P w H s.heap
  bare : AllBare s.gens
/-- a call's end -/
def CE (outer : List Env) (P : Program) (w : World) (H : Hp) (s : Shared) (Q : VK) (u : Value) (s' : Shared) : Prop :=
  ∃ v H', s'.os = s.os ∧ AllBare s'.gens ∧ Un (frs outer) [] H H' s.heap s'.heap ∧ HOk P w H' s'.heap ∧ RelV v u ∧ Q v H'
def CR (CX : CXT) (outer : List Env) (P : Program) (w : World) (H : Hp) (s : Shared) (Q : VK) (E : XK) (r : Result) (s' : Shared) : Prop :=
  match r with
  | .ok (.ret u) => CE outer P w H s Q u s'
  | .ok _ => False
  | .error e => CX outer H s E e s'
structure FnOk (P : Program) (w : World) (K : PySem.W.Frag) (mg : Str → Option Value) (base : Heap) (CX : CXT) (k : Nat) (f : Addr) (fd : FuncData) (ps : List Str) (sp : Sp) : Prop where
  len : ∀ vs H Q E, sp vs H Q E → vs.length = ps.length
  run : ∀ (A : Around) (outer : List Env) (s : Shared) (H : Hp) (args : Args) (us : List Value) (vs : List V) (Q : VK) (E : XK), Room k A → Env0 P w K mg base A outer s H → BindsTo s fd args (ps.zip us) → Vals vs us → sp vs H Q E →
    codeAny (model P w) A (.call (.ref f) args) (CR CX outer P w H s Q E) s
theorem FnOk.mono {P : Program} {w : World} {K : PySem.W.Frag} {mg : Str → Option Value} {base : Heap} {CX : CXT} {j k : Nat} {f : Addr} {fd : FuncData} {ps : List Str} {sp : Sp} (F : FnOk P w K mg base CX j f fd ps sp) (h : j ≤ k) :
    FnOk P w K mg base CX k f fd ps sp := ⟨F.len, fun A outer s H args us vs Q E hr => F.run A outer s H args us vs Q E (hr.mono h)⟩
/-- a weaker promise -/
theorem FnOk.imp {P : Program} {w : World} {K : PySem.W.Frag} {mg : Str → Option Value} {base : Heap} {CX : CXT} {k : Nat} {f : Addr} {fd : FuncData} {ps : List Str} {sp sp' : Sp} (F : FnOk P w K mg base CX k f fd ps sp)
    (h : ∀ vs H Q E, sp' vs H Q E → sp vs H Q E) : FnOk P w K mg base CX k f fd ps sp' :=
  ⟨fun vs H Q E q => F.len vs H Q E (h _ _ _ _ q), fun A outer s H args us vs Q E hr he hb hv hs => F.run A outer s H args us vs Q E hr he hb hv (h _ _ _ _ hs)⟩


section
variable {X : Cx} {pins : List (Addr × Obj)} {σ : St} {H : Hp} {s s' : Shared}
/-- from a body: what a callee wants -/
theorem Inv.env0 (I : Inv X pins σ H s) : Env0 X.prog X.w X.K X.mg X.base X.A X.stack s H :=
  ⟨I.ok.frames, I.ok.mod, I.bs, Nat.le_trans I.ok.bsz I.sz, I.stack, I.stkFree, I.hok, I.bare⟩
/-- behind a call -/
theorem Inv.after {Q : VK} {u : Value} (I : Inv X pins σ H s) (h : CE X.stack X.prog X.w H s Q u s') : EP X pins σ Q u s' := by
  obtain ⟨v, H', os, bare, un, hok, r, q⟩ := h
  obtain ⟨hh, g, d, t, os'⟩ := s'
  obtain rfl : os' = s.os := os
  exact ⟨v, H', I.call (h' := hh) (g' := g) (d' := d) (t' := t) (ch := []) un hok bare (fun b z => absurd z (by simp)), r, q⟩
end

/-! ### calls -/
/-- f(..): the written arguments, then the defaults dvs; E: what is wanted of an exception -/
def tCall (sp : Sp) (dvs : List V) (E : XK) (t : TA) : TE := fun σ H Q => t σ H fun vs H1 => sp (vs ++ dvs) H1 Q E

/-- how the parameters are bound: us the positional arguments, kw the keywords' values by name, ds the defaults that fill up -/
def Binds (K : PySem.W.Frag) (fd : FuncData) (ps : List Str) (ds : List Value) : Prop :=
  ∀ (s : Shared) (us : List Value), K.In s.heap → (us ++ ds).length = ps.length → BindsTo s fd ⟨us, []⟩ (ps.zip (us ++ ds))
/-- every parameter is given -/
theorem Binds.all {K : PySem.W.Frag} {fd : FuncData} {ps : List Str} (h : ∀ us : List Value, us.length = ps.length → bindArgs fd ⟨us, []⟩ = pure (ps.zip us)) : Binds K fd ps [] := fun s us _ hl => by
  rw [List.append_nil] at hl ⊢
  exact .of_eq (h us hl)

/-- an exception of a callee reaches what this body wants of exceptions -/
def Passes (CX : CXT) (X : Cx) (E : XK) : Prop := ∀ (pins : List (Addr × Obj)) (σ : St) (H : Hp) (s : Shared) (e : Value) (s' : Shared), Inv X pins σ H s → CX X.stack H s E e s' → X.xe e s'

section
variable {X : Cx} {CX : CXT} {k : Nat} {f C : Addr} {fd : FuncData} {ps : List Str} {sp : Sp} {dvs : List V} {ds : List Value} {E : XK} {x m : Str} {p pos apos : Pos} {e o : Expr} {es : List Expr} {ta : TE} {t : TA}

/-- the callee runs -/
theorem run_fn {pins : List (Addr × Obj)} {σ : St} {H : Hp} {s : Shared} {Q : VK} {us : List Value} {vs : List V} (F : FnOk X.prog X.w X.K X.mg X.base CX k f fd ps sp) (hr : Room k X.A) (hb : Binds X.K fd ps ds) (hd : Vals dvs ds) (hx : Passes CX X E)
    (I : Inv X pins σ H s) (r : Vals vs us) (h : sp (vs ++ dvs) H Q E) : wpAny (model X.prog X.w) X.A (call (.ref f) us) (EP X pins σ Q) X.xe s := by
  have r2 : Vals (vs ++ dvs) (us ++ ds) := r.append hd
  have hl : (us ++ ds).length = ps.length := by rw [← r2.length]; exact F.len _ _ _ _ h
  refine wpAny_call (codeAny_mono (F.run X.A X.stack s H ⟨us, []⟩ (us ++ ds) (vs ++ dvs) Q E hr I.env0 (hb s us I.kIn hl) r2 h) fun r s' hq => ?_)
  cases r with
  | error e => exact hx pins σ H s e s' I hq
  | ok fl =>
    cases fl with
    | ret u => exact I.after hq
    | next => exact False.elim hq
    | brk => exact False.elim hq
    | cont => exact False.elim hq

theorem pe_call (F : FnOk X.prog X.w X.K X.mg X.base CX k f fd ps sp) (hr : Room k X.A) (hg : Gl X x) (hm : X.mg x = some (.ref f)) (hk : PySem.W.keepIn X.K (.ref f) = true) (hb : Binds X.K fd ps ds) (hd : Vals dvs ds) (hx : Passes CX X E)
    (ha : PA X (e :: es) t) (hdb : (x == ("__debug__" : Str)) = false := by decide) (he : starEach (e :: es) X.env = (false, eval e X.env) :: starEach es X.env := by rfl) (hpl : (backTo pos (starEach es X.env)).any (·.1) = false := by rfl) :
    PE X (.Call (.Name x p) (e :: es) [] pos) (tCall sp dvs E t) := by
  intro pins s σ H Q I h
  refine wpAny_Call_Name_kw (ld_glob I hg hm ?_ hdb)
  refine PySem.W.callWith_K (h₀ := X.base) I.ok.mod.kin hk (thn (ha pos pins s σ H _ I h) fun us s1 ⟨vs, H1, I1, r, q⟩ => ⟨I1.kIn, ?_⟩) he hpl
  exact run_fn F hr hb hd hx I1 r q



end

/-! ### keywords -/
section
variable {X : Cx} {CX : CXT} {k : Nat} {f C : Addr} {fd : FuncData} {ps ks : List Str} {sp : Sp} {E : XK} {x m : Str} {p pos apos kpos : Pos} {e o : Expr} {es : List Expr} {kws : List Keyword} {te ta : TE} {t tk : TA} {nm : Option Str}

variable {g : List Value → List Value → List Value} {gV : List V → List V → List V}
end

/-! ### a def's body keeps its promise -/
/-- names: the parameters first -/
structure FnScope (N P : List Str) (sc : Scope) : Prop where
  kind : sc.kind = .function
  co : sc.isCoroutine = false
  gen : sc.isGenerator = false
  nd : N.Nodup
  pre : N.take P.length = P
  par : ∀ x ∈ P, sc.names.lookup x = some .local ∨ sc.names.lookup x = some .cell
  nofree : ∀ y ∈ sc.names, y.2 ≠ .free

theorem bindL_out {kindOf : Str → Option NameKind} {x : Str} : ∀ {binds : List (Str × Value)} {m : Str → Option Value}, (∀ v, (x, v) ∉ binds) → bindL kindOf binds m x = m x
  | [], _, _ => rfl
  | (n, v) :: r, m, h => by
    unfold bindL
    rw [bindL_out fun w hw => h w (List.mem_cons_of_mem _ hw)]
    split
    · have : x ≠ n := by rintro rfl; exact h v List.mem_cons_self
      simp [this]
    · rfl
theorem bindC_out {kindOf : Str → Option NameKind} {x : Str} : ∀ {binds : List (Str × Value)} {m : Str → Option Value}, (∀ v, (x, v) ∉ binds) → bindC kindOf binds m x = m x
  | [], _, _ => rfl
  | (n, v) :: r, m, h => by
    unfold bindC
    rw [bindC_out fun w hw => h w (List.mem_cons_of_mem _ hw)]
    split
    · rfl
    · have : x ≠ n := by rintro rfl; exact h v List.mem_cons_self
      simp [this]
theorem bindL_get {kindOf : Str → Option NameKind} {x : Str} {v : Value} : ∀ {P : List Str} {vs : List Value} {i : Nat} {m : Str → Option Value}, P.Nodup → P[i]? = some x → vs[i]? = some v → kindOf x = some .local →
    bindL kindOf (P.zip vs) m x = some v
  | [], _, _, _, _, h, _, _ => by simp at h
  | _ :: _, [], _, _, _, _, h, _ => by simp at h
  | p :: P, w :: vs, 0, m, nd, h1, h2, hk => by
    simp at h1 h2; subst h1; subst h2
    show bindL kindOf ((p, w) :: P.zip vs) m p = _
    unfold bindL
    rw [bindL_out fun v hv => (List.nodup_cons.mp nd).1 (List.of_mem_zip hv).1, if_pos hk]
    simp
  | p :: P, w :: vs, i + 1, m, nd, h1, h2, hk => by
    show bindL kindOf ((p, w) :: P.zip vs) m x = _
    unfold bindL
    exact bindL_get (i := i) (List.nodup_cons.mp nd).2 (by simpa using h1) (by simpa using h2) hk
theorem bindC_get {kindOf : Str → Option NameKind} {x : Str} {v : Value} : ∀ {P : List Str} {vs : List Value} {i : Nat} {m : Str → Option Value}, P.Nodup → P[i]? = some x → vs[i]? = some v → kindOf x ≠ some .local →
    bindC kindOf (P.zip vs) m x = some v
  | [], _, _, _, _, h, _, _ => by simp at h
  | _ :: _, [], _, _, _, _, h, _ => by simp at h
  | p :: P, w :: vs, 0, m, nd, h1, h2, hk => by
    simp at h1 h2; subst h1; subst h2
    show bindC kindOf ((p, w) :: P.zip vs) m p = _
    unfold bindC
    rw [bindC_out fun v hv => (List.nodup_cons.mp nd).1 (List.of_mem_zip hv).1, if_neg hk]
    simp
  | p :: P, w :: vs, i + 1, m, nd, h1, h2, hk => by
    show bindC kindOf ((p, w) :: P.zip vs) m x = _
    unfold bindC
    exact bindC_get (i := i) (List.nodup_cons.mp nd).2 (by simpa using h1) (by simpa using h2) hk

/-- the names' values at the entry -/
def start (N : List Str) (vs : List V) : St := vs.map some ++ List.replicate (N.length - vs.length) none

/-- the context of a def's body, at its entry; an exception leaves the frame, then lies as CX says -/
def cxOf (CX : CXT) (P : Program) (w : World) (K : PySem.W.Frag) (mg : Str → Option Value) (base : Heap) (N : List Str) (qual : Str) (scope : Scope) (f : Addr) (cd : Value) (A : Around) (outer : List Env) (s : Shared) (H : Hp) (E : XK) : Cx where
  prog := P
  w := w
  K := K
  mg := mg
  base := base
  A := A.deeper (envOfC qual scope s.heap.objs.size f cd)
  N := N
  s₀ := s
  H₀ := H
  env := envOfC qual scope s.heap.objs.size f cd
  outer := outer
  stack := envOfC qual scope s.heap.objs.size f cd :: outer
  ex := []
  calm := true
  fn := fun _ => true
  pn := []
  xe := fun e s' => wpAny (model P w) (A.deeper (envOfC qual scope s.heap.objs.size f cd)) (leaving (envOfC qual scope s.heap.objs.size f cd) e) (fun _ s'' => CX outer H s E e s'') (fun e' s'' => CX outer H s E e' s'') s'

theorem cell_has {sc : Scope} {n : Nat} {x : Str} (h : sc.names.lookup x = some .cell) : ∃ c, (cellsFrom n sc.names []).lookup x = some c := by
  have q := PySem.W.cellsFrom_some sc.names n [] (.inl h)
  exact Option.isSome_iff_exists.mp q

theorem inv_start {CX : CXT} {P : Program} {w : World} {K : PySem.W.Frag} {mg : Str → Option Value} {base : Heap} {N ps : List Str} {qual : Str} {scope : Scope} {f : Addr} {cd : Value} {A : Around} {outer : List Env} {s s1 : Shared} {H : Hp} {E : XK} {us : List Value} {vs : List V}
    (S : FnScope N ps scope) (hd : A.handled = none) (e0 : Env0 P w K mg base A outer s H) (hl : vs.length = ps.length) (r : Vals vs us)
    (x : InCallC s s.heap.objs.size (bindL (envOfC qual scope s.heap.objs.size f cd).kindOf (ps.zip us) fun _ => none) (cellsFrom (s.heap.objs.size + 1) scope.names []) (bindC (envOfC qual scope s.heap.objs.size f cd).kindOf (ps.zip us) fun _ => none) s1) :
    Inv (cxOf CX P w K mg base N qual scope f cd A outer s H E) [] (start N vs) H s1 := by
  have hpl : ps.length ≤ N.length := by have := congrArg List.length S.pre; rw [List.length_take] at this; omega
  obtain ⟨h1, tk, rfl, hk⟩ := x.done
  have noA : ∀ b : Addr, b ∉ (cxOf CX P w K mg base N qual scope f cd A outer s H E).ex := fun b z => absurd (show b ∈ ([] : List Addr) from z) (by simp)
  refine ⟨⟨e0.mod, S.kind, rfl, rfl, Nat.le_refl _, fun y z c h1 h2 => ?_, fun y hy => ?_, fun y c _ h => ?_, fun _ => hd, Around.frames_deeper e0.frames, .inr ⟨rfl, rfl⟩, fun b z => absurd z (noA b), e0.bs, e0.bsz, fun b _ _ => noA b, fun b z => absurd z (noA b), e0.funs, e0.frf⟩,
    rfl, e0.bare, Un.kept hk, ⟨_, x.toInCall.ns, fun i y v h1 h2 h3 => ?_⟩, fun y c h => ⟨_, x.cell y c h⟩, e0.hok.fresh (Nat.le_refl _), fun y c h => ?_, fun p hp => absurd (show p ∈ ([] : List (Addr × Obj)) from hp) (by simp), e0.hok.kept hk, ?_⟩
  · exact name_of_addr x.apart (PySem.mem_of_lookup h1) (PySem.mem_of_lookup h2)
  · have hy : scope.names.lookup y = some .cell ∨ scope.names.lookup y = some .free := hy
    rcases hy with hy | hy
    · exact cell_has hy
    · exact absurd rfl (S.nofree _ (PySem.mem_of_lookup hy))
  · exact Nat.le_of_lt (x.above y c (PySem.mem_of_lookup h))
  · have hi : i < vs.length := by
      unfold start at h2
      by_cases hi : i < vs.length
      · exact hi
      · rw [List.getElem?_append_right (by simpa using hi)] at h2
        rw [List.getElem?_replicate] at h2
        split at h2 <;> cases h2
    have ha : vs[i]? = some v := by
      unfold start at h2
      rw [List.getElem?_append_left (by simpa using hi), List.getElem?_map] at h2
      cases e : vs[i]? with
      | none => rw [e] at h2; cases h2
      | some a => rw [e] at h2; cases h2; rfl
    obtain ⟨u, hu, rv⟩ := r.get ha
    have hp : ps[i]? = some y := by
      rw [← S.pre, List.getElem?_take_of_lt (by omega)]; exact h1
    have ndP : ps.Nodup := by rw [← S.pre]; exact S.nd.sublist (List.take_sublist _ _)
    refine ⟨u, rv, ?_⟩
    rcases S.par y (List.mem_of_getElem? hp) with k | k
    · exact .inl ⟨k, bindL_get ndP hp hu k⟩
    · obtain ⟨c, e⟩ := cell_has (n := s.heap.objs.size + 1) k
      refine .inr ⟨.inl k, c, e, ?_⟩
      have q := x.cell y c e
      rw [bindC_get ndP hp hu (by show scope.names.lookup y ≠ _; rw [k]; decide)] at q
      exact q
  · exact e0.hok.fresh (Nat.le_of_lt (x.above y c (PySem.mem_of_lookup h)))
  · unfold start
    show _ = N.length
    rw [List.length_append, List.length_map, List.length_replicate]
    omega

/-- THE RULE: a def (or a method) of the text, by its body. The body's reading t is chosen for each entry; it is run at the parameters' values -/
theorem fn_of {CX : CXT} {P : Program} {w : World} {K : PySem.W.Frag} {mg : Str → Option Value} {base : Heap} {k : Nat} {f : Addr} {name qual : Str} {params : Arguments} {body : List Stmt} {scope : Scope} {dV kV doc pm cdv ct oc : Value} {an od : Option Addr}
    {osl : Array (Option Value)} {N ps : List Str} {sp : Sp} (lk : K.lookup f = some ⟨oc, od, .func (PySem.W.fnOf name qual params body scope dV kV doc pm an cdv ct), osl⟩) (hcd : PySem.W.codeIn K cdv qual = true) (S : FnScope N ps scope)
    (len : ∀ vs H Q E, sp vs H Q E → vs.length = ps.length)
    (hbody : ∀ (A : Around) (outer : List Env) (s : Shared) (H : Hp) (vs : List V) (Q : VK) (E : XK), Room k (A.deeper (envOfC qual scope s.heap.objs.size f cdv)) → sp vs H Q E →
      ∃ t, PSs (cxOf CX P w K mg base N qual scope f cdv A outer s H E) body t ∧ t { nx := fun _ H' => Q .non H', rt := Q } (start N vs) H) :
    FnOk P w K mg base CX (k + 1) f (PySem.W.fnOf name qual params body scope dV kV doc pm an cdv ct) ps sp := by
  refine ⟨len, fun A outer s H args us vs Q E hr e0 hb r hsp => ?_⟩
  have hl := len _ _ _ _ hsp
  have KX : K.In s.heap := e0.mod.kin.keeps fun b o e => (e0.bs b o e).1
  have lim : s.heap.NoLimit := e0.mod.nolimit.keeps fun b o e => (e0.bs b o e).1
  have hkind : ∀ y ∈ ps.zip us, scope.names.lookup y.1 = some .local ∨ (scope.names.lookup y.1 = some .cell ∧ ((cellsFrom (s.heap.objs.size + 1) scope.names []).lookup y.1).isSome = true) := fun ⟨n, v⟩ hy => by
    rcases S.par n (List.of_mem_zip hy).1 with q | q
    · exact .inl q
    · exact .inr ⟨q, PySem.W.cellsFrom_some _ _ _ (.inl q)⟩
  refine codeAny_call_function hr.depth (KX _ _ lk) rfl S.co S.gen rfl (PySem.W.codeRec_of KX hcd) (hb _ _ _ _ ?_)
  refine wpAny_newFunctionEnv_cells S.kind hkind fun env he s1 x => ?_
  subst he
  refine ⟨lim.keeps x.toInCall.keep, codeAny_func ?_⟩
  obtain ⟨t, ht, hq⟩ := hbody A outer s H vs Q E (hr.deeper _) hsp
  have I : Inv (cxOf CX P w K mg base N qual scope f cdv A outer s H E) [] (start N vs) H s1 := inv_start S hr.hd e0 hl r x
  refine wpAny_mono (ht [] s1 (start N vs) H _ I hq) (fun fl s' hs => ?_) fun e s' hs => hs
  have fin : ∀ {σ' : St} {H' : Hp} {v : V} {u : Value}, Inv (cxOf CX P w K mg base N qual scope f cdv A outer s H E) [] σ' H' s' → RelV v u → Q v H' → CE outer P w H s Q u s' :=
    fun {σ' H' v u} J rv q => ⟨v, H', J.os, J.bare, J.base, J.hok, rv, q⟩
  cases fl with
  | ret u =>
    obtain ⟨v, σ', H', J, rv, q⟩ := hs
    exact fin J rv q
  | next =>
    obtain ⟨σ', H', J, q⟩ := hs
    exact fin (v := V.non) (u := Value.none) J rfl q
  | brk =>
    obtain ⟨_, _, _, q⟩ := hs
    exact False.elim q
  | cont =>
    obtain ⟨_, _, _, q⟩ := hs
    exact False.elim q
end L2

namespace L2
open PySem PySem.Spec PyProof.Rows
section
variable {X : Cx} {x : Str} {p pos : Pos} {e : Expr} {es : List Expr} {t : TA} {id T : String} {r : List V → Hp → VK → Prop}

def tCB (r : List V → Hp → VK → Prop) (t : TA) : TE := fun σ H Q => t σ H fun vs H1 => r vs H1 Q
/-- f(e, ..), f a built-in function -/
theorem pe_callB (hc : CallR X (.builtin id) r) (hg : Gl X x) (hm : X.mg x = none) (hv : bootBuiltins x = some (.builtin id)) (ha : PA X (e :: es) t) (hn : x ≠ "__name__" := by decide) (hdb : (x == ("__debug__" : Str)) = false := by decide)
    (he : starEach (e :: es) X.env = (false, eval e X.env) :: starEach es X.env := by rfl) (hpl : (backTo pos (starEach es X.env)).any (·.1) = false := by rfl) : PE X (.Call (.Name x p) (e :: es) [] pos) (tCB r t) := by
  intro pins s σ H Q I h
  refine wpAny_Call_Name_kw (ld_blt I hg hm hv ?_ hn hdb)
  exact PyProof.Rows.callWith_builtin1 (thn (ha pos pins s σ H _ I h) fun us s1 ⟨vs, H1, I1, r1, q1⟩ => hc pins s1 σ H1 vs us Q I1 r1 q1) he hpl
/-- T(e, ..), T a built-in type -/
theorem pe_callTy (hc : CallR X (.type T) r) (hg : Gl X x) (hm : X.mg x = none) (hv : bootBuiltins x = some (.type T)) (ha : PA X (e :: es) t) (hn : x ≠ "__name__" := by decide) (hdb : (x == ("__debug__" : Str)) = false := by decide)
    (he : starEach (e :: es) X.env = (false, eval e X.env) :: starEach es X.env := by rfl) (hpl : (backTo pos (starEach es X.env)).any (·.1) = false := by rfl) : PE X (.Call (.Name x p) (e :: es) [] pos) (tCB r t) := by
  intro pins s σ H Q I h
  refine wpAny_Call_Name_kw (ld_blt I hg hm hv ?_ hn hdb)
  exact PyProof.Rows.callWith_type1 (thn (ha pos pins s σ H _ I h) fun us s1 ⟨vs, H1, I1, r1, q1⟩ => hc pins s1 σ H1 vs us Q I1 r1 q1) he hpl
end
end L2

namespace HT
open PySem PyProof.Rows



section
open PySem.SeqAt
open PySem.AutoSeq1 (wpAny_loadPart')
open PySem.MeetsSeq PySem.MeetsSeq2 PySem.MeetsSeq3

end

section
variable {prog : Program} {w : World} {A : Around} {E : Value → Shared → Prop} {s : Shared}


/-- t + u, t not empty -/
theorem cat_tup {t b : Addr} {vs ws : List Value} {Q : Value → Shared → Prop} (ht : IsTup s.heap t vs.toArray) (hb : IsTup s.heap b ws.toArray) (hv : vs ≠ [])
    (h1 : ws = [] → Q (.ref t) s) (h2 : ws ≠ [] → Q (.ref s.heap.objs.size) { s with heap := s.heap.push { cls := .type "tuple", data := .seq (vs ++ ws).toArray } })
    (hsz : vs.length + ws.length ≤ sizeLine) : wpAny (model prog w) A (binaryOp .Add (.ref t) (.ref b)) Q E s := by
  obtain ⟨⟨cls, dd, data, sl⟩, ho, hc, n, hd⟩ := id ht
  obtain ⟨⟨cls2, dd2, data2, sl2⟩, ho2, hc2, n2, hd2⟩ := id hb
  simp only at hc hd hc2 hd2
  subst hc hd hc2 hd2
  have e : vs.toArray ++ ws.toArray = (vs ++ ws).toArray := by simp
  by_cases hw : ws = []
  · exact concat_meets ⟨_, ho, rfl⟩ ⟨_, ho2, rfl⟩ noFill_tuple_add seq_tuple_add PySem.F.slot_tuple_add PySem.F.entry_tuple_add (PySem.F.args_tuple_add_2 _ _)
      (tuple_addW1 t b vs.toArray ws.toArray n n2 dd dd2 sl sl2 (by simpa using hv) (by simp [hw])) ⟨ho, ho2, h1 hw⟩
  · refine concat_meets ⟨_, ho, rfl⟩ ⟨_, ho2, rfl⟩ noFill_tuple_add seq_tuple_add PySem.F.slot_tuple_add PySem.F.entry_tuple_add (PySem.F.args_tuple_add_2 _ _)
      (tuple_addW2 t b vs.toArray ws.toArray n n2 dd dd2 sl sl2 (by simpa using hv) (by simpa using hw) (by rw [List.size_toArray, List.size_toArray]; exact hsz)) ⟨ho, ho2, ?_⟩
    rw [e]
    exact h2 hw

/-! ### t[a:b], not the whole -/
/-- a slice's bound as a place among n (d where it is left out) -/
def sIx (n d : Nat) : Option Int → Nat
  | none => d
  | some v => if v < 0 then (v + (n : Int)).toNat else min v.toNat n
theorem sIx_none (n d : Nat) : sIx n d none = d := rfl
theorem sIx_nat (n d k : Nat) : sIx n d (some (k : Int)) = min k n := by
  show (if (k : Int) < 0 then ((k : Int) + (n : Int)).toNat else min (k : Int).toNat n) = min k n
  rw [if_neg (by omega), Int.toNat_natCast]
theorem sIx_le (n d : Nat) (hd : d ≤ n) (o : Option Int) : sIx n d o ≤ n := by
  cases o with
  | none => exact hd
  | some v =>
    show (if v < 0 then (v + (n : Int)).toNat else min v.toNat n) ≤ n
    by_cases hv : v < 0
    · rw [if_pos hv]; omega
    · rw [if_neg hv]; exact Nat.min_le_right _ _
theorem clip_eq (v : Int) (n d : Nat) : (if v < 0 then max (v + (n : Int)) 0 else min v (n : Int)) = ((sIx n d (some v) : Nat) : Int) := by
  show (if v < 0 then max (v + (n : Int)) 0 else min v (n : Int)) = (((if v < 0 then (v + (n : Int)).toNat else min v.toNat n) : Nat) : Int)
  by_cases hv : v < 0
  · simp only [if_pos hv]; omega
  · simp only [if_neg hv]; omega
theorem adjust_gen (lo hi : Option Int) (n : Nat) : Builtin.Slice.sliceAdjust lo hi 1 (n : Int) = (((sIx n 0 lo : Nat) : Int), ((sIx n n hi : Nat) : Int)) := by
  have h1 : ¬ ((1 : Int) < 0) := by omega
  unfold Builtin.Slice.sliceAdjust
  simp only [h1, if_false]
  refine Prod.ext ?_ ?_
  · cases lo with
    | none => rfl
    | some v => exact clip_eq v n 0
  · cases hi with
    | none => rfl
    | some v => exact clip_eq v n n
theorem places_gen (i j : Nat) : Builtin.Slice.slicePlaces (i : Int) (j : Int) 1 = j - i := by
  unfold Builtin.Slice.slicePlaces
  have h1 : (1 : Int) > 0 := by omega
  simp only [h1, if_true, Int.ediv_one]
  split <;> omega
theorem slicePart_ {v : Value} {o : Option Int} {Q : Option Int → Shared → Prop} (p : IsPart v o) (h : Q o s) : wpAny (model prog w) A (Builtin.Slice.slicePartIndex v) Q E s := by
  cases p with
  | none => exact slicePart_none h
  | int i t => exact slicePart_int h
theorem sliceApplied_gen {sl : Addr} {vl vu : Value} {lo hi : Option Int} {n : Nat} {Q : Int × Int × Nat → Shared → Prop} (hs : s.heap.IsSliceOf sl vl vu .none) (pl : IsPart vl lo) (pu : IsPart vu hi)
    (h : Q (((sIx n 0 lo : Nat) : Int), 1, sIx n n hi - sIx n 0 lo) s) : wpAny (model prog w) A (Builtin.Slice.sliceApplied (.ref sl) (pure (n : Int))) Q E s := by
  obtain ⟨os, hos, hcs, hds⟩ := id hs
  unfold Builtin.Slice.sliceApplied Builtin.Slice.sliceFields
  refine wpAny_bind (wpAny_bind (wpAny_field hos hds (x := vl) rfl (wpAny_bind (wpAny_field hos hds (x := vu) rfl (wpAny_bind (wpAny_field hos hds (x := .none) rfl (wpAny_pure ?_)))))))
  refine wpAny_bind (slicePart_none ?_)
  show wpAny _ _ (if ((1 : Int) == 0) = true then _ else _) _ _ s
  rw [if_neg (by decide)]
  refine wpAny_bind (slicePart_ pl (wpAny_bind (slicePart_ pu (wpAny_bind (wpAny_pure ?_)))))
  show wpAny _ _ (match Builtin.Slice.sliceAdjust lo hi 1 (n : Int) with | (lo, hi) => pure (lo, (1 : Int), Builtin.Slice.slicePlaces lo hi 1)) _ _ s
  rw [adjust_gen lo hi n]
  show wpAny _ _ (pure (((sIx n 0 lo : Nat) : Int), (1 : Int), Builtin.Slice.slicePlaces ((sIx n 0 lo : Nat) : Int) ((sIx n n hi : Nat) : Int) 1)) _ _ s
  rw [places_gen]
  exact wpAny_pure h
theorem pick_gen (xs : Array Value) (i k : Nat) : ((List.range k).filterMap fun (m : Nat) => xs[((i : Int) + (m : Int) * 1).toNat]?).toArray = ((xs.toList.drop i).take k).toArray := by
  have e : (fun (m : Nat) => xs[((i : Int) + (m : Int) * 1).toNat]?) = fun m => xs[i + m]? := by
    funext m
    have : ((i : Int) + (m : Int) * 1).toNat = i + m := by omega
    rw [this]
  rw [e]
  have := pick_run xs i k
  rw [List.filterMap_map] at this
  have e2 : ((fun x => xs[x]?) ∘ fun x => i + x) = fun m => xs[i + m]? := rfl
  rw [e2] at this
  rw [this]

theorem getItem_tuple_cut {t sl : Addr} {items : Array Value} {vl vu : Value} {lo hi : Option Int} {Q : Value → Shared → Prop} (ht : IsTup s.heap t items) (hs : s.heap.IsSliceOf sl vl vu .none) (pl : IsPart vl lo) (pu : IsPart vu hi)
    (hw : ¬ (sIx items.size 0 lo = 0 ∧ sIx items.size items.size hi = items.size))
    (h : Q (.ref s.heap.objs.size) { s with heap := s.heap.push { cls := .type "tuple", data := .seq ((items.toList.drop (sIx items.size 0 lo)).take (sIx items.size items.size hi - sIx items.size 0 lo)).toArray } })
    (hsz : items.size ≤ sizeLine) : wpAny (model prog w) A (getItem (.ref t) (.ref sl)) Q E s := by
  have htake : sizeOk (.seq ((items.toList.drop (sIx items.size 0 lo)).take (sIx items.size items.size hi - sIx items.size 0 lo)).toArray) := by
    show ((items.toList.drop (sIx items.size 0 lo)).take (sIx items.size items.size hi - sIx items.size 0 lo)).toArray.size ≤ sizeLine
    rw [List.size_toArray, List.length_take, List.length_drop, Array.length_toList]
    omega
  have hj : sIx items.size items.size hi ≤ items.size := sIx_le _ _ (Nat.le_refl _) hi
  obtain ⟨os, hos, hcs, hds⟩ := id hs
  have hTs : s.TypeIs (.ref sl) "slice" := ⟨os, hos, hcs⟩
  unfold getItem
  try with_reducible refine wpAny_holding ?_
  first | refine wpAny_bind (wpAny_pure ?_) | skip
  refine wpAny_bind (wpAny_sequenceKey ht.typeIs (by decide) ?_)
  refine wpAny_bind (wpAny_callSpecial?_slot (name := Str.ofString "__getitem__") ht.typeIs PyProof.Rows.slot_tuple_getitem
    (wpAny_call_entry PyProof.Rows.slot_tuple_getitem ht.typeIs entry_tuple_getitem ?_ (args_tuple_getitem _ _)))
  show wpAny _ _ (Builtin.Tuple.tupleItemsOf (.ref t) >>= _) _ _ s
  refine wpAny_bind (tupleItemsOf_ ht ?_)
  refine wpAny_bind (wpAny_typeOf hTs ?_)
  rw [if_pos (by decide)]
  refine wpAny_bind (sliceApplied_gen hs pl pu ?_)
  have hno : ¬ ((((sIx items.size 0 lo : Nat) : Int) == 0 && (1 : Int) == 1 && (sIx items.size items.size hi - sIx items.size 0 lo) == items.size) = true) := by
    intro q
    rw [Bool.and_eq_true, Bool.and_eq_true] at q
    have q1 : ((sIx items.size 0 lo : Nat) : Int) = 0 := eq_of_beq q.1.1
    have q2 : sIx items.size items.size hi - sIx items.size 0 lo = items.size := eq_of_beq q.2
    exact hw ⟨by omega, by omega⟩
  show wpAny _ _ (if (((sIx items.size 0 lo : Nat) : Int) == 0 && (1 : Int) == 1 && (sIx items.size items.size hi - sIx items.size 0 lo) == items.size) = true then _ else _) _ _ s
  rw [if_neg hno, pick_gen]
  first
    | exact wpAny_bind (m := Builtin.Tuple.tupleExact _) (wpAny_newObj_type (wpAny_pure ⟨_, rfl, wpAny_pure h⟩) htake)
    | exact wpAny_bind (m := Builtin.Tuple.tupleExact _) (wpAny_newObj_type (wpAny_bind (wpAny_pure (wpAny_pure ⟨_, rfl, wpAny_pure h⟩))) htake)
    | exact wpAny_bind (wpAny_bind (m := Builtin.Tuple.tupleExact _) (wpAny_newObj_type (wpAny_pure (wpAny_pure ⟨_, rfl, wpAny_pure h⟩)) htake))
    | exact wpAny_bind (wpAny_bind (m := Builtin.Tuple.tupleExact _) (wpAny_newObj_type (wpAny_pure ⟨_, rfl, wpAny_pure h⟩) htake))
end
end HT

namespace L2
open PySem PySem.Spec PyProof.Rows

/-! ### the parts of a slice -/
abbrev TO := St → Hp → (Option Int → Hp → Prop) → Prop
/-- a slice's part (left out, or an int) -/
def PO (X : Cx) (e : Option Expr) (t : TO) : Prop :=
  ∀ (pins : List (Addr × Obj)) (s : Shared) (σ : St) (H : Hp) (Q : Option Int → Hp → Prop), Inv X pins σ H s → t σ H Q →
    wpAny (model X.prog X.w) X.A (evalPart e X.env) (fun u s' => ∃ o H', Inv X pins σ H' s' ∧ IsPart u o ∧ Q o H') X.xe s
def tNoPart : TO := fun _ H Q => Q none H
def tPart (t : TE) : TO := fun σ H Q => t σ H fun x H1 => ∃ i, x = .int i ∧ Q (some i) H1


section
variable {X : Cx} {e : Expr} {te : TE} {lo hi : Option Expr} {tl th : TO} {pos p2 : Pos}

theorem po_none : PO X none tNoPart := by
  intro pins s σ H Q I h
  rw [evalPart_none]
  exact wpAny_pure ⟨none, H, I, .none, h⟩
theorem po_some (h : PE X e te) : PO X (some e) (tPart te) := by
  intro pins s σ H Q I hw
  rw [evalPart_some]
  refine thn (h pins s σ H _ I hw) fun u s1 ⟨x, H1, I1, r1, q1⟩ => ?_
  obtain ⟨i, rfl, q⟩ := q1
  obtain ⟨t, rfl⟩ := r1
  exact ⟨some i, H1, I1, .int i t, q⟩

/-- what a slice of a value is, by values: the slice object stands at sl -/
def SlR (X : Cx) (r : V → Option Int → Option Int → Hp → VK → Prop) : Prop :=
  ∀ (pins : List (Addr × Obj)) (s : Shared) (σ : St) (H : Hp) (x : V) (v vl vu : Value) (lo hi : Option Int) (sl : Addr) (Q : VK), Inv X pins σ H s → RelV x v → s.heap.IsSliceOf sl vl vu .none → IsPart vl lo → IsPart vu hi → r x lo hi H Q →
    ∃ T id, typeLookup (.type T) "__getitem__" = pure (some (.builtin id)) ∧ s.TypeIs v T ∧ wpAny (model X.prog X.w) X.A (getItem v (.ref sl)) (EP X pins σ Q) X.xe s
def tSl (r : V → Option Int → Option Int → Hp → VK → Prop) (te : TE) (tl th : TO) : TE := fun σ H Q => te σ H fun x H1 => tl σ H1 fun l H2 => th σ H2 fun u H3 => r x l u H3 Q
/-- a[lo:hi], any a -/
theorem pe_slice {r : V → Option Int → Option Int → Hp → VK → Prop} (hr : SlR X r) (he : PE X e te) (hl : PO X lo tl) (hu : PO X hi th) : PE X (.Subscript e (.Slice lo hi none p2) pos) (tSl r te tl th) := by
  intro pins s σ H Q I h
  refine Subscript_ (thn (he pins s σ H _ I h) fun v s1 ⟨x, H1, I1, r1, q1⟩ => ?_)
  refine wpAny_Slice (thn (hl pins s1 σ H1 _ I1 q1) fun vl s2 ⟨l, H2, I2, pl, q2⟩ => thn (hu pins s2 σ H2 _ I2 q2) fun vu s3 ⟨u, H3, I3, pu, q3⟩ => ?_)
  rw [evalPart_none]
  refine wpAny_pure ?_
  have I4 : Inv X pins σ H3 { s3 with heap := s3.heap.push { cls := .type "slice", data := .fields #[vl, vu, .none] } } := I3.kept (t' := s3.toks) fun b ob q => Heap.get?_push_of_some _ q
  obtain ⟨T, id, hT, ht, hg⟩ := hr pins { s3 with heap := s3.heap.push { cls := .type "slice", data := .fields #[vl, vu, .none] } } σ H3 x v vl vu l u s3.heap.objs.size Q I4 r1 (Heap.IsSliceOf.new ..) pl pu q3
  show wpAny (model X.prog X.w) X.A (subscriptTail e (.Slice lo hi none p2) v (.ref s3.heap.objs.size)) (EP X pins σ Q) X.xe { s3 with heap := s3.heap.push { cls := .type "slice", data := .fields #[vl, vu, .none] } }
  exact tail_any (ops := [.ref s3.heap.objs.size, v]) ht hT hg (by with_unfolding_all rfl)

/-- the items of xs[lo:hi] -/
def cutV (xs : List V) (lo hi : Option Int) : List V := (xs.drop (HT.sIx xs.length 0 lo)).take (HT.sIx xs.length xs.length hi - HT.sIx xs.length 0 lo)
theorem cutV_length (xs : List V) (lo hi : Option Int) : (cutV xs lo hi).length ≤ xs.length := by
  unfold cutV
  rw [List.length_take, List.length_drop]
  omega
/-- t[lo:hi], not the whole of it (the whole would be t itself) -/
def rSlT (K : PySem.W.Frag) : V → Option Int → Option Int → Hp → VK → Prop := fun x lo hi H Q => ∃ a xs, x = .ref a ∧ SqT K H a xs ∧
  ¬ (HT.sIx xs.length 0 lo = 0 ∧ HT.sIx xs.length xs.length hi = xs.length) ∧ ∀ p, H p = none → Q (.ref p) (upd H p (.tup (cutV xs lo hi)))
theorem sl_tup : SlR X (rSlT X.K) := by
  intro pins s σ H x v vl vu lo hi sl Q I rx hs pl pu h
  obtain ⟨a, xs, rfl, hx, hw, q⟩ := h
  cases rx
  obtain ⟨its, r, ht, hz⟩ := I.tuple hx
  have hlen : its.toArray.size = xs.length := by rw [List.size_toArray]; exact r.length.symm
  refine ⟨"tuple", _, PyProof.Rows.slot_tuple_getitem.lookup, ht.typeIs, ?_⟩
  refine HT.getItem_tuple_cut ht hs pl pu (by rw [hlen]; exact hw) ?_ (by rw [hlen]; exact hz)
  rw [hlen]
  refine ⟨.ref s.heap.objs.size, _, I.laid (t' := s.toks) (o := .tup (cutV xs lo hi)) (fun b ob q => Heap.get?_push_of_some _ q) (Nat.le_refl _) ?_, rfl, q _ (I.hok.fresh (Nat.le_refl _))⟩
  exact ⟨Nat.le_trans (cutV_length xs lo hi) hz, _, (r.drop (HT.sIx xs.length 0 lo)).take (HT.sIx xs.length xs.length hi - HT.sIx xs.length 0 lo), IsTup.new _ _⟩

/-! ### t < u, t + u -/
/-- t + u, t not empty: u empty gives t itself -/
def rCatT (K : PySem.W.Frag) : R2 := fun x y H Q => ∃ a b xs ys, x = .ref a ∧ y = .ref b ∧ SqT K H a xs ∧ SqT K H b ys ∧ xs ≠ [] ∧ xs.length + ys.length ≤ sizeLine ∧
  (ys = [] → Q (.ref a) H) ∧ (ys ≠ [] → ∀ p, H p = none → Q (.ref p) (upd H p (.tup (xs ++ ys))))
theorem Vals.nil_iff {xs : List V} {us : List Value} (r : Vals xs us) : us = [] ↔ xs = [] := by
  cases r with
  | nil => simp
  | cons _ _ => simp
theorem op_catT : OpR X (binaryOp .Add) (rCatT X.K) := by
  intro pins s σ H x y v u Q I rx ry h
  obtain ⟨a, b, xs, ys, rfl, rfl, ha, hb, hx, hz, q1, q2⟩ := h
  cases rx
  cases ry
  obtain ⟨its, r1, p1, _⟩ := I.tuple ha
  obtain ⟨its2, r2, p2, _⟩ := I.tuple hb
  refine HT.cat_tup p1 p2 (fun z => hx (r1.nil_iff.mp z)) (fun z => ⟨.ref a, H, I, rfl, q1 (r2.nil_iff.mp z)⟩) (fun z => ?_) (by rw [← r1.length, ← r2.length]; exact hz)
  refine ⟨.ref s.heap.objs.size, _, I.laid (t' := s.toks) (o := .tup (xs ++ ys)) (fun b ob q => Heap.get?_push_of_some _ q) (Nat.le_refl _) ?_, rfl, q2 (fun w => z (r2.nil_iff.mpr w)) _ (I.hok.fresh (Nat.le_refl _))⟩
  exact ⟨by rw [List.length_append]; exact hz, _, r1.append r2, IsTup.new _ _⟩
end
end L2

namespace L2
open PySem PySem.Spec PyProof.Rows

/-! ### places -/
/-- the place that an index of any sign means -/
def ixN (n : Nat) (i : Int) : Option Nat := if 0 ≤ i then (if i < n then some i.toNat else none) else if -(n : Int) ≤ i then some (i + n).toNat else none
def atI {α : Type} (xs : List α) (i : Int) : Option α := (ixN xs.length i).bind fun j => xs[j]?
theorem ixN_seq {n : Nat} {i : Int} {j : Nat} (h : ixN n i = some j) : seqIndex? i n = some j ∧ j < n ∧ -(n : Int) ≤ i ∧ i < n := by
  unfold ixN at h
  by_cases h0 : 0 ≤ i
  · rw [if_pos h0] at h
    by_cases h1 : i < n
    · rw [if_pos h1] at h
      have e : i.toNat = j := Option.some.inj h
      exact ⟨by rw [seqIndex_of h0 h1, e], by omega, by omega, h1⟩
    · rw [if_neg h1] at h; cases h
  · rw [if_neg h0] at h
    by_cases h1 : -(n : Int) ≤ i
    · rw [if_pos h1] at h
      have e : (i + n).toNat = j := Option.some.inj h
      exact ⟨by rw [seqIndex_neg (by omega) h1, e], by omega, h1, by omega⟩
    · rw [if_neg h1] at h; cases h
theorem atI_get {α : Type} {xs : List α} {i : Int} {v : α} (h : atI xs i = some v) : ∃ j, seqIndex? i xs.length = some j ∧ xs[j]? = some v ∧ j < xs.length ∧ -(xs.length : Int) ≤ i ∧ i < xs.length := by
  unfold atI at h
  cases e : ixN xs.length i with
  | none => rw [e] at h; cases h
  | some j =>
    rw [e] at h
    obtain ⟨h1, h2, h3, h4⟩ := ixN_seq e
    exact ⟨j, h1, h, h2, h3, h4⟩
theorem atI_nat {α : Type} {xs : List α} {j : Nat} {v : α} (h : xs[j]? = some v) : atI xs (j : Int) = some v := by
  have hj : j < xs.length := (List.getElem?_eq_some_iff.mp h).1
  have e : ixN xs.length (j : Int) = some j := by
    unfold ixN
    rw [if_pos (by omega), if_pos (by omega)]; simp
  unfold atI; rw [e]; exact h

/-! ### what may be subscripted -/
/-- what stands as an index of a plain subscript -/
def PlainIx (b : Expr) : Prop := ∀ o i, subscripted b false o i = operate [o, i] (getItem o i)
/-- a subscript by values -/
def IxR (X : Cx) (r : R2) : Prop :=
  ∀ (value slice : Expr) (pins : List (Addr × Obj)) (s : Shared) (σ : St) (H : Hp) (x y : V) (v u : Value) (Q : VK), Inv X pins σ H s → RelV x v → RelV y u → r x y H Q →
    subscripted slice false v u = operate [v, u] (getItem v u) → wpAny (model X.prog X.w) X.A (subscriptTail value slice v u) (EP X pins σ Q) X.xe s
/-- a call of a builtin's method by values: the receiver, the arguments -/
def MtR (X : Cx) (id : String) (r : V → List V → Hp → VK → Prop) : Prop :=
  ∀ (pins : List (Addr × Obj)) (s : Shared) (σ : St) (H : Hp) (x : V) (xs : List V) (v : Value) (us : List Value) (Q : VK), Inv X pins σ H s → RelV x v → Vals xs us → r x xs H Q →
    wpAny (model X.prog X.w) X.A (call (.builtin id) (v :: us)) (EP X pins σ Q) X.xe s
section
variable {X : Cx} {a b : Expr} {ta tb : TE} {pos : Pos}
/-- a[b] -/
theorem pe_ix {r : R2} (hr : IxR X r) (ha : PE X a ta) (hb : PE X b tb) (hs : PlainIx b) : PE X (.Subscript a b pos) (tOp r ta tb) := by
  intro pins s σ H Q I h
  exact Subscript_ (binT ha hb I h fun v u s2 x y H2 I2 rx ry q => hr a b pins s2 σ H2 x y v u Q I2 rx ry q (hs _ _))

def rIxL (K : PySem.W.Frag) : R2 := fun x y H Q => ∃ p xs i v, x = .ref p ∧ y = .int i ∧ SqL K H p xs ∧ atI xs i = some v ∧ Q v H
def rIxT (K : PySem.W.Frag) : R2 := fun x y H Q => ∃ p xs i v, x = .ref p ∧ y = .int i ∧ SqT K H p xs ∧ atI xs i = some v ∧ Q v H
def rIxS : R2 := fun x y H Q => ∃ z i c, x = .str z ∧ y = .int i ∧ z.length ≤ sizeLine ∧ atI z.cps.toList i = some c ∧ Q (.str ⟨#[c]⟩) H
theorem ix_list : IxR X (rIxL X.K) := by
  intro value slice pins s σ H x y v u Q I rx ry h hs
  obtain ⟨p, xs, i, z, rfl, rfl, hq, he, q⟩ := h
  cases rx
  obtain ⟨t, rfl⟩ := ry
  obtain ⟨its, r, pl, hz⟩ := I.list hq
  obtain ⟨j, h1, h2, h3, h4, h5⟩ := atI_get he
  obtain ⟨w, ew, rw'⟩ := r.get h2
  have hl := r.length
  have hn := line63
  have fin : EP X pins σ Q w s := ⟨z, H, I, rw', q⟩
  by_cases h0 : 0 ≤ i
  · have hj : i.toNat = j := by
      rw [seqIndex_of h0 h5] at h1
      exact Option.some.inj h1
    exact item_listR pl.isList h0 (by omega) (by rw [hj]; simpa using ew) fin hs
  · have hj : (i + (its.toArray.size : Int)).toNat = j := by
      rw [seqIndex_neg (by omega) h4] at h1
      rw [List.size_toArray, ← hl]
      exact Option.some.inj h1
    exact subscriptTail_builtinR (x := w) pl.isList.typeIs slot_list_getitem.lookup
      (wpAny_getItem_list_neg (Q := fun r s' => r = w ∧ EP X pins σ Q r s') pl.isList (by omega) (by rw [List.size_toArray] <;> omega) (by omega) (by rw [hj]; simpa using ew) ⟨rfl, fin⟩) hs
theorem ix_tup : IxR X (rIxT X.K) := by
  intro value slice pins s σ H x y v u Q I rx ry h hs
  obtain ⟨p, xs, i, z, rfl, rfl, hq, he, q⟩ := h
  cases rx
  obtain ⟨t, rfl⟩ := ry
  obtain ⟨its, r, pl, hz⟩ := I.tuple hq
  obtain ⟨j, h1, h2, h3, h4, h5⟩ := atI_get he
  obtain ⟨w, ew, rw'⟩ := r.get h2
  have hl := r.length
  have hn := line63
  have fin : EP X pins σ Q w s := ⟨z, H, I, rw', q⟩
  exact subscriptTail_builtinR (x := w) pl.typeIs slot_tuple_getitem.lookup
    (getItem_tuple (j := j) (Q := fun r s' => r = w ∧ EP X pins σ Q r s') pl (by omega) (by omega) (by rw [List.size_toArray, ← hl]; exact h1) (by simpa using ew) ⟨rfl, fin⟩) hs
theorem ix_str : IxR X rIxS := by
  intro value slice pins s σ H x y v u Q I rx ry h hs
  obtain ⟨z, i, c, rfl, rfl, hz, he, q⟩ := h
  obtain ⟨t, rfl⟩ := rx
  obtain ⟨t', rfl⟩ := ry
  obtain ⟨j, h1, h2, h3, h4, h5⟩ := atI_get he
  have hl : z.cps.toList.length = z.length := by simp [Str.length]
  rw [hl] at h1 h4 h5
  have hn := line63
  exact tail_any (typeIs_str s z t) slot_str_getitem.lookup (getItem_str (c := c) (by
    have e1 : decide (i < -(2 ^ 63 : Int)) = false := decide_eq_false (by omega)
    have e2 : decide (i ≥ 2 ^ 63) = false := decide_eq_false (by omega)
    rw [e1, e2, Bool.or_false]) (by rw [h1]; simpa using h2) ⟨.str ⟨#[c]⟩, H, I.tok _, ⟨_, rfl⟩, q⟩) hs

/-! ### xs[i] = v, any sign -/
/-- the list's object behind a store -/
theorem mapSeq_set (its : List Value) (n j : Nat) (u : Value) : Obj.mapSeq (·.setIfInBounds j u) { cls := .type "list", data := .seq its.toArray n } = { cls := .type "list", data := .seq (its.set j u).toArray n } := by
  simp [Obj.mapSeq]
theorem Inv.lst {pins : List (Addr × Obj)} {σ : St} {H : Hp} {s : Shared} {p : Addr} {xs : List V} (I : Inv X pins σ H s) (h : H p = some (.lst xs)) :
    ∃ (its : List Value) (n : Nat), Vals xs its ∧ s.heap.get? p = some { cls := .type "list", data := .seq its.toArray n } ∧ xs.length ≤ sizeLine := by
  obtain ⟨z, its, n, r, e⟩ := I.hok p _ h
  exact ⟨its, n, r, e, z⟩
/-- the list at p is written by an update of its object -/
theorem Inv.lstUpd {pins : List (Addr × Obj)} {σ : St} {H : Hp} {s : Shared} {p : Addr} {xs ys : List V} {its its' : List Value} {n n' : Nat} {f : Obj → Obj} (I : Inv X pins σ H s) (h : H p = some (.lst xs))
    (ho : s.heap.get? p = some { cls := .type "list", data := .seq its.toArray n }) (hf : f { cls := .type "list", data := .seq its.toArray n } = { cls := .type "list", data := .seq its'.toArray n' }) (r : Vals ys its') (hz : ys.length ≤ sizeLine) (t : Nat) :
    Inv X pins σ (upd H p (.lst ys)) { s with heap := s.heap.update p f, toks := t } := by
  have e : (s.heap.update p f).get? p = some { cls := .type "list", data := .seq its'.toArray n' } := by
    rw [Heap.get?_update_self f ho (by rw [hf] <;> rfl), hf]
  refine I.write (x := p) (e := p) (by rw [h]; trivial) (.inl rfl) (fun b u hb q => (Heap.get?_update_other _ _ (Ne.symm hb)).trans q) ⟨_, e⟩ ?_
  exact ⟨hz, its', n', r, e⟩
def rSetL : V → V → V → Hp → (Hp → Prop) → Prop := fun o i v H Q => ∃ p xs k j, o = .ref p ∧ i = .int k ∧ H p = some (.lst xs) ∧ ixN xs.length k = some j ∧ Q (upd H p (.lst (xs.set j v)))
theorem set_list : PSet X rSetL := by
  intro pins s σ H o i v ov iv u Q I ro ri rv h
  obtain ⟨p, xs, k, j, rfl, rfl, hp, hj, q⟩ := h
  cases ro
  obtain ⟨t, rfl⟩ := ri
  obtain ⟨its, n, r, ho, hz⟩ := I.lst hp
  obtain ⟨h1, h2, h3, h4⟩ := ixN_seq hj
  have hl := r.length
  have hn := line63
  have I' : Inv X pins σ (upd H p (.lst (xs.set j v))) { s with heap := s.heap.update p (Obj.mapSeq (·.setIfInBounds j u)) } :=
    I.lstUpd hp ho (mapSeq_set its n j u) (r.set rv j) (by rw [List.length_set]; exact hz) s.toks
  by_cases h0 : 0 ≤ k
  · have hk : k.toNat = j := by
      rw [seqIndex_of h0 h4] at h1
      exact Option.some.inj h1
    exact PySem.W.ki_setAt ho h0 (by omega) (by rw [List.size_toArray, ← hl]; exact h4) (by rw [hk]; exact ⟨_, I', q⟩)
  · have hk : (k + (its.toArray.size : Int)).toNat = j := by
      rw [seqIndex_neg (by omega) h3] at h1
      rw [List.size_toArray, ← hl]
      exact Option.some.inj h1
    exact PySem.W.ki_setBack ho (by omega) (by rw [List.size_toArray, ← hl]; exact h3) (by omega) (by rw [hk]; exact ⟨_, I', q⟩)

/-! ### slices -/
theorem slice_bounds (lo hi : Option Int) (n : Nat) : (sliceBounds lo hi none n).1 = ((HT.sIx n 0 lo : Nat) : Int) ∧ (sliceBounds lo hi none n).2.1 = ((HT.sIx n n hi : Nat) : Int) ∧ (sliceBounds lo hi none n).2.2 = 1 := by
  refine ⟨?_, ?_, rfl⟩
  · cases lo with
    | none => simp [sliceBounds, HT.sIx]
    | some i =>
      simp only [sliceBounds, HT.sIx, Option.getD_none, show (1 : Int) > 0 by decide, if_true]
      by_cases h : i < 0
      · simp only [h, if_true] <;> omega
      · simp only [h, if_false] <;> omega
  · cases hi with
    | none => simp [sliceBounds, HT.sIx]
    | some i =>
      simp only [sliceBounds, HT.sIx, Option.getD_none, show (1 : Int) > 0 by decide, if_true]
      by_cases h : i < 0
      · simp only [h, if_true] <;> omega
      · simp only [h, if_false] <;> omega
theorem slicePick_cut (its : List Value) (lo hi : Option Int) : slicePick its.toArray lo hi none = ((its.drop (HT.sIx its.length 0 lo)).take (HT.sIx its.length its.length hi - HT.sIx its.length 0 lo)).toArray := by
  obtain ⟨h1, h2, h3⟩ := slice_bounds lo hi its.toArray.size
  unfold slicePick
  rw [h1, h2, h3]
  simp only [sliceRange_one, pick_run, List.size_toArray] <;> rfl
/-- xs[lo:hi] of a list: a new list -/
def rSlL (K : PySem.W.Frag) : V → Option Int → Option Int → Hp → VK → Prop := fun x lo hi H Q => ∃ a xs, x = .ref a ∧ SqL K H a xs ∧ ∀ p, H p = none → Q (.ref p) (upd H p (.lst (cutV xs lo hi)))
theorem sl_list : SlR X (rSlL X.K) := by
  intro pins s σ H x v vl vu lo hi sl Q I rx hs pl pu h
  obtain ⟨a, xs, rfl, hx, q⟩ := h
  cases rx
  obtain ⟨its, r, ht, hz⟩ := I.list hx
  have hlen := r.length
  refine ⟨"list", _, slot_list_getitem.lookup, ht.isList.typeIs, ?_⟩
  refine wpAny_getItem_list_slice ht.isList hs pl pu .none (by simp) ?_ (by rw [List.size_toArray] <;> omega)
  rw [slicePick_cut, ← hlen]
  refine ⟨.ref s.heap.objs.size, _, I.laid (t' := s.toks) (o := .lst (cutV xs lo hi)) (fun b ob q => Heap.get?_push_of_some _ q) (Nat.le_refl _) ?_, rfl, q _ (I.hok.fresh (Nat.le_refl _))⟩
  exact ⟨Nat.le_trans (cutV_length xs lo hi) hz, _, 0, (r.drop (HT.sIx xs.length 0 lo)).take (HT.sIx xs.length xs.length hi - HT.sIx xs.length 0 lo), Heap.get?_push_size _ rfl⟩

/-! ### in, not in: flat items -/

/-! ### len, list(x), tuple(x) of any list or tuple that is read -/
theorem call_len_seq : CallR X (.builtin "len") (fun xs H Q => ∃ p ys, xs = [.ref p] ∧ (SqL X.K H p ys ∨ SqT X.K H p ys) ∧ Q (.int ys.length) H) := by
  intro pins s σ H xs us Q I r h
  obtain ⟨p, ys, rfl, hq, q⟩ := h
  obtain ⟨u, rfl, rx⟩ := vals1 r
  cases rx
  have hn := line63
  rcases hq with hq | hq
  · obtain ⟨its, r', pl, hz⟩ := I.list hq
    have hlen := r'.length
    exact Calls.call_len_list pl.isList (by simp only [List.size_toArray] <;> omega) ⟨.int ys.length, H, I.tok _, ⟨s.toks + 1, by rw [List.size_toArray, hlen]⟩, q⟩
  · obtain ⟨its, r', pl, hz⟩ := I.tuple hq
    have hlen := r'.length
    exact len_tuple pl (by simp only [List.size_toArray] <;> omega) ⟨.int ys.length, H, I.tok _, ⟨s.toks + 1, by rw [List.size_toArray, hlen]⟩, q⟩
theorem call_len_str : CallR X (.builtin "len") (fun xs H Q => ∃ z, xs = [.str z] ∧ z.length ≤ sizeLine ∧ Q (.int z.length) H) := by
  intro pins s σ H xs us Q I r h
  obtain ⟨z, rfl, hz, q⟩ := h
  obtain ⟨u, rfl, t, rfl⟩ := vals1 r
  have hn := line63
  exact len_str (by omega) ⟨.int z.length, H, I.tok _, ⟨_, rfl⟩, q⟩
theorem CallR.or {f : Value} {r r' : List V → Hp → VK → Prop} (h : CallR X f r) (h' : CallR X f r') : CallR X f (fun xs H Q => r xs H Q ∨ r' xs H Q) := by
  intro pins s σ H xs us Q I rs q
  rcases q with q | q
  · exact h pins s σ H xs us Q I rs q
  · exact h' pins s σ H xs us Q I rs q
theorem call_tuple_of : CallR X (.type "tuple") (fun xs H Q => ∃ p ys, xs = [.ref p] ∧ ((SqL X.K H p ys ∧ ∀ l, H l = none → Q (.ref l) (upd H l (.tup ys))) ∨ (SqT X.K H p ys ∧ Q (.ref p) H))) := by
  intro pins s σ H xs us Q I r h
  obtain ⟨p, ys, rfl, h⟩ := h
  obtain ⟨u, rfl, rx⟩ := vals1 r
  cases rx
  rcases h with ⟨hq, q⟩ | ⟨hq, q⟩
  · obtain ⟨its, r', pl, hz⟩ := I.list hq
    have hlen := r'.length
    refine call_tuple_list pl.isList (fun h' kp => ?_) (by simp only [List.size_toArray] <;> omega)
    have I1 : Inv X pins σ H { s with heap := h' } := I.kept (t' := s.toks) kp
    have I2 : Inv X pins σ (upd H h'.objs.size (.tup ys)) { s with heap := h'.push { cls := .type "tuple", data := .seq its.toArray } } :=
      I1.laid (t' := s.toks) (fun b o e => Heap.get?_push_of_some _ e) (Nat.le_refl _) (show ObjOk X.prog X.w _ _ _ (.tup ys) from ⟨hz, its, r', IsTup.new _ _⟩)
    exact ⟨.ref h'.objs.size, _, I2, rfl, q _ (I1.hok.fresh (Nat.le_refl _))⟩
  · obtain ⟨its, r', pl, hz⟩ := I.tuple hq
    exact call_tuple_same pl ⟨.ref p, H, I, rfl, q⟩

/-! ### the call of a builtin's method: o.m(..) -/
/-- the value is of that builtin type -/
def tyV (K : PySem.W.Frag) (T : String) (x : V) (H : Hp) : Prop := match x with
  | .str _ => T = "str"
  | .int _ => T = "int"
  | .ref p => (T = "list" ∧ ∃ xs, SqL K H p xs) ∨ (T = "tuple" ∧ ∃ o, K.lookup p = some o ∧ o.cls = .type "tuple" ∧ o.dict = none) ∨
      (T = "dict" ∧ ((∃ kvs, H p = some (.dK kvs)) ∨ ∃ kvs, H p = some (.dT kvs))) ∨ (T = "set" ∧ ∃ S n, H p = some (.set S n))
  | _ => False
theorem tyV_is {pins : List (Addr × Obj)} {σ : St} {H : Hp} {s : Shared} {T : String} {x : V} {v : Value} (I : Inv X pins σ H s) (r : RelV x v) (ty : tyV X.K T x H) :
    s.TypeIs v T ∧ ∀ a, v = .ref a → ∃ ob, s.heap.get? a = some ob ∧ ob.dict = none := by
  cases x with
  | str z =>
    obtain ⟨t, rfl⟩ := r
    cases (show T = "str" from ty)
    exact ⟨typeIs_str s z t, fun _ e => nomatch e⟩
  | int i =>
    obtain ⟨t, rfl⟩ := r
    cases (show T = "int" from ty)
    exact ⟨typeIs_int s i t, fun _ e => nomatch e⟩
  | ref p =>
    cases r
    rcases ty with ⟨rfl, xs, hq⟩ | ⟨rfl, o, hk, hc, hd⟩ | ⟨rfl, hk⟩ | ⟨rfl, S, n, hk⟩
    · obtain ⟨its, _, pl, _⟩ := I.list hq
      refine ⟨pl.isList.typeIs, fun a e => ?_⟩
      cases e
      obtain ⟨o, n, e, c, hd, _⟩ := pl
      exact ⟨o, e, hd⟩
    · refine ⟨⟨o, I.kIn p o hk, hc⟩, fun a e => ?_⟩
      cases e
      exact ⟨o, I.kIn _ o hk, hd⟩
    · have z : ∃ o, s.heap.get? p = some o ∧ o.ExactDict := by
        rcases hk with ⟨kvs, hk⟩ | ⟨kvs, hk⟩
        · obtain ⟨_, _, _, _, o, _, _, e, ex, _⟩ := I.hok p _ hk
          exact ⟨o, e, ex⟩
        · obtain ⟨_, _, _, _, o, _, _, e, ex, _⟩ := I.hok p _ hk
          exact ⟨o, e, ex⟩
      obtain ⟨o, e, ex⟩ := z
      refine ⟨⟨o, e, ex.1⟩, fun a e2 => ?_⟩
      cases e2
      exact ⟨o, e, ex.2.1⟩
    · obtain ⟨o, _, _, _, e, ex, _⟩ := I.hok p _ hk
      refine ⟨⟨o, e, ex.1⟩, fun a e2 => ?_⟩
      cases e2
      exact ⟨o, e, ex.2.1⟩
  | _ => exact False.elim ty
def tBM (K : PySem.W.Frag) (T : String) (r : V → List V → Hp → VK → Prop) (to : TE) (t : TA) : TE := fun σ H Q => to σ H fun x H1 => tyV K T x H1 ∧ t σ H1 fun xs H2 => r x xs H2 Q
variable {o e : Expr} {es : List Expr} {to : TE} {t : TA} {name : Str} {apos cpos : Pos} {T id : String} {r : V → List V → Hp → VK → Prop}
theorem pe_bm (pa : PlainAttrs T) (slot : Slot T name id) (hty : typeOf (.builtin id) = pure (.type "method_descriptor")) (hm : MtR X id r) (ho : PE X o to) (ha : PA X (e :: es) t)
    (hbase : attributeBase o name X.env (eval o X.env) = eval o X.env := by rfl)
    (hfew : ((backTo cpos (starEach (e :: es) X.env)).all (fun x => !x.1) && (backToKw cpos (keywordEach [] X.env)).all (fun x => x.1.isSome)
      && decide ((e :: es).length + ([] : List Keyword).length + (if ([] : List Keyword).isEmpty then 0 else 1) < 30)) = true := by rfl)
    (hline : (apos.endLine == cpos.line) = true := by rfl) (hs : starEach (e :: es) X.env = (false, eval e X.env) :: starEach es X.env := by rfl) (hplain : (backTo cpos (starEach es X.env)).any (·.1) = false := by rfl) :
    PE X (.Call (.Attribute o name apos) (e :: es) [] cpos) (tBM X.K T r to t) := by
  intro pins s σ H Q I h
  refine wpAny_Call_method_late hbase hfew hline rfl (thn (ho pins s σ H _ I h) fun v s1 ⟨x, H1, I1, r1, ty, q1⟩ => ?_)
  obtain ⟨h1, h2⟩ := tyV_is I1 r1 ty
  refine ⟨T, id, pa, slot, hty, h1, h2, ?_⟩
  have hA := ha cpos pins s1 σ H1 _ I1 q1
  rw [hs] at hA ⊢
  refine Calls.callWith_builtin (by show (false || (backTo cpos (starEach es X.env)).any (·.1)) = false; rw [hplain] <;> rfl) (Calls.evalArgs_plain ?_)
  exact thn hA fun us s2 ⟨vs, H2, I2, r2, q2⟩ => hm pins s2 σ H2 x vs v us Q I2 r1 r2 q2
/- xs.append(e), list.index on a module's tuple .. are MtR facts of 06m -/
end
end L2

namespace L2
open PySem PySem.Spec PyProof.Rows

def MtM (X : Cx) (id : String) (r : V → List V → Hp → VK → Prop) : Prop :=
  ∀ (pins : List (Addr × Obj)) (s : Shared) (σ : St) (H : Hp) (x : V) (xs : List V) (v : Value) (us : List Value) (Q : VK), Inv X pins σ H s → RelV x v → Vals xs us → r x xs H Q →
    wpAny (model X.prog X.w) X.A (call (.builtin id) (v :: us)) (EP X pins σ Q) X.xe s

/-! ### lists of values -/
theorem Vals.one : ∀ {x : V} {us : List Value}, Vals [x] us → ∃ u, us = [u] ∧ RelV x u
  | _, _, .cons r .nil => ⟨_, rfl, r⟩

section
variable {X : Cx} {pins : List (Addr × Obj)} {σ : St} {H : Hp} {s : Shared} {l b : Addr} {xs ys zs : List V}

/-! ### the two steps: a tracked list is rewritten, a new list is laid -/
theorem Inv.lset {its its' : List Value} {n : Nat} {f : Array Value → Array Value} {t' : Nat} (I : Inv X pins σ H s) (hH : H l = some (.lst xs))
    (e : s.heap.get? l = some { cls := .type "list", data := .seq its.toArray n }) (hf : f its.toArray = its'.toArray) (hv : Vals ys its') (hz : ys.length ≤ sizeLine) :
    Inv X pins σ (upd H l (.lst ys)) { s with heap := s.heap.update l (Obj.mapSeq f), toks := t' } := by
  have q := PySem.IsL.update e f
  rw [hf] at q
  refine I.write (x := l) (e := l) (by rw [hH]; exact trivial) (.inl rfl) (fun b' u hb hu => (Heap.get?_update_other s.heap (Obj.mapSeq f) (Ne.symm hb)).trans hu) ⟨_, q⟩ ?_
  exact ⟨hz, its', _, hv, q⟩
theorem Inv.lnew {its : List Value} {t' : Nat} (I : Inv X pins σ H s) (hv : Vals ys its) (hz : ys.length ≤ sizeLine) :
    Inv X pins σ (upd H s.heap.objs.size (.lst ys)) { s with heap := s.heap.push { cls := .type "list", data := .seq its.toArray }, toks := t' } :=
  I.laid (fun _ _ q => Heap.get?_push_of_some _ q) (Nat.le_refl _) ⟨hz, its, 0, hv, Heap.get?_push_size _ rfl⟩
theorem Inv.fresh (I : Inv X pins σ H s) : H s.heap.objs.size = none := I.hok.fresh (Nat.le_refl _)
theorem Inv.lstM (I : Inv X pins σ H s) (hH : H l = some (.lst xs)) : xs.length ≤ sizeLine ∧ ∃ (its : List Value) (n : Nat), Vals xs its ∧ xs.length = its.length ∧ s.heap.get? l = some { cls := .type "list", data := .seq its.toArray n } := by
  obtain ⟨z, its, n, r, e⟩ := I.hok l _ hH
  exact ⟨z, its, n, r, r.length, e⟩

theorem notLongL {n : Nat} (h : n ≤ sizeLine) : Builtin.List.listTooLong n = false := by
  unfold Builtin.List.listTooLong
  exact decide_eq_false (by omega)
end

section
variable {X : Cx}

/-! ### methods -/
def rAppend : V → List V → Hp → VK → Prop := fun x vs H Q => ∃ l xs y, x = .ref l ∧ vs = [y] ∧ H l = some (.lst xs) ∧ xs.length < sizeLine ∧ Q .non (upd H l (.lst (xs ++ [y])))
theorem mt_append : MtM X "list.append" rAppend := by
  intro pins s σ H x vs v us Q I rx rv h
  obtain ⟨l, xs, y, rfl, rfl, hH, hz, q⟩ := h
  cases rx
  obtain ⟨u, rfl, ru⟩ := rv.one
  obtain ⟨z, its, n, r, hl, e⟩ := I.lstM hH
  refine call_meets F.slot_list_append ⟨_, e, rfl⟩ F.entry_list_append (F.args_list_append_2 _ _) (PySem.list_append l its.toArray n u (by rw [List.size_toArray]; omega)) ⟨e, ?_⟩
  refine ⟨.non, _, I.lset (its' := its ++ [u]) hH e (by simp) (r.append (.cons ru .nil)) ?_, rfl, q⟩
  rw [List.length_append, List.length_singleton]
  omega

def rExtend : V → List V → Hp → VK → Prop := fun x vs H Q => ∃ l b xs zs, x = .ref l ∧ vs = [.ref b] ∧ H l = some (.lst xs) ∧ H b = some (.lst zs) ∧ xs.length + zs.length ≤ sizeLine ∧ Q .non (upd H l (.lst (xs ++ zs)))
theorem mt_extend : MtM X "list.extend" rExtend := by
  intro pins s σ H x vs v us Q I rx rv h
  obtain ⟨l, b, xs, zs, rfl, rfl, hH, hB, hz, q⟩ := h
  cases rx
  obtain ⟨u, rfl, ru⟩ := rv.one
  cases ru
  obtain ⟨z, its, n, r, hl, e⟩ := I.lstM hH
  obtain ⟨z2, its2, n2, r2, hl2, e2⟩ := I.lstM hB
  have hsz : its.toArray.size + its2.toArray.size ≤ sizeLine := by rw [List.size_toArray, List.size_toArray]; omega
  have hlong : ¬ (!its.toArray.isEmpty && Builtin.List.listTooLong (its.toArray.size + its2.toArray.size)) = true := by
    rw [notLongL hsz, Bool.and_false]
    exact Bool.false_ne_true
  refine call_meets F.slot_list_extend ⟨_, e, rfl⟩ F.entry_list_extend (F.args_list_extend_2 _ _)
    (AutoSeq1.list_extend_list_list_0 l its.toArray n b its2.toArray n2 hlong (by rw [List.size_toArray]; omega) (by omega)) ⟨e, e2, ?_⟩
  refine ⟨.non, _, I.lset (its' := its ++ its2) hH e (by simp) (r.append r2) ?_, rfl, q⟩
  rw [List.length_append]
  omega





/-! ### list + list, list += list, list * int -/
def rCat : R2 := fun x y H Q => ∃ l b xs zs, x = .ref l ∧ y = .ref b ∧ H l = some (.lst xs) ∧ H b = some (.lst zs) ∧ xs.length + zs.length ≤ sizeLine ∧ ∀ p, H p = none → Q (.ref p) (upd H p (.lst (xs ++ zs)))
theorem op_cat : OpR X (binaryOp .Add) rCat := by
  intro pins s σ H x y v u Q I rx ry h
  obtain ⟨l, b, xs, zs, rfl, rfl, hH, hB, hz, q⟩ := h
  cases rx
  cases ry
  obtain ⟨z, its, n, r, hl, e⟩ := I.lstM hH
  obtain ⟨z2, its2, n2, r2, hl2, e2⟩ := I.lstM hB
  refine PySem.P.add_list e e2 ?_ (by rw [List.size_toArray, List.size_toArray]; omega)
  have ea : its.toArray ++ its2.toArray = (its ++ its2).toArray := by simp
  rw [ea]
  exact ⟨.ref _, _, I.lnew (t' := s.toks) (r.append r2) (by rw [List.length_append]; omega), rfl, q _ I.fresh⟩

/-! ### del xs[i] -/
end

/-! ### xs[a:b] = ys -/
section
variable {prog : Program} {w : World} {A : Around} {E : Value → Shared → Prop} {s : Shared}
set_option maxRecDepth 100000 in
end

section
variable {X : Cx}
end
end L2

namespace Att
open PySem PySem.W PySem.Calls PyProof.Rows

/-! ### the script -/
theorem ints_of_wellAll {P : Params} {h : Heap} : ∀ (ns : List Int) (vs : List Value), WellAll P h vs (ns.map WData.int) → IntsAre vs ns := by
  intro ns
  induction ns with
  | nil =>
    intro vs w
    rw [List.map_nil] at w
    cases w
    exact .nil
  | cons n ns ih =>
    intro vs w
    rw [List.map_cons] at w
    cases w with
    | cons a b =>
      cases a
      exact .cons _ _ (ih _ b)

theorem script_of {l : OpenLaw} {n : Nat} (hn : l.most = some n) {P : Params} {h : Heap} {args : List WData} {vals : List Value}
    (hpre : l.row.toRowW.claim.pre args = true) (hwl : WellAll P h vals args) :
    ∃ a vs ns, vals = [Value.ref a] ∧ args = [WData.list (ns.map WData.int)] ∧ h.get? a = some { cls := .type "list", data := .seq vs.toArray } ∧ IntsAre vs ns ∧ ns.length ≤ n := by
  have hsh : WShape.hasAll [] args [.list .int] = true := (pre_splitW hpre).1
  have hc : l.pre.holds [] { args := args } = true := (pre_splitW hpre).2
  obtain ⟨d, r, rfl, h1, h2⟩ := hasAllW_cons hsh
  obtain rfl := hasAllW_nil h2
  obtain ⟨xs, rfl, h3⟩ := hasW_list h1
  obtain ⟨ns, rfl⟩ := items_int h3
  have hlen : ns.length ≤ n := by
    unfold OpenLaw.pre at hc
    have h4 : (WTm.not (.lt (.lit (.int (n : Int))) (.len (.arg 0)))).holds [] { args := [.list (ns.map .int)] } = true := by
      have h4 := (holds_andW hc).1
      rw [hn] at h4
      exact h4
    have h5 := condW_of h4 (w_not (w_lt w_lit (w_len_list (w_arg rfl))))
    rw [List.length_map] at h5
    refine Nat.le_of_not_lt fun q => ?_
    have q' : (n : Int) < ((ns.length : Nat) : Int) := by omega
    first
      | (rw [decide_eq_true q'] at h5; exact absurd h5 (by decide))
      | (simp at h5; omega)
  cases hwl with
  | cons w1 w2 =>
    cases w2
    cases w1 with
    | list ho hall => exact ⟨_, _, ns, rfl, rfl, ho, ints_of_wellAll ns _ hall, hlen⟩

theorem post_true (l : OpenLaw) (args : List WData) : l.row.toRowW.claim.post args (.bool true) args = true :=
  postW_of (r := l.row.toRowW) (X := (true == true))
    (show WShape.has [] (.bool true) .bool = true by first | rfl | decide | simp [WShape.has, WShape.arms, WShape.armsAll])
    (show (WTm.eq .res (.lit (.bool true))).value [] { args := args, res := some (.bool true), after := args } = some (.bool (true == true)) from w_eq_bool (w_res rfl) w_lit) rfl

/-! ### the attachment: holds_open's last premise (the goal 'hc' behind k_head) from a wpAny of the law's body -/

/-- the same from a codeAny of the CALL (for a layer whose function contracts speak of calls) -/
theorem attach_call {l : OpenLaw} {n : Nat} {q : Program} {loose : List Str} {XP : (Str → Option Value) → Heap → Prop} {YP : World → Heap → Prop} {d : DefRec}
    (hn : l.most = some n) (hdf : d.params.defaults = [])
    (call : ∀ (w : World) (s₀ s₁ : Shared) (mg mb : Str → Option Value) (fa : Addr) (o : Obj) (pm cd doc : Value) (a : Addr) (vs : List Value) (ns : List Int),
      Ground q loose [] XP w s₀ mg mb s₁.heap → YP w s₁.heap →
      s₁.heap.get? fa = some o → o.data = .func (docDef d.name d.params d.body d.scope pm cd doc) → s₁.heap.CodeRec cd d.name → mg d.name = some (.ref fa) →
      s₁.heap.get? a = some { cls := .type "list", data := .seq vs.toArray } → IntsAre vs ns → ns.length ≤ n → s₁.gens = #[] →
      codeAny (model l.prog w) callerA (.call (.ref fa) ⟨[.ref a], []⟩) (fun r s' => r = .ok (.ret (.bool true)) ∧ OldK s₁.heap s'.heap ∧ s'.os = s₁.os ∧ AllBare s'.gens) s₁) :
    WalkO q loose XP YP l.row.toRowW d [] (fun f vs => PySem.call f vs) := by
  intro w s₀ s₁ mg mb G Y fa o pm cd doc dV kV ho hd hcd hD hmg hg args vals as hpre hlay hrd hwl hlo
  obtain rfl : dV = .none := Dflts.none hD hdf
  obtain rfl : kV = .none := Dflts.noKw hD
  obtain ⟨a, vs, ns, rfl, rfl, hobj, hints, hlen⟩ := script_of hn hpre hwl
  refine enter_call (codeAny_mono (call w s₀ s₁ mg mb fa o pm cd doc a vs ns G Y ho (fd_plain hd) hcd hmg hobj hints hlen hg) fun r s' hq => ?_)
  obtain ⟨rfl, h2, h3, h4⟩ := hq
  exact ⟨.inl ⟨.bool true, .bool true, [], rfl, fun _ => rfl, .bool true, post_true l _, fun _ => ⟨List.Pairwise.nil, fun _ hm => (nomatch hm)⟩⟩, h2, h3, h4⟩


/-! ### rules over ANY heap (no ledger) from facts about the written part K: the library's own take a ledger (News) for what they write -/
section
variable {prog : Program} {w : World} {A : Around} {E : Value → Shared → Prop} {s : Shared} {K : Frag}





/-! the whole heap as the ledger: makes every rule that writes through a ledger a rule over any heap -/

end
end Att

namespace L2
open PySem PySem.Spec PyProof.Rows

theorem vals_ints : ∀ {vs : List Value} {ns : List Int}, IntsAre vs ns → Vals (ns.map V.int) vs
  | _, _, .nil => .nil
  | _, _, .cons n t h => .cons ⟨t, rfl⟩ (vals_ints h)

/-- nothing is tracked but the script, known to the object (or it is an object of the module) -/
def Only (H : Hp) : Prop := ∀ b, H b = none ∨ ∃ o xs, H b = some (.frz o (.lst xs))

/-- THE HEAD: the law's promise, at the heap behind the top. F, the promise of the law's def, may use that base is part of the heap (so K.In base, base.Ns mainGlobals mg stand in Mod) -/
theorem law_call {P : Program} {w : World} {K : PySem.W.Frag} {mg mb : Str → Option Value} {CX : CXT} {k : Nat} {fa a : Addr} {fd : FuncData} {x : Str} {sp : Sp} {s₁ : Shared} {vs : List Value} {ns : List Int}
    (KX : K.In s₁.heap) (hns : s₁.heap.Ns mainGlobals mg) (hb : s₁.heap.Ns builtinsNs mb) (hbb : ∀ x : Str, x ≠ "__name__" → mb x = bootBuiltins x) (hlim : s₁.heap.NoLimit) (hg : s₁.gens = #[])
    (ha : s₁.heap.get? a = some { cls := .type "list", data := .seq vs.toArray }) (hi : IntsAre vs ns) (hl : ns.length ≤ sizeLine) (hr : Room k callerA)
    (F : ∀ base : Heap, K.In base → base.Ns mainGlobals mg → FnOk P w K mg base CX k fa fd [x] sp) (hbind : ∀ (s : Shared) (u : Value), BindsTo s fd ⟨[u], []⟩ [(x, u)])
    (hsp : ∀ H : Hp, Only H → SqL K H a (ns.map V.int) → sp [.ref a] H (fun v _ => v = .bl true) fun _ _ _ => False)
    (hCX : ∀ H e s', CX [] H s₁ (fun _ _ _ => False) e s' → False) :
    codeAny (model P w) callerA (.call (.ref fa) ⟨[.ref a], []⟩) (fun r s' => r = .ok (.ret (.bool true)) ∧ OldK s₁.heap s'.heap ∧ s'.os = s₁.os ∧ AllBare s'.gens) s₁ := by
  have rv := vals_ints hi
  have lenV := hi.length
  -- from an abstract heap in which nothing but the script may be tracked
  have core : ∀ H : Hp, Only H → SqL K H a (ns.map V.int) → HOk P w H s₁.heap → (∀ b, H b ≠ none → b = a) → (H a ≠ none → K.lookup a = none) →
      codeAny (model P w) callerA (.call (.ref fa) ⟨[.ref a], []⟩) (fun r s' => r = .ok (.ret (.bool true)) ∧ OldK s₁.heap s'.heap ∧ s'.os = s₁.os ∧ AllBare s'.gens) s₁ := by
    intro H hO hS hok hA hK
    have base_of : ∀ {b : Addr} {o : Obj}, s₁.heap.get? b = some o → H b = none → (hidT s₁.heap H).get? b = some o := fun e n => hidT_get e n
    have noA : ∀ {b : Addr} {o : Obj} {es : Array DictEntry} {ep : Nat}, s₁.heap.get? b = some o → o.data = .dict es ep → H b = none := fun {b o es ep} e d => by
      cases q : H b with
      | none => rfl
      | some u =>
        have e' : b = a := hA b (by rw [q]; simp)
        subst e'
        rw [ha] at e; cases e
        have d' : Data.seq vs.toArray _ = Data.dict es ep := d
        cases d'
    have nsK : ∀ {b : Addr} {m : Str → Option Value}, s₁.heap.Ns b m → (hidT s₁.heap H).Ns b m := fun {b m} ⟨o, es, ep, e, d, r⟩ => ⟨o, es, ep, base_of e (noA e d), d, r⟩
    have hKb : K.In (hidT s₁.heap H) := fun b o e => base_of (KX b o e) (by
      cases q : H b with
      | none => rfl
      | some u =>
        have e' : b = a := hA b (by rw [q]; simp)
        subst e'
        rw [hK (by rw [q]; simp)] at e; cases e)
    have hM : Mod K mg (hidT s₁.heap H) := ⟨hKb, nsK hns, ⟨mb, nsK hb, hbb⟩, let ⟨mc, h1, h2⟩ := hlim; ⟨mc, nsK h1, h2⟩⟩
    have e0 : Env0 P w K mg (hidT s₁.heap H) callerA [] s₁ H := ⟨rfl, hM, fun b o e => of_hidT e, Nat.le_of_eq (hidT_size _ _), trivial, fun b hb => absurd (show b ∈ ([] : List Addr) from hb) (by simp), hok, .of_eq hg⟩
    refine codeAny_mono ((F _ hKb (nsK hns)).run callerA [] s₁ H ⟨[.ref a], []⟩ [.ref a] [.ref a] _ _ hr e0 (hbind s₁ (.ref a)) (.cons rfl .nil) (hsp H hO hS)) fun r s' h => ?_
    cases r with
    | error e => exact (hCX H e s' h).elim
    | ok fl =>
      cases fl with
      | next => exact False.elim h
      | brk => exact False.elim h
      | cont => exact False.elim h
      | ret u =>
        obtain ⟨v, H', os, bare, un, hok', r', q⟩ := h
        have q' : v = .bl true := q
        subst q'
        obtain rfl : u = Value.bool true := r'
        refine ⟨rfl, OldK.of_keep fun b o e => ?_, os, bare⟩
        cases q : H b with
        | none => exact un.keep b o e q (by intro z; exact absurd (show b ∈ ([] : List Addr) from z) (by simp)) (by simp)
        | some u =>
          rcases hO b with z | ⟨ob, xs, z⟩
          · rw [q] at z; cases z
          · have z2 := un.frzs b ob _ z
            obtain ⟨e1, _⟩ := hok b _ z
            obtain ⟨e2, _⟩ := hok' b _ z2
            rw [e] at e1; cases e1
            exact e2
  cases hk : K.lookup a with
  | some o =>
    -- the script is one of the module's own objects
    have e := KX a o hk
    rw [ha] at e
    cases e
    refine core (fun _ => none) (fun _ => .inl rfl) (.inr ⟨_, vs.toArray, _, hk, rfl, rfl, rfl, by rw [List.size_toArray, lenV]; exact hl, by simpa using rv⟩) (fun b u z => by have z' : (none : Option HO) = some u := z; cases z') (fun b z => absurd rfl z) fun z => absurd rfl z
  | none =>
    refine core (fun b => if b = a then some (.frz { cls := .type "list", data := .seq vs.toArray } (.lst (ns.map V.int))) else none) (fun b => ?_) (.inl (.inr ⟨{ cls := .type "list", data := .seq vs.toArray }, if_pos rfl⟩)) (fun b u z => ?_) (fun b z => ?_) fun _ => hk
    · by_cases hb : b = a
      · exact .inr ⟨_, _, if_pos hb⟩
      · exact .inl (if_neg hb)
    · by_cases hb : b = a
      · have z' := (if_pos hb).symm.trans z
        cases z'
        subst hb
        exact ⟨ha, by rw [List.length_map]; exact hl, vs, _, rv, ha⟩
      · have z' := (if_neg hb).symm.trans z
        cases z'
    · by_cases hb : b = a
      · exact hb
      · exact absurd (if_neg hb) z
end L2

namespace L2
open PySem PySem.Spec PyProof.Rows


/-- the goal that k_head leaves (case hc), from the law's promise. F gives the function object fd (K's own) once, then the promise over every base -/
theorem walk_of {l : PySem.W.OpenLaw} {n k : Nat} {q : Program} {loose : List Str} {XP : (Str → Option Value) → Heap → Prop} {YP : World → Heap → Prop} {d : DefRec} {K : Params → PySem.W.Frag} {CX : World → CXT} {sp : World → Sp} {x : Str}
    (hn : l.most = some n) (hn2 : n ≤ sizeLine) (hdf : d.params.defaults = []) (hr : Room k callerA)
    (hY : ∀ (w : World) (h : Heap), YP w h → (K w.params).In h)
    (F : ∀ (w : World) (mg : Str → Option Value) (fa : Addr) (h : Heap), (K w.params).In h → h.Ns mainGlobals mg → mg d.name = some (.ref fa) →
      ∃ fd : FuncData, (∀ (s : Shared) (u : Value), BindsTo s fd ⟨[u], []⟩ [(x, u)]) ∧
        ∀ base : Heap, (K w.params).In base → base.Ns mainGlobals mg → FnOk l.prog w (K w.params) mg base (CX w) k fa fd [x] (sp w))
    (hsp : ∀ (w : World) (H : Hp) (a : Addr) (ns : List Int), ns.length ≤ n → Only H → SqL (K w.params) H a (ns.map V.int) → sp w [.ref a] H (fun v _ => v = .bl true) fun _ _ _ => False)
    (hCX : ∀ (w : World) (H : Hp) (s : Shared) (e : Value) (s' : Shared), CX w [] H s (fun _ _ _ => False) e s' → False) :
    PySem.W.WalkO q loose XP YP l.row.toRowW d [] (fun f vs => PySem.call f vs) := by
  refine Att.attach_call hn hdf fun w s₀ s₁ mg mb fa o pm cd doc a vs ns G Y ho hd hcd hmg hobj hints hlen hg => ?_
  have KX := hY w _ Y
  obtain ⟨fd, hb, hF⟩ := F w mg fa _ KX G.T.g hmg
  exact law_call KX G.T.g G.T.b G.T.builtins G.T.nolimit hg hobj hints (Nat.le_trans hlen hn2) hr hF hb (fun H hO hS => hsp w H a ns hlen hO hS) fun H e s' => hCX w H s₁ e s'
end L2

/- THE LAST THEOREM (shape; LID, My.* are yours):
   My.Adr: a structure of the addresses that your layer names (classes, functions); My.Txt K t: a structure (Prop) of the equations over K;
   My.txt_mk : {K} {implicit addresses ..} (e1 : nsIn K mainGlobals "law" = some (some (.ref f))) (e2 : K.lookup f = some ⟨oc, od, .func (fnOf "law" "law" params body scope dV kV doc pm an cdv ct), sl⟩) (e3 : codeIn K cdv "law" = true) .. : ∃ t, My.Txt K t

set_option maxRecDepth 100000 in
set_option maxHeartbeats 0 in
theorem PySem.Challenge.cw_LID_holds : PySem.Challenge.rw_LID.Holds := by
  w_on; o_law; k_head; (case hw => w_witness2)
  k_fill
  refine L2.walk_of (l := PySem.Challenge.rw_LID) (n := 63) (k := 40) (x := "script") (CX := fun w => ..) (sp := fun _ => My.sp_law) rfl (by decide) rfl ⟨rfl, by decide, by decide⟩ (fun w h Y => PySem.W.kIn_of Y) ?F ?S ?C
  case F =>
    intro w mg fa h KX G hmg
    have T : ∃ t, My.Txt (L2.KOf KX) t := by
      dsimp only [L2.KOf]                          -- K must stand as «<heap const> w.params» for k_is
      refine' My.txt_mk ?e1 ?e2 ?e3 ..
      (case e1 => PySem.W.k_is)                    -- in the order: a name -> its address -> its object -> its parts
      (case e2 => PySem.W.k_is)
      ..
    obtain ⟨t, T⟩ := T
    have e0 := hmg.symm.trans (PySem.W.mg_of KX G T.law)
    cases e0                                       -- fa is the law's own address
    exact ⟨_, fun s u => .of_eq rfl, fun base kb nb => My.law_fn T kb nb⟩     -- if «.of_eq rfl» comes too early: refine' ⟨_, ?b, fun base kb nb => My.law_fn T kb nb⟩; exact fun s u => .of_eq rfl
  case S => exact fun w H a ns hl hO hS => ..
  case C => exact ..
(the tactic k_is has no namespace: write k_is) -/

/-! SHORT WORDS over the layer: a def of the text, its body, what a loop and a test want. -/
namespace L2
open PySem PySem.Spec PyProof.Rows

/-! ### the text by places -/
def defArgs (s : Stmt) : Arguments := match s with
  | .FunctionDef _ a _ _ _ _ _ _ _ _ => a
  | _ => { posonlyargs := [], args := [], vararg := none, kwonlyargs := [], kw_defaults := [], kwarg := none, defaults := [] }
def defBody (s : Stmt) : List Stmt := match s with
  | .FunctionDef _ _ b _ _ _ _ _ _ _ => b
  | _ => []
def defScope (s : Stmt) : Scope := match s with
  | .FunctionDef _ _ _ _ _ _ sc _ _ _ => sc
  | _ => { kind := .function, names := [], isGenerator := false, isCoroutine := false }

/-! ### no exception leaves a def -/
abbrev CX0 : CXT := fun _ _ _ _ _ _ => False
abbrev E0 : XK := fun _ _ _ => False
theorem pass0 {X : Cx} : Passes CX0 X E0 := fun _ _ _ _ _ _ _ h => h.elim

/-! ### a def (or method) of the text as it stands behind the top -/
structure Fun (K : PySem.W.Frag) (x qual : Str) (st : Stmt) (f : Addr) (fd : FuncData) : Prop where
  ex : ∃ (oc : Value) (od : Option Addr) (kV doc pm : Value) (an : Option Addr) (cdv ct : Value) (osl : Array (Option Value)),
    fd = PySem.W.fnOf x qual (defArgs st) (defBody st) (defScope st) .none kV doc pm an cdv ct ∧ K.lookup f = some ⟨oc, od, .func fd, osl⟩ ∧ PySem.W.codeIn K cdv qual = true
  kp : PySem.W.keepIn K (.ref f) = true
section
variable {P : Program} {w : World} {K : PySem.W.Frag} {mg : Str → Option Value} {base : Heap}
/-- THE RULE for a def: its body as a term of rules, and the reading of that term -/
theorem Fun.ok {x qual : Str} {st : Stmt} {f : Addr} {fd : FuncData} {N ps : List Str} {k : Nat} {sp : Sp} (F : Fun K x qual st f fd) (S : FnScope N ps (defScope st)) (len : ∀ vs H Q E, sp vs H Q E → vs.length = ps.length)
    (hbody : ∀ (cdv : Value) (A : Around) (outer : List Env) (s : Shared) (H : Hp) (vs : List V) (Q : VK) (E : XK), Room k (A.deeper (envOfC qual (defScope st) s.heap.objs.size f cdv)) → sp vs H Q E →
      ∃ t, PSs (cxOf CX0 P w K mg base N qual (defScope st) f cdv A outer s H E).nox (defBody st) t ∧ t { nx := fun _ H' => Q .non H', rt := Q } (start N vs) H) : FnOk P w K mg base CX0 (k + 1) f fd ps sp := by
  obtain ⟨oc, od, kV, doc, pm, an, cdv, ct, osl, rfl, lk, hcd⟩ := F.ex
  refine fn_of lk hcd S len fun A outer s H vs Q E hr hsp => ?_
  obtain ⟨t, h, q⟩ := hbody cdv A outer s H vs Q E hr hsp
  exact ⟨t, h.nox, q⟩
/-- how its arguments bind (no defaults): h is «fun _ _ _ _ _ _ us hl => match us, hl with | [_, _], _ => rfl», one _ a parameter -/
theorem Fun.binds {x qual : Str} {st : Stmt} {f : Addr} {fd : FuncData} {ps : List Str} (F : Fun K x qual st f fd)
    (h : ∀ (kV doc pm : Value) (an : Option Addr) (cdv ct : Value) (us : List Value), us.length = ps.length → bindArgs (PySem.W.fnOf x qual (defArgs st) (defBody st) (defScope st) .none kV doc pm an cdv ct) ⟨us, []⟩ = pure (ps.zip us)) : Binds K fd ps [] := by
  obtain ⟨oc, od, kV, doc, pm, an, cdv, ct, osl, rfl, lk, hcd⟩ := F.ex
  exact .all (h kV doc pm an cdv ct)
theorem fun_mk {x qual : Str} {st : Stmt} {f : Addr} {oc : Value} {od an : Option Addr} {osl : Array (Option Value)} {kV doc pm cdv ct : Value} (l : K.lookup f = some ⟨oc, od, .func (PySem.W.fnOf x qual (defArgs st) (defBody st) (defScope st) .none kV doc pm an cdv ct), osl⟩)
    (c : PySem.W.codeIn K cdv qual = true) (k : PySem.W.keepIn K (.ref f) = true) : Fun K x qual st f (PySem.W.fnOf x qual (defArgs st) (defBody st) (defScope st) .none kV doc pm an cdv ct) := ⟨⟨oc, od, kV, doc, pm, an, cdv, ct, osl, rfl, l, c⟩, k⟩
end
theorem hu_of {A : Around} {k : Nat} (hr : Room k A) : A.units + 1 < cLine := Nat.lt_of_le_of_lt (Nat.add_le_add_left (by decide : 1 ≤ 64) _) hr.units

/-! ### expressions in short: the name that stands in the i-th slot -/
section
variable {X : Cx}
theorem pv (i : Nat) {x : Str} {pos : Pos} (hN : X.N[i]? = some x := by rfl) (hv : Vis X.env.scope x := by first | exact Or.inl rfl | exact Or.inr (Or.inl rfl) | exact Or.inr (Or.inr rfl)) (hd : (x == ("__debug__" : Str)) = false := by decide)
    (hcd : (x == ("__classdict__" : Str)) = false := by decide) : PE X (.Name x pos) (tVar i) := pe_var hN hv hd hcd
end

/-! ### tests -/
theorem iteF {A B : Prop} (h : B) : if false = true then A else B := by
  rw [if_neg Bool.false_ne_true]
  exact h
theorem iteT {A B : Prop} (h : A) : if true = true then A else B := by
  rw [if_pos rfl]
  exact h
theorem ite2 {c A B : Prop} [Decidable c] (h1 : c → A) (h2 : ¬ c → B) : if c then A else B := by
  by_cases h : c
  · rw [if_pos h]
    exact h1 h
  · rw [if_neg h]
    exact h2 h
theorem iteNS {c A B : Prop} [Decidable c] (hc : c) (h : B) : if (!decide c) = true then A else B := by
  rw [decide_eq_true hc]
  exact iteF h

/-! ### heaps -/
/-- all that was tracked is as it was -/
def Same (H H' : Hp) : Prop := ∀ b o, H b = some o → H' b = some o
theorem Same.refl (H : Hp) : Same H H := fun _ _ h => h
theorem Same.trans {H H1 H2 : Hp} (a : Same H H1) (b : Same H1 H2) : Same H H2 := fun c o h => b c o (a c o h)
theorem Same.free {H H' : Hp} (e : Same H H') {l : Addr} (h : H' l = Option.none) : H l = Option.none := by
  cases q : H l with
  | none => rfl
  | some o =>
    rw [e l o q] at h
    cases h
theorem Same.seq {K : PySem.W.Frag} {H H' : Hp} {a : Addr} {xs : List V} (e : Same H H') (h : SqL K H a xs) : SqL K H' a xs := by
  rcases h with (h | ⟨o, h⟩) | h
  · exact .inl (.inl (e _ _ h))
  · exact .inl (.inr ⟨o, e _ _ h⟩)
  · exact .inr h

end L2

set_option maxHeartbeats 4000000
namespace L2
open PySem PySem.Spec PyProof.Rows

/-! ### an exception in flight -/


section
variable {P : Program} {w : World} {outer : List Env} {H H' : Hp} {h h' h2 B : Heap} {ea : Addr} {cls a0 : Value}
end


/-! ### an exception is made and leaves its def -/


section
variable {P : Program} {w : World} {K : PySem.W.Frag} {mg : Str → Option Value} {base : Heap} {N : List Str} {qual : Str} {scope : Scope} {f : Addr} {cd : Value} {A : Around} {outer : List Env} {s₀ : Shared} {H₀ : Hp} {E : XK}


end
end L2

set_option maxHeartbeats 4000000
namespace L2
open PySem PySem.Spec PyProof.Rows

/-! ### raise C(e): an own class under ValueError -/
abbrev veTail : List Value := [.type "ValueError", .type "Exception", .type "BaseException", .type "object"]
def ExcIs (K : PySem.W.Frag) (C : Addr) : Prop := PySem.W.excIn K C veTail "ValueError.__new__" = true


section
variable {X : Cx} {x : Str} {C : Addr} {R : Hp → Prop} {e₀ : Expr} {ta : TA} {np cpos pos : Pos}
end
end L2

set_option maxHeartbeats 4000000
namespace L2
open PySem PySem.Spec PyProof.Rows PySem.W PySem.Calls Builtin Builtin.ObjectAttr Builtin.Getset_descriptor

/-! ### isinstance(e, c), e a caught exception of an own class -/
structure ExcK (K : Frag) (C : Addr) : Prop where
  exc : ExcIs K C
  cl : (clsIn K C).isSome = true
  ga : findIn K (.ref C) "__getattribute__" = some (some (.builtin "BaseException.__getattribute__"))
  gh : findIn K (.ref C) "__getattr__" = some none
  ca : findIn K (.ref C) "__class__" = some (some (.builtin "object.__class__"))
  cg : specialIn K (.builtin "object.__class__") "__get__" = some (some (.builtin "getset_descriptor.__get__"))
  ct : takesIn K (.builtin "object.__class__") = some true
  mo : mroIn K C (.type "object") = some true
  mb : mroIn K C (.type "BaseException") = some true

def ExcAt (e C : Addr) (h : Heap) : Prop := ∃ o, h.get? e = some o ∧ o.cls = .ref C

section
variable {K : Frag} {e C : Addr}
theorem ExcAt.ty {M : Model} {h : Heap} (p : ExcAt e C h) : Looks M h (typeOf (.ref e)) (.ref C) := by
  obtain ⟨o, h1, h2⟩ := p
  exact h2 ▸ (Looks.ld h1).andThen .now

theorem exc_found {M : Model} {h : Heap} (X : K.In h) (T : ExcK K C) : Looks M h (find (.ref e) (.ref C) "__class__") (.bind (.builtin "getset_descriptor.__get__") (.builtin "object.__class__")) := by
  have L1 := looks_findIn (M := M) X T.ca
  have L2 := looks_specialIn (M := M) X T.cg
  have L3 := looks_takesIn (M := M) X T.ct
  refine L1.andThen (L2.andThen ?_)
  exact (show Looks M h (dataDescriptor? (some _) (some _)) (some (_, _)) from L3.andThen .now).andThen (Looks.tag .now)

variable {prog : Program} {w : World} {A : Around} {E : Value → Shared → Prop} {s : Shared} {R : Result → Shared → Prop}
theorem exc_class_get {tp : Value} (X : K.In s.heap) (T : ExcK K C) (p : ExcAt e C s.heap) (h : R (.ok (.ret (.ref C))) s) :
    codeAny (model prog w) A (.call (.builtin "getset_descriptor.__get__") ⟨[.builtin "object.__class__", .ref e, tp], []⟩) R s := by
  obtain ⟨hh, g, dr, t, os⟩ := s
  have La := p.ty (M := model prog w)
  have Lb := looks_mroIn (M := model prog w) X T.mo
  refine codeAny_call_builtin KF.slot_gs.plain KF.entry_gs (KF.slot_gs.check _ _ _ _ _ _ _ _ KF.type_class (KF.args_gs _ _ _) ?_)
  unfold Builtin.«getset_descriptor.__get__» descrGet
  rw [dga_obj]
  refine wpAny_bind (wpAny_pure ?_)
  unfold descrGetter descrCheckInstance descrNameAndClass isInstance
  simp only [KF.owner_class]
  repeat lk
  refine ⟨Code.quiet_builtin _ (by decide +kernel), codeAny_builtin KF.entry_class ?_⟩
  unfold Builtin.«object.__class__» shownTypeOf
  repeat lk
  exact h
end
end L2

set_option maxHeartbeats 4000000
namespace L2
open PySem PySem.Spec PyProof.Rows PySem.W PySem.Calls Builtin Builtin.ObjectAttr Builtin.Getset_descriptor
section
variable {K : Frag} {e C : Addr} {prog : Program} {w : World} {A : Around} {E : Value → Shared → Prop} {s : Shared} {R : Result → Shared → Prop}

theorem exc_ga_check {M : Model} {nameV : Value} {Q : Unit → Shared → Prop} (X : K.In s.heap) (T : ExcK K C) (p : ExcAt e C s.heap) (hq : Q () s) :
    wpAny M A (checkBuiltinCall "BaseException.__getattribute__" ⟨[.ref e, nameV], []⟩) Q E s := by
  have hk : builtinKind "BaseException.__getattribute__" = some .slot := by decide +kernel
  have hsp : splitId "BaseException.__getattribute__" = some ("BaseException", "__getattribute__") := by decide +kernel
  have ha := F.args_bexc_ga (.ref e) nameV
  have Li : Looks M s.heap (isInstance (.ref e) (.type "BaseException")) true := p.ty.andThen (looks_mroIn X T.mb)
  obtain ⟨hh, g, dr, t, os⟩ := s
  simp only [checkBuiltinCall, hk, hsp]
  refine wpAny_bind (Li.at ?_)
  repeat (first | wp_step)
  exact hq

theorem exc_ga_body {tk : Tok} {Q : Fin → Shared → Prop} (X : K.In s.heap) (T : ExcK K C) (p : ExcAt e C s.heap) (hq : Q (.done (.ret (.ref C))) s) :
    wpAny (model prog w) A (Builtin.«object.__getattribute__» ⟨[.ref e, .str "__class__" tk], []⟩) Q E s := by
  have La := p.ty (M := model prog w)
  have Lf := exc_found (M := model prog w) (e := e) X T
  obtain ⟨hh, g, dr, t, os⟩ := s
  unfold Builtin.«object.__getattribute__»
  repeat (first | with_reducible refine La.at ?_ | with_reducible refine Lf.at ?_ | wp_step)
  refine exc_class_get X T p ?_
  exact wpAny_pure hq

theorem exc_getclass {Q : Option Value → Shared → Prop} (X : K.In s.heap) (T : ExcK K C) (p : ExcAt e C s.heap) (h : Q (some (.ref C)) { s with toks := s.toks + 1 }) :
    wpAny (model prog w) A (getAttr? (.ref e) "__class__") Q E s := by
  have La := p.ty (M := model prog w)
  have Lga := looks_findIn (M := model prog w) X T.ga
  have Lgh := looks_findIn (M := model prog w) X T.gh
  have f3 := F.attr_ValueError.ga.bind (.ref e)
  have hx2 : (Value.builtin "BaseException.__getattribute__" == Value.builtin "object.__getattribute__") = false := by decide +kernel
  obtain ⟨hh, g, dr, t, os⟩ := s
  unfold getAttr? getAttrBy? getAttrBy
  refine wpAny_bind (wpAny_mkText (wpAny_bind (wpAny_attempt (wpAny_holding (wpAny_bind (La.at (wpAny_bind (Lga.at ?_))))))))
  dsimp only
  rw [if_neg (by rw [hx2]; simp)]
  unfold getAttrByItsOwn hookBefore
  refine wpAny_bind (Lgh.at ?_)
  refine wpAny_bind (wpAny_attempt (wpAny_holding ?_))
  unfold callGetattribute boundAndCalled
  rw [if_neg (by simp)]
  rw [f3]
  refine wpAny_bind (wpAny_pure ?_)
  refine wpAny_call (codeAny_call_builtin F.attr_ValueError.ga.plain F.entry_bexc_ga (exc_ga_check X T p (exc_ga_body X T p ?_)))
  refine wpAny_pure (wpAny_pure ?_)
  exact h

theorem kitx_exc (T : ExcK K C) : KitX K (.ref e) (.ref C) (ExcAt e C) where
  ty := fun _ _ _ p => p.ty
  it := fun _ _ X _ => by
    have z0 := T.cl
    unfold clsIn at z0
    split at z0
    · next c' d' cd' sl' ho =>
      intro A' Q' E' s' k q
      unfold isType loadHead
      exact wpAny_bind (wpAny_loadPart (k _ _ (X _ _ ho)) (wpAny_pure q))
    · cases z0
  ne := fun h tp dd its n sl X htp => by
    have z0 := T.cl
    refine Bool.eq_false_iff.mpr fun q => ?_
    have eq : C = tp := Value.ref.inj (beq_iff_eq.mp q)
    subst eq
    unfold clsIn at z0
    split at z0
    · next c' d' cd' sl' ho =>
      have z := (X _ _ ho).symm.trans htp
      cases z
    · cases z0
  ca := fun X p k => exc_getclass X T p k
end

/-! a caught exception in the abstract heap -/
def excO (e C : Addr) : HO := .ext (ExcAt e C)

section
variable {X : Cx}
/-- isinstance(x, c): a value of a kind that TyOf knows, or a caught exception -/
inductive IsC : V → Value → Prop where
  | ty (n : String) : IsC (.ty n) (.type n)
  | ref (a : Addr) : IsC (.ref a) (.ref a)
def rIsi (K : PySem.W.Frag) : List V → Hp → VK → Prop := fun xs H Q => ∃ x y c b, xs = [x, y] ∧ IsC y c ∧ ((∃ t, TyOf K H x t ∧ PySem.W.kitOne K t c = some b) ∨ ∃ e C, x = .ref e ∧ H e = some (excO e C) ∧ ExcK K C ∧ PySem.W.kitOne K (.ref C) c = some b) ∧ Q (.bl b) H
theorem call_isinst : CallR X (.builtin "isinstance") (rIsi X.K) := by
  intro pins s σ H xs us Q I r h
  obtain ⟨x, y, c, b, rfl, ry, hh, q⟩ := h
  obtain ⟨u, v, rfl, rx, rv⟩ := vals2 r
  have ec : v = c := by
    cases ry with
    | ty n => exact rv
    | ref a => exact rv
  subst ec
  rcases hh with ⟨t, ty, e⟩ | ⟨ea, C, rfl, he, T, e⟩
  · exact isinst_ok I rx ty e fun tk => ⟨.bl b, H, I.tok tk, rfl, q⟩
  · cases (show u = Value.ref ea from rx)
    obtain ⟨p, _⟩ := (show ObjOk X.prog X.w H s.heap ea (excO ea C) from I.hok ea _ he)
    exact kia_one (kitx_exc T) I.kIn p e (fun z => nomatch z) fun tk => ⟨.bl b, H, I.tok tk, rfl, q⟩
end
end L2

set_option maxHeartbeats 4000000
namespace L2
open PySem PySem.Spec PyProof.Rows

/-! ### try: .. except C as n: .. -/




section
variable {X : Cx}

end
end L2

set_option maxHeartbeats 4000000
namespace L2
open PySem PySem.Spec PyProof.Rows

/-! ### [e for t in it if c]: the block's context -/
abbrev Cx.blk (X : Cx) (NB : List Str) (scope : Scope) (C : Addr) (s : Shared) (H : Hp) (fp : List Addr) (pn : List (Addr × Obj)) : Cx :=
  { X with N := NB, s₀ := s, H₀ := H, env := compEnv scope C X.env, outer := X.stack, ex := fp, fn := fun _ => false, pn := pn, xe := fun _ _ => False }

/-- the tests of a comprehension -/
def PTs (Y : Cx) (ifs : List Expr) (t : TT) : Prop :=
  ∀ (pins : List (Addr × Obj)) (s : Shared) (σ : St) (H : Hp) (Q : Bool → Hp → Prop), Inv Y pins σ H s → t σ H Q →
    wpAny (model Y.prog Y.w) Y.A (forIn ifs true fun c r => if r = true then do let ok ← isTrue c Y.env (eval c Y.env); pure (ForInStep.yield ok) else pure (ForInStep.yield r)) (TP Y pins σ Q) Y.xe s
def tYes : TT := fun _ H Q => Q true H
theorem pts_nil {Y : Cx} : PTs Y [] tYes := fun _ _ _ H _ I h => wpAny_tests_nil ⟨H, I, h⟩
theorem pts_one {Y : Cx} {c : Expr} {t : TT} (h : PT Y c t) : PTs Y [c] t := fun pins s σ H Q I hq => wpAny_tests_one (h pins s σ H Q I hq)

def tComp (nB : Nat) (wi : TI) (g : TG) (tc : TT) (te : TE) : TE := fun σ H Q => wi σ H fun J H1 => ∀ acc, H1 acc = none →
  ∃ W : Nat → Nat → List V → Hp → Prop, (∃ m, W 0 m [] (upd H1 acc (.lst []))) ∧ ∀ i m ys H, W i m ys H → H acc = some (.lst ys) ∧
    ((J.stop i H ∧ Q (.ref acc) H) ∨ (J.go i H ∧ ∀ x H', J.yld i H x H' → g x (List.replicate nB none) H' fun σ2 H2 => tc σ2 H2 fun b H3 =>
      if b = true then te σ2 H3 fun y H4 => H4 acc = some (.lst ys) ∧ ys.length < sizeLine ∧ ∃ m', m' < m ∧ W (i + 1) m' (ys ++ [y]) (upd H4 acc (.lst (ys ++ [y])))
      else ∃ m', m' < m ∧ W (i + 1) m' ys H3))

section
variable {X : Cx} {NB : List Str} {scope : Scope}
theorem blk_inv {pins : List (Addr × Obj)} {σ : St} {H : Hp} {s : Shared} {h4 : Heap} {tk : Nat} {fp : List Addr} (I : Inv X pins σ H s) (hk : scope.kind = .function) (hfree : ∀ x ∈ scope.names, x.2 ≠ .free) (hcell : ∀ x ∈ scope.names, x.2 ≠ .cell)
    (hf : ∀ b ∈ fp, FpOk X pins H b) (ho : ∀ b ∈ fp, b < s.heap.objs.size) {m : Str → Option Value} (hn : h4.Ns s.heap.objs.size m) (keep : ∀ b o, s.heap.get? b = some o → h4.get? b = some o) :
    Inv (X.blk NB scope s.heap.objs.size s H fp (X.pn ++ pins)) [] (List.replicate NB.length none) H { s with heap := h4, toks := tk } := by
  have stk : ∀ b, b ≠ X.env.locals → b ∉ X.fs → b ∉ frs X.stack := fun b h1 h2 z => (List.mem_cons.mp (I.stkSub b z)).elim h1 h2
  have nok : ∀ x k, scope.names.lookup x = some k → k ≠ .cell ∧ k ≠ .free := fun x k q => ⟨hcell (x, k) (PySem.mem_of_lookup q), hfree (x, k) (PySem.mem_of_lookup q)⟩
  refine ⟨⟨I.ok.mod, hk, I.ok.glob, I.ok.blt, Nat.le_refl _, fun x y c q => (nomatch q), fun x q => ?_, fun x c q => (nomatch q), I.ok.hd, I.ok.frames, .inl rfl, fun b hb => ⟨Nat.ne_of_lt (ho b hb), fun x c q => (nomatch q)⟩, I.bs, Nat.le_trans I.ok.bsz I.sz,
    fun b o q hb => ?_, fun b hb => stk b (hf b hb).2.1 (hf b hb).2.2.1, I.stack, I.stkFree⟩, rfl, I.bare, Un.kept keep, ⟨m, hn, fun i x v q1 q2 => ?_⟩, fun x c q => (nomatch q), I.hok.fresh (Nat.le_refl _), fun x c q => (nomatch q), fun p hp => ?_, I.hok.kept keep, ?_⟩
  · rcases q with q | q
    · exact absurd rfl (nok x _ q).1
    · exact absurd rfl (nok x _ q).2
  · rcases (hf b hb).2.2.2.1 with z | z
    · exact I.ok.noex b o q z
    · exact absurd (Nat.lt_of_lt_of_le (Heap.lt_size q) (Nat.le_trans I.ok.bsz z)) (Nat.lt_irrefl _)
  · rw [List.getElem?_replicate] at q2
    split at q2 <;> cases q2
  · have hp' : p ∈ X.pn ++ pins := by simpa using hp
    obtain ⟨q, n, ne, nf, d⟩ := I.pin p hp'
    exact ⟨keep _ _ q, n, Nat.ne_of_lt (Heap.lt_size q), stk _ ne nf, d⟩
  · rw [List.length_replicate]

theorem blk_back {pins : List (Addr × Obj)} {σ σ' : St} {H H' : Hp} {s s' : Shared} {h2 : Heap} {fp : List Addr} {pl : List (Addr × Obj)} (I : Inv X pins σ H s) (hf : ∀ b ∈ fp, FpOk X pins H b) (ho : ∀ b ∈ fp, b < s.heap.objs.size)
    (J : Inv (X.blk NB scope s.heap.objs.size s H fp (X.pn ++ pins)) pl σ' H' s') (hs : Heap.SameBut s.heap.objs.size s'.heap h2) : Inv X pins σ H' { s' with heap := h2 } := by
  have u := J.base
  have low : ∀ b o, s.heap.get? b = some o → b ≠ s.heap.objs.size := fun b o q => Nat.ne_of_lt (Heap.lt_size q)
  refine I.call' (s' := { s' with heap := h2 }) (ch := fp) J.os ⟨fun b o q n hb he => (hs.2 b (low b o q)).trans (u.keep b o q n hb he), fun b o q n hb he => ?_, u.free, fun b o q he => ?_, u.tups, u.frzs, u.tbls⟩ (fun b o q => ?_) J.bare fun b hb => ?_
  · obtain ⟨sl, z⟩ := u.slot b o q n hb he
    exact ⟨sl, (hs.2 b (low b o q)).trans z⟩
  · obtain ⟨o', z⟩ := u.there b o q he
    exact ⟨o', (hs.2 b (low b o q)).trans z⟩
  · refine (J.hok b o q).stay (fun c w' hc r => (hs.2 c ?_).trans r) (fun _ r => r) fun _ _ r => r
    have fr : H' s.heap.objs.size = none := J.free
    rintro rfl
    rcases hc with rfl | hc
    · rw [fr] at q; cases q
    · rw [fr] at hc; cases hc
  · obtain ⟨f0, f1, f2, f3, f4, f5⟩ := hf b hb
    exact ⟨f3, f1, f4, f5⟩

theorem pe_comp {elt tg iter : Expr} {ifs : List Expr} {pos : Pos} {wi : TI} {g : TG} {tc : TT} {te : TE} (hk : scope.kind = .function) (hfree : ∀ x ∈ scope.names, x.2 ≠ .free) (hcell : ∀ x ∈ scope.names, x.2 ≠ .cell)
    (hnames : ∀ x ∈ scope.names, x.2 = .local → scope.names.lookup x.1 = some .local) (hc : X.calm = true) (hi : PI X tg iter wi)
    (hg : ∀ C s H fp pn, PG (X.blk NB scope C s H fp pn) tg g) (ht : ∀ C s H fp pn, PTs (X.blk NB scope C s H fp pn) ifs tc) (he : ∀ C s H fp pn, PE (X.blk NB scope C s H fp pn) elt te)
    (hs : ∀ x, foldedSetIterable iter X.env x = pure x := by intro _; rfl) : PE X (.ListComp elt [⟨tg, iter, ifs, 0⟩] scope pos) (tComp NB.length wi g tc te) := by
  intro pins s σ H Q I h
  refine wpAny_ListComp hfree hk hnames (thn (hi pins s σ H _ I h) fun v s1 h1 => thn h1 fun itv s2 h2 => ?_) hs
  obtain ⟨it, fp, tn, J, H2, rfl, I2, T, st2, f2, h2⟩ := h2
  have lt2 : ∀ b ∈ fp, b < s2.heap.objs.size := fun b hb => by
    obtain ⟨o, q, _⟩ := T.obj 0 _ st2 b hb
    exact Heap.lt_size q
  refine wpAny_newObj_type ?_
  have hz : H2 s2.heap.objs.size = none := I2.hok.fresh (Nat.le_refl _)
  obtain ⟨W, ⟨m0, w0⟩, turn⟩ := h2 s2.heap.objs.size hz
  have I3 : Inv X pins σ (upd H2 s2.heap.objs.size (.lst [])) { s2 with heap := s2.heap.push { cls := .type "list", dict := none, data := .seq ([] : List Value).toArray } } :=
    I2.laid (t' := s2.toks) (fun b o q => Heap.get?_push_of_some _ q) (Nat.le_refl _) ⟨Nat.zero_le _, [], 0, .nil, Heap.get?_push_size _ rfl⟩
  generalize hs3 : ({ s2 with heap := s2.heap.push { cls := .type "list", dict := none, data := .seq ([] : List Value).toArray } } : Shared) = s3 at I3 ⊢
  have ups3 : ∀ b o, s2.heap.get? b = some o → s3.heap.get? b = some o := fun b o q => by rw [← hs3]; exact Heap.get?_push_of_some _ q
  have f3 : ∀ b ∈ fp, FpOk X pins (upd H2 s2.heap.objs.size (.lst [])) b := fun b hb => ⟨by rw [upd_ne (Nat.ne_of_lt (lt2 b hb))]; exact (f2 b hb).1, (f2 b hb).2⟩
  have lt3 : ∀ b ∈ fp, b < s3.heap.objs.size := fun b hb => by
    obtain ⟨o, q, _⟩ := T.obj 0 _ st2 b hb
    exact Heap.lt_size (ups3 b o q)
  refine wpAny_newFunctionEnv hcell (by intro y hy; simp at hy) (fun h4 hn4 hs4 => ?_) hk
  have keep4 : ∀ b o, s3.heap.get? b = some o → h4.get? b = some o := fun b o q => (hs4.2 b (Nat.ne_of_lt (Heap.lt_size q))).trans (Heap.get?_push_of_some _ q)
  have I4 := blk_inv (NB := NB) (tk := s3.toks + ([] : List (Str × Value)).length) I3 hk hfree hcell f3 lt3 hn4 keep4
  have st4 : tn 0 h4 := T.keep _ _ _ st2 fun b hb o q => keep4 b o (ups3 b o q)
  have fpY : ∀ {H' : Hp}, (∀ b ∈ fp, H' b = none) → ∀ b ∈ fp, FpOk (X.blk NB scope s3.heap.objs.size s3 (upd H2 s2.heap.objs.size (.lst [])) fp (X.pn ++ pins)) [] H' b := fun hn b hb => by
    obtain ⟨g0, g1, g2, g3, g4, g5⟩ := f3 b hb
    exact ⟨hn b hb, Nat.ne_of_lt (lt3 b hb), fun z => (List.mem_cons.mp (I3.stkSub b z)).elim g1 g2, .inl hb, fun x c q => (nomatch q), fun p hp => g5 p (by simpa using hp)⟩
  have loop : ∀ s5 : Shared, s5 = { s3 with heap := h4, toks := s3.toks + ([] : List (Str × Value)).length } → codeAny (model X.prog X.w) X.A (.compLoop (.ListComp elt [⟨tg, iter, ifs, 0⟩] scope pos) 0 (.ref it) (.ref s2.heap.objs.size) (compEnv scope s3.heap.objs.size X.env))
      (fun r s' => ∃ m, s'.heap.Ns s3.heap.objs.size m ∧ ∀ h', Heap.SameBut s3.heap.objs.size s'.heap h' → match r with
        | .ok _ => EP X pins σ Q (.ref s2.heap.objs.size) { s' with heap := h' }
        | .error x => wpAny (model X.prog X.w) X.A (passOn "comprehension.variables-let-go" x (compEnv scope s3.heap.objs.size X.env)) (EP X pins σ Q) X.xe { s' with heap := h' }) s5 := by
    rintro s5 rfl
    refine codeAny_loop rfl (fun n s' => ∃ i ys H', Inv (X.blk NB scope s3.heap.objs.size s3 (upd H2 s2.heap.objs.size (.lst [])) fp (X.pn ++ pins)) [] (List.replicate NB.length none) H' s' ∧ tn i s'.heap ∧ (∀ b ∈ fp, H' b = none) ∧ W i n ys H')
      (fun n s6 hI => ?_) m0 ⟨0, [], _, I4, st4, fun b hb => (f3 b hb).1, w0⟩
    obtain ⟨i, ys, H6, I6, st6, fr6, w6⟩ := hI
    show wpAny _ _ ((compTurn (.ListComp elt [⟨tg, iter, ifs, 0⟩] scope pos) 0 (.ref it) (.ref s2.heap.objs.size) (compEnv scope s3.heap.objs.size X.env)).onRaise (fun x => do noteFrame x (compEnv scope s3.heap.objs.size X.env); theTreesLotGoes x)) _ _ s6
    refine wpAny_noted ?_
    rw [compTurn_list]
    refine wpAny_bind (wpAny_standAt (wpAny_bind ?_))
    obtain ⟨hacc, alt⟩ := turn i n ys H6 w6
    rcases alt with ⟨stop, q⟩ | ⟨go, step⟩
    · refine thn (T.done (X.blk NB scope s3.heap.objs.size s3 (upd H2 s2.heap.objs.size (.lst [])) fp (X.pn ++ pins)) rfl rfl rfl hc i [] s6 _ H6 _ I6 (fpY fr6) st6 stop) fun r s7 ⟨hr, I7⟩ => ?_
      subst hr
      obtain ⟨m, hm, _⟩ := I7.loc
      exact wpAny_pure ⟨m, hm, fun h' hsb => ⟨.ref s2.heap.objs.size, H6, blk_back I3 f3 lt3 I7 hsb, rfl, q⟩⟩
    · refine thn (T.item (X.blk NB scope s3.heap.objs.size s3 (upd H2 s2.heap.objs.size (.lst [])) fp (X.pn ++ pins)) rfl rfl rfl hc i [] s6 _ H6 _ I6 (fpY fr6) st6 go) fun r s7 ⟨u, hr, h7⟩ => ?_
      subst hr
      refine wpAny_bind (thn h7 fun _ s8 ⟨x, H8, I8, r8, y8, st8, fr8⟩ => ?_)
      have I8' := I8.pinned (fpY fr8) (T.obj _ _ st8)
      have gp : ∀ {σ9 : St} {H9 : Hp} {s9 : Shared}, Inv (X.blk NB scope s3.heap.objs.size s3 (upd H2 s2.heap.objs.size (.lst [])) fp (X.pn ++ pins)) ([] ++ pinsAt fp s8.heap) σ9 H9 s9 → tn (i + 1) s9.heap ∧ ∀ b ∈ fp, H9 b = none := fun I9 =>
        ⟨T.keep _ _ _ st8 fun b hb o e => (I9.pin (b, o) (List.mem_append_right _ (List.mem_append_right _ (mem_pinsAt hb e)))).1, fun b hb => by
          obtain ⟨o, e, d⟩ := T.obj _ _ st8 b hb
          exact (I9.pin (b, o) (List.mem_append_right _ (List.mem_append_right _ (mem_pinsAt hb e)))).2.1⟩
      have wk : ∀ {σ9 : St} {H9 : Hp} {s9 : Shared}, Inv (X.blk NB scope s3.heap.objs.size s3 (upd H2 s2.heap.objs.size (.lst [])) fp (X.pn ++ pins)) ([] ++ pinsAt fp s8.heap) σ9 H9 s9 → Inv (X.blk NB scope s3.heap.objs.size s3 (upd H2 s2.heap.objs.size (.lst [])) fp (X.pn ++ pins)) [] (List.replicate NB.length none) H9 s9 := fun I9 =>
        I9.unpinned.weak (by rw [List.length_replicate, I9.len]) fun k v z => by
          rw [List.getElem?_replicate] at z
          split at z <;> cases z
      refine wpAny_bind (wpAny_mono (hg _ _ _ _ _ _ s8 _ H8 x u _ I8' r8 (step x H8 y8)) (fun _ s9 hq => ?_) fun _ _ z => z.elim)
      obtain ⟨σ9, H9, I9, q9⟩ := hq
      refine wpAny_bind (wpAny_mono (ht _ _ _ _ _ _ s9 σ9 H9 _ I9 q9) (fun ok s10 hq => ?_) fun _ _ z => z.elim)
      obtain ⟨H10, I10, q10⟩ := hq
      cases ok with
      | false =>
        rw [if_neg (by simp)] at q10
        obtain ⟨m', hm', w10⟩ := q10
        exact wpAny_pure ⟨rfl, m', hm', i + 1, ys, H10, wk I10, (gp I10).1, (gp I10).2, w10⟩
      | true =>
        rw [if_pos rfl] at q10
        refine wpAny_bind (wpAny_bind (wpAny_mono (he _ _ _ _ _ _ s10 σ9 H10 _ I10 q10) (fun y s11 hq => ?_) fun _ _ z => z.elim))
        obtain ⟨yv, H11, I11, ry, ha11, hl11, m', hm', w11⟩ := hq
        have mt := mt_append (X := X.blk NB scope s3.heap.objs.size s3 (upd H2 s2.heap.objs.size (.lst [])) fp (X.pn ++ pins)) ([] ++ pinsAt fp s8.heap) s11 σ9 H11 (.ref s2.heap.objs.size) [yv] (.ref s2.heap.objs.size) [y] (fun _ H' => W (i + 1) m' (ys ++ [yv]) H') I11 rfl (.cons ry .nil) ⟨_, ys, yv, rfl, rfl, ha11, hl11, w11⟩
        refine wpAny_bind (wpAny_mono mt (fun _ s12 hq => ?_) fun _ _ z => z.elim)
        obtain ⟨v12, H12, I12, _, w12⟩ := hq
        exact wpAny_pure (wpAny_pure ⟨rfl, m', hm', i + 1, _, H12, wk I12, (gp I12).1, (gp I12).2, w12⟩)
  exact codeAny_compStart_list (loop _ rfl) (T.self _ 0 _ _ _ st4 (loop _ rfl))
end
end L2

set_option maxHeartbeats 4000000
namespace L2
open PySem PySem.Spec PyProof.Rows

/-! ### == and != of things of any depth -/
mutual
inductive RdV (K : PySem.W.Frag) (H : Hp) : V → PyData → Prop where
  | non : RdV K H .non .none
  | bl (b : Bool) : RdV K H (.bl b) (.bool b)
  | int (i : Int) : RdV K H (.int i) (.int i)
  | str (x : Str) : RdV K H (.str x) (.str x)
  | lst {a : Addr} {xs : List V} {ds : List PyData} : SqL K H a xs → RdVs K H xs ds → RdV K H (.ref a) (.list ds)
  | tup {a : Addr} {xs : List V} {ds : List PyData} : SqT K H a xs → RdVs K H xs ds → RdV K H (.ref a) (.tuple ds)
inductive RdVs (K : PySem.W.Frag) (H : Hp) : List V → List PyData → Prop where
  | nil : RdVs K H [] []
  | cons {x : V} {d : PyData} {xs : List V} {ds : List PyData} : RdV K H x d → RdVs K H xs ds → RdVs K H (x :: xs) (d :: ds)
end

section
variable {X : Cx} {pins : List (Addr × Obj)} {σ : St} {H : Hp} {s : Shared}
mutual
theorem RdV.reads (I : Inv X pins σ H s) : ∀ {x : V} {d : PyData} {u : Value}, RdV X.K H x d → RelV x u → ∃ as, Reads s.heap u d as
  | _, _, _, .non, r => by cases (show _ = Value.none from r); exact ⟨_, .none⟩
  | _, _, _, .bl b, r => by cases (show _ = Value.bool b from r); exact ⟨_, .bool b⟩
  | _, _, _, .int i, r => by obtain ⟨t, q⟩ := (show ∃ t, _ = Value.int i t from r); cases q; exact ⟨_, .int i t⟩
  | _, _, _, .str x, r => by obtain ⟨t, q⟩ := (show ∃ t, _ = Value.str x t from r); cases q; exact ⟨_, .str x t⟩
  | _, _, _, @RdV.lst _ _ a xs ds hq hs, r => by
    cases (show _ = Value.ref a from r)
    obtain ⟨its, rv, p, _⟩ := I.list hq
    obtain ⟨as, ra⟩ := RdVs.reads I hs rv
    obtain ⟨o, ho, hc, n, hd⟩ := p.isList
    exact ⟨_, .list ho hc hd (by simpa using ra)⟩
  | _, _, _, @RdV.tup _ _ a xs ds hq hs, r => by
    cases (show _ = Value.ref a from r)
    obtain ⟨its, rv, p, _⟩ := I.tuple hq
    obtain ⟨as, ra⟩ := RdVs.reads I hs rv
    obtain ⟨o, ho, hc, n, hd⟩ := (show s.heap.IsTuple a its.toArray from p)
    exact ⟨_, .tuple ho hc hd (by simpa using ra)⟩
theorem RdVs.reads (I : Inv X pins σ H s) : ∀ {xs : List V} {ds : List PyData} {us : List Value}, RdVs X.K H xs ds → Vals xs us → ∃ as, ReadsAll s.heap us ds as
  | _, _, _, .nil, .nil => ⟨_, .nil⟩
  | _, _, _, .cons h hs, .cons r rs => by
    obtain ⟨as, ra⟩ := RdV.reads I h r
    obtain ⟨bs, rb⟩ := RdVs.reads I hs rs
    exact ⟨_, .cons ra rb⟩
end
end

section
variable {X : Cx}
def rEqD (K : PySem.W.Frag) : R2 := fun x y H Q => ∃ dx dy, RdV K H x dx ∧ RdV K H y dy ∧ SeqAt.shaped dx = true ∧ SeqAt.shaped dy = true ∧ Q (.bl (PyData.eqv dx dy)) H
def rNeD (K : PySem.W.Frag) : R2 := fun x y H Q => ∃ dx dy, RdV K H x dx ∧ RdV K H y dy ∧ SeqAt.shaped dx = true ∧ SeqAt.shaped dy = true ∧ Q (.bl (!PyData.eqv dx dy)) H
theorem op_eqD (hu : X.A.units + 64 < cLine) : OpR X (compareOp .Eq) (rEqD X.K) := by
  intro pins s σ H x y v u Q I rx ry h
  obtain ⟨dx, dy, hx, hy, sx, sy, q⟩ := h
  obtain ⟨as, ra⟩ := hx.reads I rx
  obtain ⟨bs, rb⟩ := hy.reads I ry
  exact SeqAt.compareEq_shaped ra rb sx sy hu ⟨.bl _, H, I, rfl, q⟩
theorem op_neD (hu : X.A.units + 64 < cLine) : OpR X (compareOp .NotEq) (rNeD X.K) := by
  intro pins s σ H x y v u Q I rx ry h
  obtain ⟨dx, dy, hx, hy, sx, sy, q⟩ := h
  obtain ⟨as, ra⟩ := hx.reads I rx
  obtain ⟨bs, rb⟩ := hy.reads I ry
  exact SeqAt.compareNe_shaped ra rb sx sy hu ⟨.bl _, H, I, rfl, q⟩
end
end L2

namespace PySem.SeqAt
open AutoSeq1 (wpAny_loadPart')
open MeetsSeq MeetsSeq2 MeetsSeq3
section
variable {A : Around} {s : Shared}
end
end PySem.SeqAt
namespace L2
open PySem PySem.Spec PyProof.Rows
section
variable {X : Cx}
end
end L2

namespace L2
open PySem PySem.Spec PyProof.Rows

/-! ### lists of pairs as tables -/
section
variable {κ : Type} [DecidableEq κ]



end


/-! ### a tracked dict, its keys ints and texts or tuples of these -/


section
variable {P : Program} {w : World} {H : Hp} {h : Heap} {a : Addr}
end



section
variable {X : Cx} {pins : List (Addr × Obj)} {σ : St} {H : Hp} {s : Shared} {a : Addr} {y v : V} {u r : Value} {o : Option V} {A : Around} {E : Value → Shared → Prop}


end

section
variable {X : Cx} {pins : List (Addr × Obj)} {σ : St} {H : Hp} {s : Shared} {a : Addr} {kvs : List (Key × V)} {k : Key} {u : Value} {A : Around} {E : Value → Shared → Prop}
end


/-! ### readings and rules -/



section
variable {X : Cx} {o i e value : Expr} {pos pos' tpos : Pos} {td ty tv : TE}
end


/-! ### displays -/
section
variable {X : Cx} {pos : Pos}
end




/-! ### methods -/
/-- a method call o.m(e) of a built-in, with one argument: what must be seen of the text -/
structure M1 (X : Cx) (o : Expr) (m : Str) (apos : Pos) (e : Expr) (cpos : Pos) : Prop where
  base : attributeBase o m X.env (eval o X.env) = eval o X.env
  few : ((backTo cpos (starEach [e] X.env)).all (fun x => !x.1) && (backToKw cpos (keywordEach [] X.env)).all (fun x => x.1.isSome)
    && decide (([e] : List Expr).length + ([] : List Keyword).length + (if ([] : List Keyword).isEmpty then 0 else 1) < 30)) = true
  line : (apos.endLine == cpos.line) = true
  trees : backTo cpos (starEach [e] X.env) = [(false, eval e X.env)]


section
variable {X : Cx} {pins : List (Addr × Obj)} {σ : St} {H : Hp} {s : Shared} {a : Addr} {y d : V} {u r : Value} {o : Option V} {A : Around} {E : Value → Shared → Prop}
end

section
variable {X : Cx} {o e f : Expr} {apos cpos : Pos} {td ty tx : TE}
end

/-! ### dict(d): a copy -/
section
variable {X : Cx} {pins : List (Addr × Obj)} {σ : St} {H : Hp} {s : Shared} {a : Addr} {kvs : List (Key × V)} {A : Around} {E : Value → Shared → Prop}
end


section
variable {X : Cx} {pins : List (Addr × Obj)} {σ : St} {H : Hp} {s : Shared} {a : Addr} {y : V} {u : Value} {A : Around} {E : Value → Shared → Prop}
end
end L2

set_option maxHeartbeats 4000000
namespace L2
open PySem PySem.Spec PyProof.Rows

section
variable {X : Cx}
/-- t + u, of any tuples -/
def rCatA : R2 := fun x y H Q => ∃ a b xs ys, x = .ref a ∧ y = .ref b ∧ H a = some (.tup xs) ∧ H b = some (.tup ys) ∧ xs.length + ys.length ≤ sizeLine ∧
  ∀ p H', Same H H' → H' p = some (.tup (xs ++ ys)) → Q (.ref p) H'
theorem same_upd {H : Hp} {p : Addr} {o : HO} (h : H p = none) : Same H (upd H p o) := fun b u q => by
  rw [upd_ne (ne_of_none q h)]
  exact q
theorem op_catA : OpR X (binaryOp .Add) rCatA := by
  intro pins s σ H x y v u Q I rx ry h
  obtain ⟨a, b, xs, ys, rfl, rfl, ha, hb, hz, q⟩ := h
  by_cases hx : xs = []
  · subst hx
    cases (show v = Value.ref a from rx)
    cases (show u = Value.ref b from ry)
    obtain ⟨its, r1, p1, _⟩ := I.tuple (SqT.of ha)
    obtain ⟨its2, r2, p2, _⟩ := I.tuple (SqT.of hb)
    cases r1
    obtain ⟨⟨cls, dd, data, sl⟩, ho, hc, n, hd⟩ := p1
    obtain ⟨⟨cls2, dd2, data2, sl2⟩, ho2, hc2, n2, hd2⟩ := p2
    simp only at hc hd hc2 hd2
    subst hc hd hc2 hd2
    exact concat_meets ⟨_, ho, rfl⟩ ⟨_, ho2, rfl⟩ noFill_tuple_add seq_tuple_add PySem.F.slot_tuple_add PySem.F.entry_tuple_add (PySem.F.args_tuple_add_2 _ _)
      (tuple_addW0 a b _ its2.toArray n n2 dd dd2 sl sl2 rfl) ⟨ho, ho2, ⟨.ref b, H, I, rfl, q b H (Same.refl H) (by simpa using hb)⟩⟩
  · refine op_catT pins s σ H _ _ v u Q I rx ry ⟨a, b, xs, ys, rfl, rfl, SqT.of ha, SqT.of hb, hx, hz, fun z => ?_, fun z p hp => ?_⟩
    · subst z
      exact q a H (Same.refl H) (by simpa using ha)
    · exact q p _ (same_upd hp) upd_same
theorem op_fdivB : OpR X (binaryOp .FloorDiv) (rI (fun _ j => 0 < j ∧ j < 2 ^ 64) fun i j => .int (i / j)) := opI fun i j _ _ _ _ _ hc q => by
  have e : i.fdiv j = i / j := Int.fdiv_eq_ediv_of_nonneg _ (Int.le_of_lt hc.1)
  rw [← e] at q
  refine floordiv_int (Int.ne_of_gt hc.1) q (.inl (PyProof.noPylong_of_log2 ?_))
  have h1 : j.natAbs < 2 ^ 64 := by omega
  have h2 : j.natAbs ≠ 0 := by omega
  have h3 : j.natAbs.log2 < 64 := (Nat.log2_lt h2).mpr h1
  omega
end
end L2

set_option maxHeartbeats 4000000
namespace HT
open PySem PyProof.Rows
section
variable {prog : Program} {w : World} {A : Around} {E : Value → Shared → Prop} {s : Shared}
/-- t[a:b], the whole: t itself -/
theorem getItem_tuple_all {t sl : Addr} {items : Array Value} {vl vu : Value} {lo hi : Option Int} {Q : Value → Shared → Prop} (ht : IsTup s.heap t items) (hs : s.heap.IsSliceOf sl vl vu .none) (pl : IsPart vl lo) (pu : IsPart vu hi)
    (hw : sIx items.size 0 lo = 0 ∧ sIx items.size items.size hi = items.size) (h : Q (.ref t) s) : wpAny (model prog w) A (getItem (.ref t) (.ref sl)) Q E s := by
  obtain ⟨os, hos, hcs, hds⟩ := id hs
  have hTs : s.TypeIs (.ref sl) "slice" := ⟨os, hos, hcs⟩
  unfold getItem
  try with_reducible refine wpAny_holding ?_
  first | refine wpAny_bind (wpAny_pure ?_) | skip
  refine wpAny_bind (wpAny_sequenceKey ht.typeIs (by decide) ?_)
  refine wpAny_bind (wpAny_callSpecial?_slot (name := Str.ofString "__getitem__") ht.typeIs PyProof.Rows.slot_tuple_getitem
    (wpAny_call_entry PyProof.Rows.slot_tuple_getitem ht.typeIs entry_tuple_getitem ?_ (args_tuple_getitem _ _)))
  show wpAny _ _ (Builtin.Tuple.tupleItemsOf (.ref t) >>= _) _ _ s
  refine wpAny_bind (tupleItemsOf_ ht ?_)
  refine wpAny_bind (wpAny_typeOf hTs ?_)
  rw [if_pos (by decide)]
  refine wpAny_bind (sliceApplied_gen hs pl pu ?_)
  have hyes : (((sIx items.size 0 lo : Nat) : Int) == 0 && (1 : Int) == 1 && (sIx items.size items.size hi - sIx items.size 0 lo) == items.size) = true := by
    rw [hw.1, hw.2]
    simp
  show wpAny _ _ (if (((sIx items.size 0 lo : Nat) : Int) == 0 && (1 : Int) == 1 && (sIx items.size items.size hi - sIx items.size 0 lo) == items.size) = true then _ else _) _ _ s
  rw [if_pos hyes]
  obtain ⟨o, ho, hc, n, hd⟩ := id ht
  refine wpAny_bind ?_
  unfold Builtin.Tuple.tupleIsExact
  refine wpAny_bind (wpAny_typeOf ht.typeIs ?_)
  refine wpAny_pure ?_
  rw [if_pos (by decide)]
  refine wpAny_bind (wpAny_rule ?_)
  exact wpAny_pure ⟨_, rfl, wpAny_pure h⟩
end
end HT
namespace L2
open PySem PySem.Spec PyProof.Rows
section
variable {X : Cx}
/-- t[lo:hi] of any tuple -/
def rSlA : V → Option Int → Option Int → Hp → VK → Prop := fun x lo hi H Q => ∃ a xs, x = .ref a ∧ H a = some (.tup xs) ∧ ∀ p H', Same H H' → H' p = some (.tup (cutV xs lo hi)) → Q (.ref p) H'
theorem sl_all : SlR X rSlA := by
  intro pins s σ H x v vl vu lo hi sl Q I rx hs pl pu h
  obtain ⟨a, xs, rfl, hx, q⟩ := h
  by_cases hw : HT.sIx xs.length 0 lo = 0 ∧ HT.sIx xs.length xs.length hi = xs.length
  · cases (show v = Value.ref a from rx)
    obtain ⟨its, r, ht, hz⟩ := I.tuple (SqT.of hx)
    have hlen : its.toArray.size = xs.length := by rw [List.size_toArray]; exact r.length.symm
    refine ⟨"tuple", _, PyProof.Rows.slot_tuple_getitem.lookup, ht.typeIs, ?_⟩
    refine HT.getItem_tuple_all ht hs pl pu (by rw [hlen]; exact hw) ⟨.ref a, H, I, rfl, q a H (Same.refl H) ?_⟩
    have e : cutV xs lo hi = xs := by
      unfold cutV
      rw [hw.1, hw.2]
      simp
    rw [e]
    exact hx
  · exact sl_tup pins s σ H _ v vl vu lo hi sl Q I rx hs pl pu ⟨a, xs, rfl, SqT.of hx, hw, fun p hp => q p _ (same_upd hp) upd_same⟩
end
end L2

set_option maxHeartbeats 4000000
namespace L2
open PySem PySem.Spec PyProof.Rows
/-! ### long displays: the same rules, behind a structure (the elaborator does not look into it) -/
end L2

set_option maxHeartbeats 4000000
namespace L2
open PySem PySem.Spec PyProof.Rows
section
variable {X : Cx}
end
end L2

set_option maxHeartbeats 4000000
namespace L2
open PySem PySem.Spec PyProof.Rows

/-! ### [e for t in it if c] with names of the def around it -/
abbrev Cx.blkF (X : Cx) (NB : List Str) (scope : Scope) (cl : List (Str × Addr)) (C : Addr) (s : Shared) (H : Hp) (fp : List Addr) (pn : List (Addr × Obj)) : Cx :=
  { X with N := NB, s₀ := s, H₀ := H, env := compEnvC scope cl C X.env, outer := X.stack, ex := fp, fn := fun _ => false, pn := pn, xe := fun _ _ => False }
/-- the block's state at the start of each turn: its own names bare, the others as around it -/
def bare0 (n : Nat) (js : List Nat) (σ : St) : St := List.replicate n none ++ js.map fun j => (σ[j]?).join
def tCompF (n : Nat) (js : List Nat) (wi : TI) (g : TG) (tc : TT) (te : TE) : TE := fun σ H Q => wi σ H fun J H1 => ∀ acc, H1 acc = none →
  ∃ W : Nat → Nat → List V → Hp → Prop, (∃ m, W 0 m [] (upd H1 acc (.lst []))) ∧ ∀ i m ys H, W i m ys H → H acc = some (.lst ys) ∧
    ((J.stop i H ∧ Q (.ref acc) H) ∨ (J.go i H ∧ ∀ x H', J.yld i H x H' → g x (bare0 n js σ) H' fun σ2 H2 => σ2.drop n = (bare0 n js σ).drop n ∧ tc σ2 H2 fun b H3 =>
      if b = true then te σ2 H3 fun y H4 => H4 acc = some (.lst ys) ∧ ys.length < sizeLine ∧ ∃ m', m' < m ∧ W (i + 1) m' (ys ++ [y]) (upd H4 acc (.lst (ys ++ [y])))
      else ∃ m', m' < m ∧ W (i + 1) m' ys H3))
/-- the names that the block takes from around it -/
structure Takes (X : Cx) (NB : List Str) (n : Nat) (js : List Nat) (scope : Scope) (cl : List (Str × Addr)) : Prop where
  clo : closureFor scope X.env = pure cl
  sub : ∀ x c, cl.lookup x = some c → X.env.cells.lookup x = some c
  has : ∀ x, ((relabel scope X.env).names.lookup x = some .cell ∨ (relabel scope X.env).names.lookup x = some .free) → (cl.lookup x).isSome = true
  len : NB.length = n + js.length
  nam : ∀ k j, js[k]? = some j → NB[n + k]? = X.N[j]?
  ck : ∀ x, Vis (relabel scope X.env) x → x ∈ NB.drop n → ((relabel scope X.env).names.lookup x = some .cell ∨ (relabel scope X.env).names.lookup x = some .free) ∧ (X.env.kindOf x = some .cell ∨ X.env.kindOf x = some .free) ∧ (cl.lookup x).isSome = true

section
variable {X : Cx} {NB : List Str} {n : Nat} {js : List Nat} {scope : Scope} {cl : List (Str × Addr)}
theorem bare0_len (T : Takes X NB n js scope cl) (σ : St) : (bare0 n js σ).length = NB.length := by
  unfold bare0
  rw [List.length_append, List.length_replicate, List.length_map, T.len]
theorem bare0_at {σ : St} {i : Nat} {v : V} (h : (bare0 n js σ)[i]? = some (some v)) : ∃ k j, i = n + k ∧ js[k]? = some j ∧ σ[j]? = some (some v) := by
  unfold bare0 at h
  rcases Nat.lt_or_ge i n with c | c
  · rw [List.getElem?_append_left (by rw [List.length_replicate]; exact c), List.getElem?_replicate, if_pos c] at h
    cases h
  · rw [List.getElem?_append_right (by rw [List.length_replicate]; exact c), List.length_replicate, List.getElem?_map] at h
    cases hj : js[i - n]? with
    | none => rw [hj] at h; cases h
    | some j =>
      rw [hj] at h
      have h : some ((σ[j]?).join) = some (some v) := h
      have h := Option.some.inj h
      refine ⟨i - n, j, by omega, hj, ?_⟩
      cases hs : σ[j]? with
      | none => rw [hs] at h; cases h
      | some o =>
        rw [hs] at h
        have h : o = some v := h
        rw [h]
theorem blkF_inv {pins : List (Addr × Obj)} {σ : St} {H : Hp} {s : Shared} {h4 : Heap} {tk : Nat} {fp : List Addr} (I : Inv X pins σ H s) (hk : scope.kind = .function) (T : Takes X NB n js scope cl)
    (hf : ∀ b ∈ fp, FpOk X pins H b) (ho : ∀ b ∈ fp, b < s.heap.objs.size) {m : Str → Option Value} (hn : h4.Ns s.heap.objs.size m) (keep : ∀ b o, s.heap.get? b = some o → h4.get? b = some o) :
    Inv (X.blkF NB scope cl s.heap.objs.size s H fp (X.pn ++ pins)) [] (bare0 n js σ) H { s with heap := h4, toks := tk } := by
  have stk : ∀ b, b ≠ X.env.locals → b ∉ X.fs → b ∉ frs X.stack := fun b h1 h2 z => (List.mem_cons.mp (I.stkSub b z)).elim h1 h2
  obtain ⟨m0, hn0, hl0⟩ := I.loc
  refine ⟨⟨I.ok.mod, hk, I.ok.glob, I.ok.blt, Nat.le_refl _, fun x y c q1 q2 => I.ok.inj x y c (T.sub x c q1) (T.sub y c q2), fun x q => Option.isSome_iff_exists.mp (T.has x q), fun x c q => (nomatch q), I.ok.hd, I.ok.frames, .inl rfl, fun b hb => ⟨Nat.ne_of_lt (ho b hb), fun x c q => (hf b hb).2.2.2.2.1 x c (T.sub x c q)⟩, I.bs, Nat.le_trans I.ok.bsz I.sz,
    fun b o q hb => ?_, fun b hb => stk b (hf b hb).2.1 (hf b hb).2.2.1, I.stack, I.stkFree⟩, rfl, I.bare, Un.kept keep, ⟨m, hn, fun i x v q1 q2 q3 => ?_⟩, fun x c q => ?_, I.hok.fresh (Nat.le_refl _), fun x c q => I.freeC x c (T.sub x c q), fun p hp => ?_, I.hok.kept keep, ?_⟩
  · rcases (hf b hb).2.2.2.1 with z | z
    · exact I.ok.noex b o q z
    · exact absurd (Nat.lt_of_lt_of_le (Heap.lt_size q) (Nat.le_trans I.ok.bsz z)) (Nat.lt_irrefl _)
  · obtain ⟨k, j, rfl, hj, hs⟩ := bare0_at q2
    have q1 : NB[n + k]? = some x := q1
    have hx : X.N[j]? = some x := by rw [← T.nam k j hj]; exact q1
    have hd : x ∈ NB.drop n := List.mem_of_getElem? (i := k) (by rw [List.getElem?_drop]; exact q1)
    obtain ⟨k1, k2, k3⟩ := T.ck x q3 hd
    obtain ⟨c, hc⟩ := Option.isSome_iff_exists.mp k3
    obtain ⟨u, ru, lu⟩ := hl0 j x v hx hs (k2.elim (fun z => .inr (.inl z)) fun z => .inr (.inr z))
    refine ⟨u, ru, .inr ⟨k1, c, hc, ?_⟩⟩
    rcases lu with ⟨z, _⟩ | ⟨_, c', hc', o, ho', hd'⟩
    · rcases k2 with w | w <;> (rw [w] at z; cases z)
    · have e : c' = c := Option.some.inj (hc'.symm.trans (T.sub x c hc))
      subst e
      exact ⟨o, keep _ _ ho', hd'⟩
  · obtain ⟨v, o, ho', hd'⟩ := I.cell x c (T.sub x c q)
    exact ⟨v, o, keep _ _ ho', hd'⟩
  · have hp' : p ∈ X.pn ++ pins := by simpa using hp
    obtain ⟨q, n, ne, nf, d⟩ := I.pin p hp'
    exact ⟨keep _ _ q, n, Nat.ne_of_lt (Heap.lt_size q), stk _ ne nf, d⟩
  · exact bare0_len T σ

theorem blkF_back {pins : List (Addr × Obj)} {σ σ' : St} {H H' : Hp} {s s' : Shared} {h2 : Heap} {fp : List Addr} {pl : List (Addr × Obj)} (I : Inv X pins σ H s) (hf : ∀ b ∈ fp, FpOk X pins H b) (ho : ∀ b ∈ fp, b < s.heap.objs.size)
    (J : Inv (X.blkF NB scope cl s.heap.objs.size s H fp (X.pn ++ pins)) pl σ' H' s') (hs : Heap.SameBut s.heap.objs.size s'.heap h2) : Inv X pins σ H' { s' with heap := h2 } := by
  have u := J.base
  have low : ∀ b o, s.heap.get? b = some o → b ≠ s.heap.objs.size := fun b o q => Nat.ne_of_lt (Heap.lt_size q)
  refine I.call' (s' := { s' with heap := h2 }) (ch := fp) J.os ⟨fun b o q n hb he => (hs.2 b (low b o q)).trans (u.keep b o q n hb he), fun b o q n hb he => ?_, u.free, fun b o q he => ?_, u.tups, u.frzs, u.tbls⟩ (fun b o q => ?_) J.bare fun b hb => ?_
  · obtain ⟨sl, z⟩ := u.slot b o q n hb he
    exact ⟨sl, (hs.2 b (low b o q)).trans z⟩
  · obtain ⟨o', z⟩ := u.there b o q he
    exact ⟨o', (hs.2 b (low b o q)).trans z⟩
  · refine (J.hok b o q).stay (fun c w' hc r => (hs.2 c ?_).trans r) (fun _ r => r) fun _ _ r => r
    have fr : H' s.heap.objs.size = none := J.free
    rintro rfl
    rcases hc with rfl | hc
    · rw [fr] at q; cases q
    · rw [fr] at hc; cases hc
  · obtain ⟨f0, f1, f2, f3, f4, f5⟩ := hf b hb
    exact ⟨f3, f1, f4, f5⟩

theorem pe_compF {elt tg iter : Expr} {ifs : List Expr} {pos : Pos} {wi : TI} {g : TG} {tc : TT} {te : TE} (hk : scope.kind = .function) (hcell : ∀ x ∈ scope.names, x.2 ≠ .cell)
    (hnames : ∀ x ∈ scope.names, x.2 = .local → scope.names.lookup x.1 = some .local) (hc : X.calm = true) (T : Takes X NB n js scope cl) (hi : PI X tg iter wi)
    (hg : ∀ C s H fp pn, PG (X.blkF NB scope cl C s H fp pn) tg g) (ht : ∀ C s H fp pn, PTs (X.blkF NB scope cl C s H fp pn) ifs tc) (he : ∀ C s H fp pn, PE (X.blkF NB scope cl C s H fp pn) elt te)
    (hs : ∀ x, foldedSetIterable iter X.env x = pure x := by intro _; rfl) : PE X (.ListComp elt [⟨tg, iter, ifs, 0⟩] scope pos) (tCompF n js wi g tc te) := by
  intro pins s σ H Q I h
  rw [eval_ListComp]
  refine wpAny_comprehension_free (use := none) rfl hs T.clo hk hnames (thn (hi pins s σ H _ I h) fun v s1 h1 => thn h1 fun itv s2 h2 => ?_)
  obtain ⟨it, fp, tn, J, H2, rfl, I2, U, st2, f2, h2⟩ := h2
  have lt2 : ∀ b ∈ fp, b < s2.heap.objs.size := fun b hb => by
    obtain ⟨o, q, _⟩ := U.obj 0 _ st2 b hb
    exact Heap.lt_size q
  refine wpAny_newObj_type ?_
  have hz : H2 s2.heap.objs.size = none := I2.hok.fresh (Nat.le_refl _)
  obtain ⟨W, ⟨m0, w0⟩, turn⟩ := h2 s2.heap.objs.size hz
  have I3 : Inv X pins σ (upd H2 s2.heap.objs.size (.lst [])) { s2 with heap := s2.heap.push { cls := .type "list", dict := none, data := .seq ([] : List Value).toArray } } :=
    I2.laid (t' := s2.toks) (fun b o q => Heap.get?_push_of_some _ q) (Nat.le_refl _) ⟨Nat.zero_le _, [], 0, .nil, Heap.get?_push_size _ rfl⟩
  generalize hs3 : ({ s2 with heap := s2.heap.push { cls := .type "list", dict := none, data := .seq ([] : List Value).toArray } } : Shared) = s3 at I3 ⊢
  have ups3 : ∀ b o, s2.heap.get? b = some o → s3.heap.get? b = some o := fun b o q => by rw [← hs3]; exact Heap.get?_push_of_some _ q
  have f3 : ∀ b ∈ fp, FpOk X pins (upd H2 s2.heap.objs.size (.lst [])) b := fun b hb => ⟨by rw [upd_ne (Nat.ne_of_lt (lt2 b hb))]; exact (f2 b hb).1, (f2 b hb).2⟩
  have lt3 : ∀ b ∈ fp, b < s3.heap.objs.size := fun b hb => by
    obtain ⟨o, q, _⟩ := U.obj 0 _ st2 b hb
    exact Heap.lt_size (ups3 b o q)
  refine wpAny_newFunctionEnv hcell (by intro y hy; simp at hy) (fun h4 hn4 hs4 => ?_) hk
  have keep4 : ∀ b o, s3.heap.get? b = some o → h4.get? b = some o := fun b o q => (hs4.2 b (Nat.ne_of_lt (Heap.lt_size q))).trans (Heap.get?_push_of_some _ q)
  have I4 := blkF_inv (tk := s3.toks + ([] : List (Str × Value)).length) I3 hk T f3 lt3 hn4 keep4
  have st4 : tn 0 h4 := U.keep _ _ _ st2 fun b hb o q => keep4 b o (ups3 b o q)
  have fpY : ∀ {H' : Hp}, (∀ b ∈ fp, H' b = none) → ∀ b ∈ fp, FpOk (X.blkF NB scope cl s3.heap.objs.size s3 (upd H2 s2.heap.objs.size (.lst [])) fp (X.pn ++ pins)) [] H' b := fun hn b hb => by
    obtain ⟨g0, g1, g2, g3, g4, g5⟩ := f3 b hb
    exact ⟨hn b hb, Nat.ne_of_lt (lt3 b hb), fun z => (List.mem_cons.mp (I3.stkSub b z)).elim g1 g2, .inl hb, fun x c q => g4 x c (T.sub x c q), fun p hp => g5 p (by simpa using hp)⟩
  have loop : ∀ s5 : Shared, s5 = { s3 with heap := h4, toks := s3.toks + ([] : List (Str × Value)).length } → codeAny (model X.prog X.w) X.A (.compLoop (.ListComp elt [⟨tg, iter, ifs, 0⟩] scope pos) 0 (.ref it) (.ref s2.heap.objs.size) (compEnvC scope cl s3.heap.objs.size X.env))
      (compPost (model X.prog X.w) X.A X.xe none (EP X pins σ Q) (.ref s2.heap.objs.size) s3.heap.objs.size) s5 := by
    rintro s5 rfl
    refine codeAny_loop rfl (fun k s' => ∃ i ys H', Inv (X.blkF NB scope cl s3.heap.objs.size s3 (upd H2 s2.heap.objs.size (.lst [])) fp (X.pn ++ pins)) [] (bare0 n js σ) H' s' ∧ tn i s'.heap ∧ (∀ b ∈ fp, H' b = none) ∧ W i k ys H')
      (fun k s6 hI => ?_) m0 ⟨0, [], _, I4, st4, fun b hb => (f3 b hb).1, w0⟩
    obtain ⟨i, ys, H6, I6, st6, fr6, w6⟩ := hI
    show wpAny _ _ ((compTurn (.ListComp elt [⟨tg, iter, ifs, 0⟩] scope pos) 0 (.ref it) (.ref s2.heap.objs.size) (compEnvC scope cl s3.heap.objs.size X.env)).onRaise (fun x => do noteFrame x (compEnvC scope cl s3.heap.objs.size X.env); theTreesLotGoes x)) _ _ s6
    refine wpAny_noted ?_
    rw [compTurn_list]
    refine wpAny_bind (wpAny_standAt (wpAny_bind ?_))
    obtain ⟨hacc, alt⟩ := turn i k ys H6 w6
    rcases alt with ⟨stop, q⟩ | ⟨go, step⟩
    · refine thn (U.done (X.blkF NB scope cl s3.heap.objs.size s3 (upd H2 s2.heap.objs.size (.lst [])) fp (X.pn ++ pins)) rfl rfl rfl hc i [] s6 _ H6 _ I6 (fpY fr6) st6 stop) fun r s7 ⟨hr, I7⟩ => ?_
      subst hr
      obtain ⟨m, hm, _⟩ := I7.loc
      exact wpAny_pure ⟨m, hm, fun h' hsb => ⟨.ref s2.heap.objs.size, H6, blkF_back I3 f3 lt3 I7 hsb, rfl, q⟩⟩
    · refine thn (U.item (X.blkF NB scope cl s3.heap.objs.size s3 (upd H2 s2.heap.objs.size (.lst [])) fp (X.pn ++ pins)) rfl rfl rfl hc i [] s6 _ H6 _ I6 (fpY fr6) st6 go) fun r s7 ⟨u, hr, h7⟩ => ?_
      subst hr
      refine wpAny_bind (thn h7 fun _ s8 ⟨x, H8, I8, r8, y8, st8, fr8⟩ => ?_)
      have I8' := I8.pinned (fpY fr8) (U.obj _ _ st8)
      have gp : ∀ {σ9 : St} {H9 : Hp} {s9 : Shared}, Inv (X.blkF NB scope cl s3.heap.objs.size s3 (upd H2 s2.heap.objs.size (.lst [])) fp (X.pn ++ pins)) ([] ++ pinsAt fp s8.heap) σ9 H9 s9 → tn (i + 1) s9.heap ∧ ∀ b ∈ fp, H9 b = none := fun I9 =>
        ⟨U.keep _ _ _ st8 fun b hb o e => (I9.pin (b, o) (List.mem_append_right _ (List.mem_append_right _ (mem_pinsAt hb e)))).1, fun b hb => by
          obtain ⟨o, e, d⟩ := U.obj _ _ st8 b hb
          exact (I9.pin (b, o) (List.mem_append_right _ (List.mem_append_right _ (mem_pinsAt hb e)))).2.1⟩
      have wk : ∀ {σ9 : St} {H9 : Hp} {s9 : Shared}, σ9.drop n = (bare0 n js σ).drop n → Inv (X.blkF NB scope cl s3.heap.objs.size s3 (upd H2 s2.heap.objs.size (.lst [])) fp (X.pn ++ pins)) ([] ++ pinsAt fp s8.heap) σ9 H9 s9 → Inv (X.blkF NB scope cl s3.heap.objs.size s3 (upd H2 s2.heap.objs.size (.lst [])) fp (X.pn ++ pins)) [] (bare0 n js σ) H9 s9 := fun {σ9 H9 s9} hd I9 =>
        I9.unpinned.weak (by rw [bare0_len T, I9.len]) fun k v z => by
          obtain ⟨k', j, rfl, _, _⟩ := bare0_at z
          have e := congrArg (fun l => l[k']?) hd
          simp only [List.getElem?_drop] at e
          rw [e]
          exact z
      refine wpAny_bind (wpAny_mono (hg _ _ _ _ _ _ s8 _ H8 x u _ I8' r8 (step x H8 y8)) (fun _ s9 hq => ?_) fun _ _ z => z.elim)
      obtain ⟨σ9, H9, I9, hd9, q9⟩ := hq
      refine wpAny_bind (wpAny_mono (ht _ _ _ _ _ _ s9 σ9 H9 _ I9 q9) (fun ok s10 hq => ?_) fun _ _ z => z.elim)
      obtain ⟨H10, I10, q10⟩ := hq
      cases ok with
      | false =>
        rw [if_neg (by simp)] at q10
        obtain ⟨m', hm', w10⟩ := q10
        exact wpAny_pure ⟨rfl, m', hm', i + 1, ys, H10, wk hd9 I10, (gp I10).1, (gp I10).2, w10⟩
      | true =>
        rw [if_pos rfl] at q10
        refine wpAny_bind (wpAny_bind (wpAny_mono (he _ _ _ _ _ _ s10 σ9 H10 _ I10 q10) (fun y s11 hq => ?_) fun _ _ z => z.elim))
        obtain ⟨yv, H11, I11, ry, ha11, hl11, m', hm', w11⟩ := hq
        have mt := mt_append (X := X.blkF NB scope cl s3.heap.objs.size s3 (upd H2 s2.heap.objs.size (.lst [])) fp (X.pn ++ pins)) ([] ++ pinsAt fp s8.heap) s11 σ9 H11 (.ref s2.heap.objs.size) [yv] (.ref s2.heap.objs.size) [y] (fun _ H' => W (i + 1) m' (ys ++ [yv]) H') I11 rfl (.cons ry .nil) ⟨_, ys, yv, rfl, rfl, ha11, hl11, w11⟩
        refine wpAny_bind (wpAny_mono mt (fun _ s12 hq => ?_) fun _ _ z => z.elim)
        obtain ⟨v12, H12, I12, _, w12⟩ := hq
        exact wpAny_pure (wpAny_pure ⟨rfl, m', hm', i + 1, _, H12, wk hd9 I12, (gp I12).1, (gp I12).2, w12⟩)
  exact codeAny_compStart_list (loop _ rfl) (U.self _ 0 _ _ _ st4 (loop _ rfl))

/-! ### a list or a tuple walked -/
def iSeq (K : PySem.W.Frag) (tl : TE) : TI := fun σ H R => tl σ H fun x H1 => ∃ a, x = .ref a ∧ (((∃ xs, SqL K H1 a xs) ∧ R (Itl K a) H1) ∨ ((∃ xs, SqT K H1 a xs) ∧ R (Itt K a) H1))
theorem pi_seq {tg l : Expr} {tl : TE} (hl : PE X l tl) : PI X tg l (iSeq X.K tl) := by
  intro pins s σ H R I h
  refine thn (hl pins s σ H _ I h) fun v s1 ⟨x, H1, I1, r1, q1⟩ => ?_
  obtain ⟨a, e, q1⟩ := q1
  subst e
  cases r1
  rcases q1 with ⟨⟨xs, hq⟩, q⟩ | ⟨⟨xs, hq⟩, q⟩
  · obtain ⟨its, rv, p, hz⟩ := I1.list hq
    refine wpAny_pyIter_list p.isList ?_
    refine ⟨s1.heap.objs.size, [s1.heap.objs.size], _, _, H1, rfl, I1.kept (t' := s1.toks) fun b o e => Heap.get?_push_of_some _ e, turn_list a _, ⟨_, Heap.get?_push_size _ rfl, rfl, rfl⟩, fun b hb => ?_, q⟩
    have e : b = s1.heap.objs.size := by simpa using hb
    subst e
    exact I1.fpOk (Nat.le_refl _) (I1.hok.fresh (Nat.le_refl _))
  · obtain ⟨its, rv, p, hz⟩ := I1.tuple hq
    refine wpAny_pyIter_tuple (show s1.heap.IsTuple a its.toArray from p) ?_
    refine ⟨s1.heap.objs.size, [s1.heap.objs.size], _, _, H1, rfl, I1.kept (t' := s1.toks) fun b o e => Heap.get?_push_of_some _ e, turn_tuple a _, ⟨_, Heap.get?_push_size _ rfl, rfl, rfl⟩, fun b hb => ?_, q⟩
    have e : b = s1.heap.objs.size := by simpa using hb
    subst e
    exact I1.fpOk (Nat.le_refl _) (I1.hok.fresh (Nat.le_refl _))

/-! ### str(x) of a number or a text; sep.join(list of texts) -/
theorem call_strOf : CallR X (.type "str") (fun xs H Q => (∃ i, xs = [.int i] ∧ i.natAbs.log2 < 1920 ∧ Q (.str (toString i)) H) ∨ ∃ x, xs = [.str x] ∧ Q (.str x) H) := by
  refine call_str_int.or fun pins s σ H xs us Q I r h => ?_
  obtain ⟨x, rfl, q⟩ := h
  obtain ⟨u, rfl, t, rfl⟩ := vals1 r
  exact PySem.P.str_of_str ⟨.str x, H, I, ⟨_, rfl⟩, q⟩
theorem strs_are : ∀ {ys : List Str} {us : List Value}, Vals (ys.map V.str) us → StrsAre us ys
  | [], _, .nil => .nil
  | y :: ys, _, .cons ⟨t, e⟩ r => by
    subst e
    exact .cons _ _ (strs_are r)
def rJoin (K : PySem.W.Frag) : V → List V → Hp → VK → Prop := fun x vs H Q => ∃ z a ys, x = .str z ∧ vs = [.ref a] ∧ SqL K H a (ys.map V.str) ∧ (ys.map fun y => y.length).sum + ys.length * z.length ≤ 16777216 ∧ Q (.str (Txt.join z ys)) H
theorem mt_join : MtM X "str.join" (rJoin X.K) := by
  intro pins s σ H x vs v us Q I rx rv h
  obtain ⟨z, a, ys, rfl, rfl, hq, hz, q⟩ := h
  obtain ⟨t, rfl⟩ := rx
  obtain ⟨u, rfl, ru⟩ := rv.one
  cases ru
  obtain ⟨its, r', pl, hz'⟩ := I.list hq
  exact join_list pl.isList (strs_are r') hz fun t' k => ⟨.str _, H, I.tok _, ⟨_, rfl⟩, q⟩
end
end L2

set_option maxHeartbeats 4000000
namespace L2
open PySem PySem.Spec PyProof.Rows PySem.W

/-! ### the asking tree of a sort, run -/


/-! ### two things that are shown of one doing meet -/
open Classical in

/-! ### the tree's answer, for numbers -/
end L2

set_option maxHeartbeats 4000000
namespace L2
open PySem PySem.Spec PyProof.Rows PySem.W

/-! ### pairs of numbers in their order -/
end L2

set_option maxHeartbeats 4000000
namespace L2
open PySem PySem.Spec PyProof.Rows PySem.W
section
variable {prog : Program} {w : World} {A : Around} {E : Value → Shared → Prop} {s : Shared}
end
end L2

set_option maxHeartbeats 4000000
namespace L2
open PySem PySem.Spec PyProof.Rows PySem.W
section
variable {prog : Program} {w : World} {A : Around} {E : Value → Shared → Prop} {s : Shared}
end
section
variable {X : Cx}
end
end L2

set_option maxHeartbeats 4000000
namespace L2
open PySem PySem.Spec PyProof.Rows PySem.W
section
variable {X : Cx}
end
end L2

set_option maxHeartbeats 4000000
namespace L2
open PySem PySem.Spec PyProof.Rows PySem.W
section
variable {prog : Program} {w : World} {A : Around} {E : Value → Shared → Prop}
end
section
variable {X : Cx} {pos : Pos}
end
end L2

set_option maxHeartbeats 4000000
namespace L2
open PySem PySem.Spec PyProof.Rows PySem.W
section
variable {X : Cx}
/-- behind a call that keeps every object but the frame's own, and the frame's names -/
theorem Inv.byNews {pins : List (Addr × Obj)} {σ : St} {H : Hp} {s : Shared} {h' : Heap} {tk : Nat} {m : Str → Option Value} (I : Inv X pins σ H s) (hn : s.heap.Ns X.env.locals m) (F : Fr X.base X.env.locals h' m) (N : News X.base X.env.locals h' (allNews X.base s.heap X.env.locals)) :
    Inv X pins σ H { s with heap := h', toks := tk } := by
  have keep : ∀ b o, b ≠ X.env.locals → s.heap.get? b = some o → h'.get? b = some o := fun b o hb e => by
    cases z : X.base.get? b with
    | some o' =>
      have := I.bk b o' z
      rw [e] at this
      cases this
      exact F.keep b o z
    | none => exact (N (b, o) (mem_allNews hb z e)).1
  refine I.step (g' := s.gens) (d' := s.drawn) (ch := []) (fun _ z => nomatch z) (fun b o hb _ _ e _ => keep b o hb e) (fun b o hb _ _ e _ => ⟨o.slots, keep b o hb e⟩) (fun b o _ e n => n) (fun b o _ e => ?_) (fun _ _ e => e) (fun _ _ _ e => e) (fun b ps e => ⟨#[], by simpa using e⟩) (fun m' hm => ?_) (fun b o q => ?_) I.bare
  · by_cases hb : b = X.env.locals
    · subst hb
      obtain ⟨o', _, _, z, _⟩ := F.ns
      exact ⟨o', z⟩
    · exact ⟨o, keep b o hb e⟩
  · have : m' = m := funext fun x => hm.agree hn x
    subst this
    exact F.ns
  · refine (I.hok b o q).stay (fun c w' hc r => keep c w' ?_ r) (fun _ r => r) fun _ _ r => r
    rintro rfl
    rcases hc with hc | hc
    · rw [← hc, I.free] at q; cases q
    · rw [I.free] at hc; cases hc
theorem bools_are : ∀ {bs : List Bool} {us : List Value}, Vals (bs.map V.bl) us → LSm.BoolsAre us bs
  | [], _, .nil => .nil
  | b :: bs, _, .cons e r => by
    cases (show _ = Value.bool b from e)
    exact .cons b (bools_are r)
theorem call_all (hc : X.calm = true) : CallR X (.builtin "all") (fun xs H Q => ∃ (a : Addr) (bs : List Bool), xs = [.ref a] ∧ SqL X.K H a (bs.map V.bl) ∧ Q (.bl (bs.all id)) H) := by
  intro pins s σ H xs us Q I r h
  obtain ⟨a, bs, rfl, hq, q⟩ := h
  obtain ⟨u, rfl, rx⟩ := vals1 r
  cases rx
  obtain ⟨its, r', pl, hz⟩ := I.list hq
  obtain ⟨m, F⟩ := I.fr
  exact LSm.all_bools F news_all (I.ok.hd hc) pl.isList (bools_are r') fun h' tk F' N' => ⟨.bl _, H, I.byNews F.ns F' N', rfl, q⟩
end
end L2

set_option maxHeartbeats 4000000
namespace L2
open PySem PySem.Spec PyProof.Rows PySem.W
theorem ObjOk.get {P : Program} {w : World} {H : Hp} {h : Heap} {a : Addr} {o : HO} (x : ObjOk P w H h a o) : ∃ u, h.get? a = some u := by
  cases o with
  | lst xs => obtain ⟨_, _, _, _, e⟩ := x; exact ⟨_, e⟩
  | tup xs => obtain ⟨_, _, _, o, e, _⟩ := x; exact ⟨_, e⟩
  | dK kvs => obtain ⟨_, _, _, _, o, _, _, e, _⟩ := x; exact ⟨_, e⟩
  | dT kvs => obtain ⟨_, _, _, _, o, _, _, e, _⟩ := x; exact ⟨_, e⟩
  | set S n => obtain ⟨o, _, _, _, e, _⟩ := x; exact ⟨_, e⟩
  | ins C dx fs => obtain ⟨_, _, _, e, _⟩ := x; exact ⟨_, e⟩
  | own y => obtain ⟨_, e⟩ := x; exact ⟨_, e⟩
  | xd fs => obtain ⟨_, ⟨_, _, _, e, _⟩, _⟩ := x; exact ⟨_, e⟩
  | rng lo hi => obtain ⟨_, _, _, e⟩ := x; exact ⟨_, e⟩
  | frz ob u => obtain ⟨e, _⟩ := x; exact ⟨_, e⟩
  | tbl ps => exact ⟨_, show h.get? a = some _ from x⟩
  | met f y => exact ⟨_, show h.get? a = some _ from x⟩
  | ext φ => obtain ⟨_, ⟨_, e⟩, _⟩ := x; exact ⟨_, e⟩
section
variable {X : Cx}
/-- .. and a new list at D -/
theorem Inv.byNewsL {pins : List (Addr × Obj)} {σ : St} {H : Hp} {s : Shared} {h' : Heap} {tk : Nat} {m : Str → Option Value} {D : Addr} {zs : List V} (I : Inv X pins σ H s) (hn : s.heap.Ns X.env.locals m) (hns : h'.Ns X.env.locals m)
    (keep : ∀ b o, b ≠ X.env.locals → s.heap.get? b = some o → h'.get? b = some o) (hD : s.heap.get? D = none) (hl : zs.length ≤ sizeLine) {its : List Value} {n : Nat} (rv : Vals zs its) (at_ : h'.get? D = some { cls := .type "list", data := .seq its.toArray n }) :
    H D = none ∧ Inv X pins σ (upd H D (.lst zs)) { s with heap := h', toks := tk } := by
  have hH : H D = none := by
    cases z : H D with
    | none => rfl
    | some o =>
      obtain ⟨u, e⟩ := (I.hok D o z).get
      rw [hD] at e; cases e
  refine ⟨hH, ?_⟩
  have ne : ∀ b o, s.heap.get? b = some o → b ≠ D := fun b o e z => by
    rw [z, hD] at e; cases e
  have neH : ∀ b o, H b = some o → b ≠ D := fun b o e z => by
    rw [z, hH] at e; cases e
  refine I.step (g' := s.gens) (d' := s.drawn) (ch := []) (fun _ z => nomatch z) (fun b o hb _ _ e _ => keep b o hb e) (fun b o hb _ _ e _ => ⟨o.slots, keep b o hb e⟩) (fun b o _ e n => by rw [upd_ne (ne b o e)]; exact n) (fun b o _ e => ?_) (fun b xs e => by rw [upd_ne (neH b _ e)]; exact e) (fun b o u e => by rw [upd_ne (neH b _ e)]; exact e) (fun b ps e => ⟨#[], by rw [upd_ne (neH b _ e)]; simpa using e⟩) (fun m' hm => ?_) (fun b o q => ?_) I.bare
  · by_cases hb : b = X.env.locals
    · subst hb
      obtain ⟨o', _, _, z, _⟩ := hns
      exact ⟨o', z⟩
    · exact ⟨o, keep b o hb e⟩
  · have : m' = m := funext fun x => hm.agree hn x
    subst this
    exact hns
  · by_cases hb : b = D
    · subst hb
      rw [upd_same] at q
      cases q
      exact ⟨hl, its, n, rv, at_⟩
    · rw [upd_ne hb] at q
      refine (I.hok b o q).stay (fun c w' hc r => keep c w' ?_ r) (fun c e => by rw [upd_ne (neH c _ e)]; exact e) fun c xs e => by rw [upd_ne (neH c _ e)]; exact e
      rintro rfl
      rcases hc with hc | hc
      · rw [← hc, I.free] at q; cases q
      · rw [I.free] at hc; cases hc
end
end L2

set_option maxHeartbeats 4000000
namespace L2
open PySem PySem.Spec PyProof.Rows PySem.W
/-! ### texts: <=, split -/
section
variable {X : Cx}
theorem op_le_str : OpR X (compareOp .LtE) (fun x y H Q => ∃ i j, x = .str i ∧ y = .str j ∧ Q (.bl (!decide (j.cps.toList < i.cps.toList))) H) := by
  intro pins s σ H x y v u Q I rx ry h
  obtain ⟨i, j, rfl, rfl, q⟩ := h
  obtain ⟨t, rfl⟩ := rx
  obtain ⟨t', rfl⟩ := ry
  exact PySem.P.le_str ⟨.bl _, H, I, rfl, q⟩
theorem vals_strs : ∀ {l : List (Str × Tok)}, Vals ((l.map (·.1)).map V.str) (strValues l)
  | [] => .nil
  | p :: l => .cons ⟨p.2, rfl⟩ vals_strs
/-- x.split(y): a new list of texts -/
def rSplit : V → List V → Hp → VK → Prop := fun x vs H Q => ∃ z y, x = .str z ∧ vs = [.str y] ∧ (y.length == 0) = false ∧ z.length + 2 ≤ sizeLine ∧ ∀ l, H l = none → Q (.ref l) (upd H l (.lst ((Txt.split z y).map V.str)))
theorem mt_split : MtM X "str.split" rSplit := by
  intro pins s σ H x vs v us Q I rx rv h
  obtain ⟨z, y, rfl, rfl, hy, hz, q⟩ := h
  obtain ⟨t, rfl⟩ := rx
  obtain ⟨u, rfl, t', rfl⟩ := rv.one
  obtain ⟨m, F⟩ := I.fr
  refine splitN1 F news_all hy (fun l h' k hl F' N' => ?_) hz
  have hD : s.heap.get? s.heap.objs.size = none := by
    cases z : s.heap.get? s.heap.objs.size with
    | none => rfl
    | some o => exact absurd (Heap.lt_size z) (Nat.lt_irrefl _)
  have at_ := (N' _ (List.mem_cons_self ..)).1
  have keep : ∀ b ob, b ≠ X.env.locals → s.heap.get? b = some ob → h'.get? b = some ob := fun b ob hb e => by
    cases z : X.base.get? b with
    | some o' =>
      have := I.bk b o' z
      rw [e] at this
      cases this
      exact F'.keep b ob z
    | none => exact (N' (b, ob) (List.mem_cons_of_mem _ (mem_allNews hb z e))).1
  have rv : Vals ((Txt.split z y).map V.str) (strValues l) := by
    rw [← hl]
    exact vals_strs
  have ll : (Txt.split z y).length ≤ z.length + 2 := by
    have := len_le_of_split hl
    rw [← hl, List.length_map]
    exact this
  obtain ⟨z1, I1⟩ := I.byNewsL (tk := k) (zs := (Txt.split z y).map V.str) F.ns F'.ns keep hD (by rw [List.length_map]; omega) rv at_
  exact ⟨.ref _, _, I1, rfl, q _ z1⟩
end
end L2

set_option maxHeartbeats 4000000
namespace L2
open PySem PySem.Spec PyProof.Rows PySem.W
section
variable {prog : Program} {w : World} {A : Around} {E : Value → Shared → Prop} {s : Shared}
end
end L2

set_option maxHeartbeats 4000000
namespace L2
open PySem PySem.Spec PyProof.Rows PySem.W
section
variable {prog : Program} {w : World} {A : Around} {E : Value → Shared → Prop} {s : Shared}
end
end L2

set_option maxHeartbeats 4000000
namespace L2
open PySem PySem.Spec PyProof.Rows PySem.W
section
variable {prog : Program} {w : World} {A : Around} {E : Value → Shared → Prop} {s : Shared}
end
section
variable {X : Cx}
end
end L2

set_option maxHeartbeats 4000000
namespace L2
open PySem PySem.Spec PyProof.Rows
section
variable {X : Cx}
end
end L2

set_option maxHeartbeats 4000000
namespace L2
open PySem PySem.Spec PyProof.Rows
section
variable {X : Cx}
end
end L2

set_option maxHeartbeats 4000000
namespace L2
open PySem PySem.Spec PyProof.Rows
section
variable {X : Cx}
end
end L2

set_option maxHeartbeats 4000000
namespace L2
open PySem PySem.Spec PyProof.Rows
section
variable {X : Cx} {NB : List Str} {n : Nat} {js : List Nat} {scope : Scope} {cl : List (Str × Addr)}
/-- x = [..]: the name is bound while the block's frame still stands -/
theorem ps_setC {elt tg iter : Expr} {ifs : List Expr} {pos spos py : Pos} {y : Str} {ix : Nat} {wi : TI} {g : TG} {tc : TT} {te : TE} (hN : X.N.Nodup) (hiy : X.N[ix]? = some y) (hxy : Loc X.env.scope y) (hk : scope.kind = .function) (hcell : ∀ x ∈ scope.names, x.2 ≠ .cell)
    (hnames : ∀ x ∈ scope.names, x.2 = .local → scope.names.lookup x.1 = some .local) (hc : X.calm = true) (T : Takes X NB n js scope cl) (hi : PI X tg iter wi)
    (hg : ∀ C s H fp pn, PG (X.blkF NB scope cl C s H fp pn) tg g) (ht : ∀ C s H fp pn, PTs (X.blkF NB scope cl C s H fp pn) ifs tc) (he : ∀ C s H fp pn, PE (X.blkF NB scope cl C s H fp pn) elt te)
    (hsw : swapsWith (.ListComp elt [⟨tg, iter, ifs, 0⟩] scope pos) (some (.Name y py)) spos.line X.env = pure true := by rfl)
    (hf : X.fn y = true ∨ X.env.scope.names.lookup y = some .local := by first | exact .inl rfl | exact .inr rfl | assumption)
    (hs : ∀ x, foldedSetIterable iter X.env x = pure x := by intro _; rfl) : PS X (.Assign [.Name y py] (.ListComp elt [⟨tg, iter, ifs, 0⟩] scope pos) spos) (tAsg (tCompF n js wi g tc te) (gName ix)) := by
  intro pins s σ H D I h
  rw [exec_Assign_Name_used _ _ _ _ hsw]
  refine wpAny_bind (wpAny_standAt (wpAny_bind ?_))
  show wpAny _ X.A (do let _ ← comprehension (.ListComp elt [⟨tg, iter, ifs, 0⟩] scope pos) scope X.env _ (newList []) false (eval iter X.env) (some (assign (.Name y py) X.env))) _ _ s
  refine wpAny_bind (wpAny_mono (wpAny_comprehension_free (use := some (assign (.Name y py) X.env)) (Q := fun _ s' => SP X pins D .next s') rfl hs T.clo hk hnames (thn (hi pins s σ H _ I h) fun v s1 h1 => thn h1 fun itv s2 h2 => ?_)) (fun _ s' hq => wpAny_pure (wpAny_pure hq)) fun _ _ e => e)
  obtain ⟨it, fp, tn, J, H2, rfl, I2, U, st2, f2, h2⟩ := h2
  have lt2 : ∀ b ∈ fp, b < s2.heap.objs.size := fun b hb => by
    obtain ⟨o, q, _⟩ := U.obj 0 _ st2 b hb
    exact Heap.lt_size q
  refine wpAny_newObj_type ?_
  have hz : H2 s2.heap.objs.size = none := I2.hok.fresh (Nat.le_refl _)
  obtain ⟨W, ⟨m0, w0⟩, turn⟩ := h2 s2.heap.objs.size hz
  have I3 : Inv X pins σ (upd H2 s2.heap.objs.size (.lst [])) { s2 with heap := s2.heap.push { cls := .type "list", dict := none, data := .seq ([] : List Value).toArray } } :=
    I2.laid (t' := s2.toks) (fun b o q => Heap.get?_push_of_some _ q) (Nat.le_refl _) ⟨Nat.zero_le _, [], 0, .nil, Heap.get?_push_size _ rfl⟩
  generalize hs3 : ({ s2 with heap := s2.heap.push { cls := .type "list", dict := none, data := .seq ([] : List Value).toArray } } : Shared) = s3 at I3 ⊢
  have ups3 : ∀ b o, s2.heap.get? b = some o → s3.heap.get? b = some o := fun b o q => by rw [← hs3]; exact Heap.get?_push_of_some _ q
  have f3 : ∀ b ∈ fp, FpOk X pins (upd H2 s2.heap.objs.size (.lst [])) b := fun b hb => ⟨by rw [upd_ne (Nat.ne_of_lt (lt2 b hb))]; exact (f2 b hb).1, (f2 b hb).2⟩
  have lt3 : ∀ b ∈ fp, b < s3.heap.objs.size := fun b hb => by
    obtain ⟨o, q, _⟩ := U.obj 0 _ st2 b hb
    exact Heap.lt_size (ups3 b o q)
  refine wpAny_newFunctionEnv hcell (by intro y hy; simp at hy) (fun h4 hn4 hs4 => ?_) hk
  have keep4 : ∀ b o, s3.heap.get? b = some o → h4.get? b = some o := fun b o q => (hs4.2 b (Nat.ne_of_lt (Heap.lt_size q))).trans (Heap.get?_push_of_some _ q)
  have I4 := blkF_inv (tk := s3.toks + ([] : List (Str × Value)).length) I3 hk T f3 lt3 hn4 keep4
  have st4 : tn 0 h4 := U.keep _ _ _ st2 fun b hb o q => keep4 b o (ups3 b o q)
  have fpY : ∀ {H' : Hp}, (∀ b ∈ fp, H' b = none) → ∀ b ∈ fp, FpOk (X.blkF NB scope cl s3.heap.objs.size s3 (upd H2 s2.heap.objs.size (.lst [])) fp (X.pn ++ pins)) [] H' b := fun hn b hb => by
    obtain ⟨g0, g1, g2, g3, g4, g5⟩ := f3 b hb
    exact ⟨hn b hb, Nat.ne_of_lt (lt3 b hb), fun z => (List.mem_cons.mp (I3.stkSub b z)).elim g1 g2, .inl hb, fun x c q => g4 x c (T.sub x c q), fun p hp => g5 p (by simpa using hp)⟩
  have loop : ∀ s5 : Shared, s5 = { s3 with heap := h4, toks := s3.toks + ([] : List (Str × Value)).length } → codeAny (model X.prog X.w) X.A (.compLoop (.ListComp elt [⟨tg, iter, ifs, 0⟩] scope pos) 0 (.ref it) (.ref s2.heap.objs.size) (compEnvC scope cl s3.heap.objs.size X.env))
      (compPost (model X.prog X.w) X.A X.xe (some (assign (.Name y py) X.env)) (fun _ s' => SP X pins D .next s') (.ref s2.heap.objs.size) s3.heap.objs.size) s5 := by
    rintro s5 rfl
    refine codeAny_loop rfl (fun k s' => ∃ i ys H', Inv (X.blkF NB scope cl s3.heap.objs.size s3 (upd H2 s2.heap.objs.size (.lst [])) fp (X.pn ++ pins)) [] (bare0 n js σ) H' s' ∧ tn i s'.heap ∧ (∀ b ∈ fp, H' b = none) ∧ W i k ys H')
      (fun k s6 hI => ?_) m0 ⟨0, [], _, I4, st4, fun b hb => (f3 b hb).1, w0⟩
    obtain ⟨i, ys, H6, I6, st6, fr6, w6⟩ := hI
    show wpAny _ _ ((compTurn (.ListComp elt [⟨tg, iter, ifs, 0⟩] scope pos) 0 (.ref it) (.ref s2.heap.objs.size) (compEnvC scope cl s3.heap.objs.size X.env)).onRaise (fun x => do noteFrame x (compEnvC scope cl s3.heap.objs.size X.env); theTreesLotGoes x)) _ _ s6
    refine wpAny_noted ?_
    rw [compTurn_list]
    refine wpAny_bind (wpAny_standAt (wpAny_bind ?_))
    obtain ⟨hacc, alt⟩ := turn i k ys H6 w6
    rcases alt with ⟨stop, q⟩ | ⟨go, step⟩
    · refine thn (U.done (X.blkF NB scope cl s3.heap.objs.size s3 (upd H2 s2.heap.objs.size (.lst [])) fp (X.pn ++ pins)) rfl rfl rfl hc i [] s6 _ H6 _ I6 (fpY fr6) st6 stop) fun r s7 ⟨hr, I7⟩ => ?_
      subst hr
      obtain ⟨m, hm, _⟩ := I7.loc
      have I7X : Inv X pins σ H6 s7 := blkF_back (h2 := s7.heap) I3 f3 lt3 I7 ⟨rfl, fun _ _ => rfl⟩
      have H6C : H6 s3.heap.objs.size = none := I7.free
      have fpC := I3.fpOk (H' := H6) (Nat.le_refl _) H6C
      refine wpAny_pure ?_
      show wpAny _ _ (assign (.Name y py) X.env (.ref s2.heap.objs.size)) _ _ _
      refine wpAny_assign_Name (store_ok2 I7X hN hiy hxy (v := .ref s2.heap.objs.size) rfl (fun s8 I8 hsame => ?_) hf)
      obtain ⟨a, hsa, ha⟩ := hsame
      have neC : s3.heap.objs.size ≠ a := by
        rcases ha with rfl | ha
        · exact fpC.2.1
        · exact fun z => fpC.2.2.2.2.1 _ _ ha z.symm
      refine ⟨m, hm.sameBut hsa neC, fun h9 hsb => ⟨_, H6, ?_, q⟩⟩
      refine I8.call' (s' := { s8 with heap := h9 }) (ch := [s3.heap.objs.size]) rfl ⟨fun b o q n hb he => (hsb.2 b (fun z => he (by simp [z]))).trans q, fun b o q n hb he => ⟨o.slots, (hsb.2 b (fun z => he (by simp [z]))).trans q⟩, fun _ _ _ n _ => n, fun b o q he => ⟨o, (hsb.2 b (fun z => he (by simp [z]))).trans q⟩, fun _ _ q => q, fun _ _ _ q => q, fun _ ps q => ⟨#[], by rw [q]; simp⟩⟩ (fun b o q => ?_) I8.bare fun b hb => ?_
      · refine (I8.hok b o q).stay (fun c w' hc r => (hsb.2 c ?_).trans r) (fun _ r => r) fun _ _ r => r
        rintro rfl
        rcases hc with rfl | hc
        · rw [H6C] at q; cases q
        · rw [H6C] at hc; cases hc
      · have e : b = s3.heap.objs.size := by simpa using hb
        subst e
        exact ⟨fpC.2.2.2.1, fpC.2.1, fpC.2.2.2.2.1, fpC.2.2.2.2.2⟩
    · refine thn (U.item (X.blkF NB scope cl s3.heap.objs.size s3 (upd H2 s2.heap.objs.size (.lst [])) fp (X.pn ++ pins)) rfl rfl rfl hc i [] s6 _ H6 _ I6 (fpY fr6) st6 go) fun r s7 ⟨u, hr, h7⟩ => ?_
      subst hr
      refine wpAny_bind (thn h7 fun _ s8 ⟨x, H8, I8, r8, y8, st8, fr8⟩ => ?_)
      have I8' := I8.pinned (fpY fr8) (U.obj _ _ st8)
      have gp : ∀ {σ9 : St} {H9 : Hp} {s9 : Shared}, Inv (X.blkF NB scope cl s3.heap.objs.size s3 (upd H2 s2.heap.objs.size (.lst [])) fp (X.pn ++ pins)) ([] ++ pinsAt fp s8.heap) σ9 H9 s9 → tn (i + 1) s9.heap ∧ ∀ b ∈ fp, H9 b = none := fun I9 =>
        ⟨U.keep _ _ _ st8 fun b hb o e => (I9.pin (b, o) (List.mem_append_right _ (List.mem_append_right _ (mem_pinsAt hb e)))).1, fun b hb => by
          obtain ⟨o, e, d⟩ := U.obj _ _ st8 b hb
          exact (I9.pin (b, o) (List.mem_append_right _ (List.mem_append_right _ (mem_pinsAt hb e)))).2.1⟩
      have wk : ∀ {σ9 : St} {H9 : Hp} {s9 : Shared}, σ9.drop n = (bare0 n js σ).drop n → Inv (X.blkF NB scope cl s3.heap.objs.size s3 (upd H2 s2.heap.objs.size (.lst [])) fp (X.pn ++ pins)) ([] ++ pinsAt fp s8.heap) σ9 H9 s9 → Inv (X.blkF NB scope cl s3.heap.objs.size s3 (upd H2 s2.heap.objs.size (.lst [])) fp (X.pn ++ pins)) [] (bare0 n js σ) H9 s9 := fun {σ9 H9 s9} hd I9 =>
        I9.unpinned.weak (by rw [bare0_len T, I9.len]) fun k v z => by
          obtain ⟨k', j, rfl, _, _⟩ := bare0_at z
          have e := congrArg (fun l => l[k']?) hd
          simp only [List.getElem?_drop] at e
          rw [e]
          exact z
      refine wpAny_bind (wpAny_mono (hg _ _ _ _ _ _ s8 _ H8 x u _ I8' r8 (step x H8 y8)) (fun _ s9 hq => ?_) fun _ _ z => z.elim)
      obtain ⟨σ9, H9, I9, hd9, q9⟩ := hq
      refine wpAny_bind (wpAny_mono (ht _ _ _ _ _ _ s9 σ9 H9 _ I9 q9) (fun ok s10 hq => ?_) fun _ _ z => z.elim)
      obtain ⟨H10, I10, q10⟩ := hq
      cases ok with
      | false =>
        rw [if_neg (by simp)] at q10
        obtain ⟨m', hm', w10⟩ := q10
        exact wpAny_pure ⟨rfl, m', hm', i + 1, ys, H10, wk hd9 I10, (gp I10).1, (gp I10).2, w10⟩
      | true =>
        rw [if_pos rfl] at q10
        refine wpAny_bind (wpAny_bind (wpAny_mono (he _ _ _ _ _ _ s10 σ9 H10 _ I10 q10) (fun y s11 hq => ?_) fun _ _ z => z.elim))
        obtain ⟨yv, H11, I11, ry, ha11, hl11, m', hm', w11⟩ := hq
        have mt := mt_append (X := X.blkF NB scope cl s3.heap.objs.size s3 (upd H2 s2.heap.objs.size (.lst [])) fp (X.pn ++ pins)) ([] ++ pinsAt fp s8.heap) s11 σ9 H11 (.ref s2.heap.objs.size) [yv] (.ref s2.heap.objs.size) [y] (fun _ H' => W (i + 1) m' (ys ++ [yv]) H') I11 rfl (.cons ry .nil) ⟨_, ys, yv, rfl, rfl, ha11, hl11, w11⟩
        refine wpAny_bind (wpAny_mono mt (fun _ s12 hq => ?_) fun _ _ z => z.elim)
        obtain ⟨v12, H12, I12, _, w12⟩ := hq
        exact wpAny_pure (wpAny_pure ⟨rfl, m', hm', i + 1, _, H12, wk hd9 I12, (gp I12).1, (gp I12).2, w12⟩)
  exact codeAny_compStart_list (loop _ rfl) (U.self _ 0 _ _ _ st4 (loop _ rfl))
end
end L2

set_option maxHeartbeats 4000000
namespace L2
open PySem PySem.Spec PyProof.Rows PySem.W
section
variable {X : Cx}
end
end L2

set_option maxHeartbeats 4000000
namespace L2
open PySem PySem.Spec PyProof.Rows PySem.W
section
variable {X : Cx}
end
end L2

set_option maxHeartbeats 4000000
namespace L2
open PySem PySem.Spec PyProof.Rows PySem.W Builtin
section
variable {K : Frag} {x C : Addr} {prog : Program} {w : World} {A : Around} {E : Value → Shared → Prop} {s : Shared}
end
section
variable {X : Cx}
end
end L2

set_option maxHeartbeats 4000000
namespace L2
open PySem PySem.Spec PyProof.Rows PySem.W
section
variable {X : Cx}
end
end L2

set_option maxHeartbeats 4000000
namespace L2
open PySem PySem.Spec PyProof.Rows PySem.W
section
variable {X : Cx} {tg : Expr}
end
end L2

set_option maxHeartbeats 4000000
namespace L2
open PySem PySem.Spec PyProof.Rows PySem.W
section
variable {prog : Program} {w : World} {A : Around} {E : Value → Shared → Prop} {s : Shared}
end
end L2

set_option maxHeartbeats 4000000
namespace L2
open PySem PySem.Spec PyProof.Rows PySem.W
section
variable {prog : Program} {w : World} {A : Around} {E : Value → Shared → Prop} {s : Shared}
end
section
variable {X : Cx}
end
end L2

set_option maxHeartbeats 4000000
namespace L2
open PySem PySem.Spec PyProof.Rows PySem.W
section
variable {prog : Program} {w : World} {A : Around} {E : Value → Shared → Prop} {s : Shared}
end
end L2

set_option maxHeartbeats 4000000
namespace L2
open PySem PySem.Spec PyProof.Rows PySem.W
section
variable {prog : Program} {w : World} {A : Around} {E : Value → Shared → Prop}
end
end L2

set_option maxHeartbeats 4000000
namespace L2
open PySem PySem.Spec PyProof.Rows PySem.W
section
variable {X : Cx}
end
end L2

set_option maxHeartbeats 4000000
namespace L2
open PySem PySem.Spec PyProof.Rows PySem.W
/-! ### texts: x[a:b], startswith, int(x), for c in x -/
section
variable {X : Cx}
def rSlS : V → Option Int → Option Int → Hp → VK → Prop := fun x lo hi H Q => ∃ z, x = .str z ∧ z.length ≤ sizeLine ∧ Q (.str (Txt.slice z lo hi)) H
theorem sl_str : SlR X rSlS := by
  intro pins s σ H x v vl vu lo hi sl Q I rx hs pl pu h
  obtain ⟨z, rfl, hz, q⟩ := h
  obtain ⟨t, rfl⟩ := rx
  refine ⟨"str", _, F.slot_str_getitem.lookup, typeIs_str _ _ _, ?_⟩
  have fin : ∀ t' k, EP X pins σ Q (.str (Txt.slice z lo hi) t') { s with toks := k } := fun t' k => ⟨.str _, H, I.tok _, ⟨_, rfl⟩, q⟩
  have ln : (Txt.slice z lo hi).length ≤ sizeLine := Nat.le_trans (Txt.slice_le z _ _) hz
  obtain ⟨o, h1, h2, h3⟩ := hs
  cases pl with
  | none =>
    cases pu with
    | none => exact wpAny_getItem_str_slice (l := none) (u := none) (st := none) ⟨o, h1, h2, h3⟩ rfl (post_val_or_str ⟨ln, fin⟩)
    | int j u => exact wpAny_getItem_str_slice (l := none) (u := some (j, u)) (st := none) ⟨o, h1, h2, h3⟩ rfl (post_val_or_str ⟨ln, fin⟩)
  | int i u' =>
    cases pu with
    | none => exact wpAny_getItem_str_slice (l := some (i, u')) (u := none) (st := none) ⟨o, h1, h2, h3⟩ rfl (post_val_or_str ⟨ln, fin⟩)
    | int j u => exact wpAny_getItem_str_slice (l := some (i, u')) (u := some (j, u)) (st := none) ⟨o, h1, h2, h3⟩ rfl (post_val_or_str ⟨ln, fin⟩)
def rStarts : V → List V → Hp → VK → Prop := fun x vs H Q => ∃ z y, x = .str z ∧ vs = [.str y] ∧ Q (.bl (Txt.startswith z y)) H
theorem mt_starts : MtM X "str.startswith" rStarts := by
  intro pins s σ H x vs v us Q I rx rv h
  obtain ⟨z, y, rfl, rfl, q⟩ := h
  obtain ⟨t, rfl⟩ := rx
  obtain ⟨u, rfl, t', rfl⟩ := rv.one
  exact call_meets F.slot_str_startswith (typeIs_str _ _ _) F.entry_str_startswith (F.args_str_startswith_2 _ _) (gives_str_startswith z y t t').meets ⟨.bl _, H, I, rfl, q⟩
def rIntT : List V → Hp → VK → Prop := fun vs H Q => ∃ x n, vs = [.str x] ∧ PySem.intText? x = some n ∧ x.length ≤ 640 ∧ Q (.int n) H
theorem call_intT : CallR X (.type "int") rIntT := by
  intro pins s σ H xs us Q I rv h
  obtain ⟨x, n, rfl, hn, hl, q⟩ := h
  obtain ⟨u, rfl, t, rfl⟩ := rv.one
  exact KIN.call_text hn hl ⟨.int _, H, I.tok _, ⟨_, rfl⟩, q⟩
/-- the signs of a text -/
def Its (x : Str) : It := ⟨fun i _ => i < x.length, fun i H v H' => H' = H ∧ ∃ c, x.cps[i]? = some c ∧ v = .str ⟨#[c]⟩, fun i _ => x.length ≤ i⟩
theorem turn_str {P : Program} {w : World} {K : PySem.W.Frag} {tg : Expr} (x : Str) (t : Tok) (it : Addr) : Turn P w K tg (Its x) [it] it (fun i h => h.IsStrIter it "str_ascii_iterator" x t i) where
  mem := by simp
  obj := fun i h st b hb => by
    have e : b = it := by simpa using hb
    subst e
    obtain ⟨o, e, c, d⟩ := st
    exact ⟨o, e, fun v z => by rw [d] at z; cases z⟩
  keep := fun i h h' st k => by
    obtain ⟨o, e, c, d⟩ := st
    exact ⟨o, k it (by simp) o e, c, d⟩
  item := by
    intro X hP hw hK hc i pins s σ H E I hf st hg
    subst hP hw hK
    have hi : i < x.cps.size := hg
    obtain ⟨f0, f1, f2, f3, f4, f5⟩ := hf it (by simp)
    refine wpAny_pyNext_ascii_item st (Array.getElem?_eq_getElem hi) fun h' st' sb => ?_
    have I1 : Inv X pins σ H { s with heap := h', toks := s.toks + 1 } := I.turned (fun b o hb e => (sb.2 b hb).trans e) f0 f1 f3 f4 f5
    obtain ⟨oi, ei, ci, di⟩ := id st'
    exact ⟨_, rfl, go_of (s := { s with heap := h', toks := s.toks + 1 }) ei ci di (by decide) ⟨.str _, H, I1, ⟨_, rfl⟩, ⟨rfl, _, Array.getElem?_eq_getElem hi, rfl⟩, st', fun b hb => (hf b hb).1⟩⟩
  done := by
    intro X hP hw hK hc i pins s σ H E I hf st hg
    subst hP hw hK
    have hi : x.cps.size ≤ i := hg
    obtain ⟨f0, f1, f2, f3, f4, f5⟩ := hf it (by simp)
    exact wpAny_pyNext_ascii_end (I.ok.hd hc) st (Array.getElem?_eq_none hi) fun h' eb => ⟨rfl, I.turned (t' := s.toks) (fun b o hb e => eb b o hb e) f0 f1 f3 f4 f5⟩
  self := fun _ _ _ _ _ st h => wpAny_pyIter_striter_ascii st h
def iStr (tl : TE) : TI := fun σ H R => tl σ H fun v H1 => ∃ x, v = .str x ∧ x.cps.all (· < 128) = true ∧ R (Its x) H1
theorem pi_str {tg l : Expr} {tl : TE} (hl : PE X l tl) : PI X tg l (iStr tl) := by
  intro pins s σ H R I h
  refine thn (hl pins s σ H _ I h) fun v s1 ⟨y, H1, I1, r1, q1⟩ => ?_
  obtain ⟨x, rfl, ha, q⟩ := q1
  obtain ⟨t, rfl⟩ := r1
  refine wpAny_pyIter_ascii ha ?_
  refine ⟨s1.heap.objs.size, [s1.heap.objs.size], _, _, H1, rfl, I1.kept (t' := s1.toks) fun b o e => Heap.get?_push_of_some _ e, turn_str x t _, ⟨_, Heap.get?_push_size _ rfl, rfl, rfl⟩, fun b hb => ?_, q⟩
  have e : b = s1.heap.objs.size := by simpa using hb
  subst e
  exact I1.fpOk (Nat.le_refl _) (I1.hok.fresh (Nat.le_refl _))
end
end L2

set_option maxHeartbeats 4000000
namespace L2
open PySem PySem.Spec PyProof.Rows PySem.W
section
variable {X : Cx}
/-- 0, 2, .. (n of them) -/
def Itr2 (n : Nat) : It := ⟨fun i _ => i < n, fun i H x H' => H' = H ∧ x = .int (2 * (i : Int)), fun i _ => n ≤ i⟩
theorem turn_range2 {P : Program} {w : World} {K : PySem.W.Frag} {tg : Expr} (it : Addr) (n : Nat) : Turn P w K tg (Itr2 n) [it] it (fun i h => IsRangeIter h it (0 + (i : Nat) * 2) ((n : Int) - (i : Nat)) 2) where
  mem := by simp
  obj := fun i h st b hb => by
    have e : b = it := by simpa using hb
    subst e
    exact ⟨_, st, fun v z => by
      have z' : Data.fields _ = Data.cell v := z
      cases z'⟩
  keep := fun i h h' st k => k it (by simp) _ st
  item := by
    intro X hP hw hK hc i pins s σ H E I hf st hg
    subst hP hw hK
    obtain ⟨f0, f1, f2, f3, f4, f5⟩ := hf it (by simp)
    have W := Walks.range (prog := X.prog) (w := X.w) (I.ok.hd hc) it 0 2 n
    refine W.item i s _ _ hg st fun v h' tk hv st' kk => ?_
    obtain ⟨t, rfl⟩ := hv
    have I1 : Inv X pins σ H { s with heap := h', toks := tk } := I.turned (fun b o hb e => kk b o (by simpa using hb) e) f0 f1 f3 f4 f5
    refine ⟨_, rfl, go_of (s := { s with heap := h', toks := tk }) (n := "range_iterator") st' rfl rfl (by decide) ⟨.int (2 * (i : Int)), H, I1, ⟨t, ?_⟩, ⟨rfl, rfl⟩, st', fun b hb => (hf b hb).1⟩⟩
    rw [show (0 : Int) + (i : Int) * 2 = 2 * (i : Int) by omega]
  done := by
    intro X hP hw hK hc i pins s σ H E I hf st hg
    subst hP hw hK
    obtain ⟨f0, f1, f2, f3, f4, f5⟩ := hf it (by simp)
    exact wpAny_pyNext_range_end (I.ok.hd hc) st (by have : n ≤ i := hg; omega) fun h' eb => ⟨rfl, I.turned (t' := s.toks) (fun b o hb e => eb b o hb e) f0 f1 f3 f4 f5⟩
  self := fun _ _ _ _ _ st h => wpAny_pyIter_rangeiter st h
theorem size_two (n : Nat) : Builtin.Range.rangeSize 0 (2 * (n : Int)) 2 = (n : Int) := by
  unfold Builtin.Range.rangeSize
  rw [if_pos (by decide)]
  split <;> omega
theorem small_two {n : Nat} (h : n ≤ 1000) : Builtin.Range.small 0 (2 * (n : Int)) 2 = true := by
  unfold Builtin.Range.small
  rw [size_two]
  unfold Builtin.Range.rangeFitsLong
  rw [if_pos (by decide : (2 : Int) > 0), decide_eq_true (by decide : -2 ^ 63 ≤ (0 : Int)), decide_eq_true (by decide : (0 : Int) < 2 ^ 63), decide_eq_true (by omega : -2 ^ 63 ≤ 2 * (n : Int)), decide_eq_true (by omega : 2 * (n : Int) < 2 ^ 63), decide_eq_true (by decide : -2 ^ 63 ≤ (2 : Int)), decide_eq_true (by decide : (2 : Int) < 2 ^ 63),
    decide_eq_true (by omega : -2 ^ 63 ≤ (n : Int)), decide_eq_true (by omega : (n : Int) < 2 ^ 63), decide_eq_true (by omega : -2 ^ 63 ≤ 2 * (n : Int) + (2 - 1)), decide_eq_true (by omega : 2 * (n : Int) + (2 - 1) < 2 ^ 63)]
  simp
/-- for x in range(0, 2 n, 2) -/
def iRng3 (ta : TA) : TI := fun σ H R => ta σ H fun vs H1 => ∃ n : Nat, vs = [.int 0, .int (2 * (n : Int)), .int 2] ∧ n ≤ 1000 ∧ R (Itr2 n) H1
theorem pi_range3 {tg a b c : Expr} {ta : TA} {p pos : Pos} (hg : Gl X "range") (hm : X.mg "range" = none) (ha : PA X [a, b, c] ta) (hs : starEach [a, b, c] X.env = [(false, eval a X.env), (false, eval b X.env), (false, eval c X.env)] := by rfl) (hs2 : starEach [b, c] X.env = [(false, eval b X.env), (false, eval c X.env)] := by rfl) :
    PI X tg (.Call (.Name "range" p) [a, b, c] [] pos) (iRng3 ta) := by
  intro pins s σ H R I h
  refine Call_ (ld_blt I hg hm boot_range (PyProof.Rows.callWith_type1 (thn (ha pos pins s σ H _ I h) fun us s1 ⟨vs, H1, I1, r1, q1⟩ => ?_) (by rw [hs, hs2]) (by rw [hs2]; rfl)))
  obtain ⟨n, e, hn, q⟩ := q1
  subst e
  cases r1 with
  | cons r rr =>
    cases rr with
    | cons r' rr =>
      cases rr with
      | cons r'' rr =>
        cases rr
        obtain ⟨t, rfl⟩ := r
        obtain ⟨t', rfl⟩ := r'
        obtain ⟨t'', rfl⟩ := r''
        refine call_range_3 (by decide) ?_ (Or.inl (PyProof.noPylong_small (by omega)))
        refine wpAny_pyIter_range (IsRange.new ..) (small_two hn) ?_
        have I2 : Inv X pins σ H1 { s1 with heap := s1.heap.push { cls := .type "range", data := .fields #[.int 0 t, .int (2 * (n : Int)) t', .int 2 t''] } } := I1.kept fun b o e => Heap.get?_push_of_some _ e
        refine ⟨(s1.heap.push { cls := .type "range", data := .fields #[.int 0 t, .int (2 * (n : Int)) t', .int 2 t''] }).objs.size, [(s1.heap.push { cls := .type "range", data := .fields #[.int 0 t, .int (2 * (n : Int)) t', .int 2 t''] }).objs.size], _, _, H1, rfl,
          I2.kept (t' := s1.toks) fun b o e => Heap.get?_push_of_some _ e, turn_range2 _ n, ?_, fun b hb => ?_, q⟩
        · show IsRangeIter _ _ (0 + ((0 : Nat) : Int) * 2) ((n : Int) - ((0 : Nat) : Int)) 2
          have e2 : ((n : Int) - ((0 : Nat) : Int)) = Builtin.Range.rangeSize 0 (2 * (n : Int)) 2 := by rw [size_two]; omega
          rw [e2]
          exact Heap.get?_push_size _ rfl
        · have e : b = (s1.heap.push { cls := .type "range", data := .fields #[.int 0 t, .int (2 * (n : Int)) t', .int 2 t''] }).objs.size := by simpa using hb
          subst e
          exact I2.fpOk (Nat.le_refl _) (I2.hok.fresh (Nat.le_refl _))
/-- isinstance(x, (int, str)) of an int, of a text -/
def rIsiIS (K : PySem.W.Frag) : List V → Hp → VK → Prop := fun xs H Q => ∃ (x : V) (tp : Addr) (b : Bool), xs = [x, .ref tp] ∧ H tp = some (.tup [.ty "int", .ty "str"]) ∧ ((∃ i, x = .int i ∧ PySem.W.kitAny K (.type "int") [.type "int", .type "str"] = some b) ∨ ∃ y, x = .str y ∧ PySem.W.kitAny K (.type "str") [.type "int", .type "str"] = some b) ∧ Q (.bl b) H
theorem call_isiIS : CallR X (.builtin "isinstance") (rIsiIS X.K) := by
  intro pins s σ H xs us Q I r h
  obtain ⟨x, tp, b, rfl, ht, hx, q⟩ := h
  obtain ⟨u, v, rfl, ru, rv⟩ := vals2 r
  cases rv
  obtain ⟨its, rv, ⟨o, ho, hc, n, hd⟩, hz⟩ := I.tuple (SqT.of ht)
  have ei : its = [.type "int", .type "str"] := by
    cases rv with
    | cons r1 rv =>
      cases rv with
      | cons r2 rv =>
        cases rv
        cases r1
        cases r2
        rfl
  subst ei
  obtain ⟨oc, od, odd, osl⟩ := o
  cases hc
  cases hd
  rcases hx with ⟨i, rfl, ek⟩ | ⟨y, rfl, ek⟩
  · obtain ⟨t, rfl⟩ := ru
    exact kia_tup kitx_int I.kIn True.intro ho ek (fun z => nomatch z) fun tk => ⟨.bl b, H, I.tok tk, rfl, q⟩
  · obtain ⟨t, rfl⟩ := ru
    exact kia_tup kitx_str I.kIn True.intro ho ek (fun z => nomatch z) fun tk => ⟨.bl b, H, I.tok tk, rfl, q⟩
end
end L2

set_option maxHeartbeats 4000000
namespace L2
open PySem PySem.Spec PyProof.Rows PySem.W
/-- the module's dict at d, of texts and ints -/
def TabK (P : Program) (w : World) (K : Frag) (d : Addr) (c : List (Str × Int)) : Prop := ∀ h, K.In h → StrTab P w h d (kdpD c)
theorem tabK_of {P : Program} {w : World} {K : Frag} {d : Addr} {c : List (Str × Int)} (e : KTD.tabLook KTD.flatLooks (fun b => K.lookup b) d (c.map fun p => (p.1, PyData.int p.2)) = true) (n : ((c.map fun p => (p.1, PyData.int p.2)).map (·.1)).Nodup)
    (q : KTD.hashesOf (fun b => K.lookup b) d = (c.map fun p => (p.1, PyData.int p.2)).map fun p => (PySem.strKind P w).hash p.1) : TabK P w K d c := fun h x => by
  have := kt_tab_in P w x e n q
  rw [List.map_map] at this
  exact this
section
variable {X : Cx} {e : Expr} {apos cpos p : Pos} {ty : TE}
def tTGet (c : List (Str × Int)) (ty : TE) : TE := fun σ H Q => ty σ H fun y H2 => ∃ k, y = .str k ∧ (kdpHas c k = true → Q (.int (kdpLook c k 0)) H2) ∧ (kdpHas c k = false → Q .non H2)
theorem pe_tget {x : Str} {d : Addr} {c : List (Str × Int)} (T : TabK X.prog X.w X.K d c) (hg : Gl X x) (hm : X.mg x = some (.ref d)) (he : PE X e ty) (m : M1 X (.Name x p) "get" apos e cpos) (hd : (x == ("__debug__" : Str)) = false := by decide) :
    PE X (.Call (.Attribute (.Name x p) "get" apos) [e] [] cpos) (tTGet c ty) := by
  intro pins s σ H Q I h
  refine wpAny_Call_method m.base m.few m.line PySem.F.plainAttrs_dict PySem.F.slot_dict_get PySem.F.type_dict_get (ld_glob I hg hm ?_ hd)
  obtain ⟨_, kvs, ⟨o, es, ep, ho, ex, _⟩, _⟩ := T s.heap I.kIn
  refine ⟨⟨o, ho, ex.1⟩, fun a e2 => ?_, ?_⟩
  · cases e2
    exact ⟨o, ho, ex.2.1⟩
  rw [m.trees]
  refine Calls.callWith_builtin rfl (Calls.evalArgs_plain (Calls.spliced_cons (thn (he pins s σ H _ I h) fun iv s2 ⟨y, H2, I2, ry, k, ey, q1, q2⟩ => Calls.spliced_nil ?_)))
  subst ey
  obtain ⟨t, rfl⟩ := ry
  exact kdp_get1 (T s2.heap I2.kIn) (fun hk t => ⟨.int _, H2, I2.tok _, ⟨_, rfl⟩, q1 hk⟩) fun hk => ⟨.non, H2, I2.tok _, rfl, q2 hk⟩
end
end L2

set_option maxHeartbeats 4000000
/-! texts by their signs -/
namespace Tm
open PySem PySem.StrLaws PyProof.Rows PySem.W
def sg (x : Str) : List Nat := x.cps.toList
theorem sg_ext {a b : Str} (h : sg a = sg b) : a = b := Str.ext' (Array.toList_inj.mp h)
theorem sg_app (a b : Str) : sg (a ++ b) = sg a ++ sg b := by unfold sg; rw [Str.cps_append, Array.toList_append]
theorem sg_len (a : Str) : (sg a).length = a.length := Array.length_toList
theorem sg_one (c : Nat) : sg ⟨#[c]⟩ = [c] := rfl
theorem cut_at {c : Nat} : ∀ {p q A B : List Nat}, c ∉ p → c ∉ q → p ++ c :: A = q ++ c :: B → p = q ∧ A = B
  | [], [], _, _, _, _, h => ⟨rfl, (List.cons.inj h).2⟩
  | [], y :: q, _, _, _, hq, h => absurd (by rw [(List.cons.inj h).1]; exact List.mem_cons_self) hq
  | x :: p, [], _, _, hp, _, h => absurd (by rw [← (List.cons.inj h).1]; exact List.mem_cons_self) hp
  | x :: p, y :: q, A, B, hp, hq, h => by
    obtain ⟨h1, h2⟩ := List.cons.inj h
    obtain ⟨e1, e2⟩ := cut_at (fun z => hp (List.mem_cons_of_mem _ z)) (fun z => hq (List.mem_cons_of_mem _ z)) h2
    exact ⟨by rw [h1, e1], e2⟩
theorem join_two (s x y : Str) (r : List Str) : Str.join s (x :: y :: r) = x ++ s ++ Str.join s (y :: r) := rfl
theorem join_inj {c : Nat} : ∀ {ps qs : List Str}, ps ≠ [] → qs ≠ [] → (∀ p ∈ ps, c ∉ sg p) → (∀ q ∈ qs, c ∉ sg q) → Str.join ⟨#[c]⟩ ps = Str.join ⟨#[c]⟩ qs → ps = qs
  | [], _, h, _, _, _, _ => absurd rfl h
  | _, [], _, h, _, _, _ => absurd rfl h
  | [p], [q], _, _, _, _, h => by
    rw [show p = q from h]
  | [p], q :: q2 :: r, _, _, hp, _, h => by
    have e := congrArg sg h
    rw [join_two, sg_app, sg_app, sg_one] at e
    refine absurd ?_ (hp p List.mem_cons_self)
    rw [show sg p = _ from e]
    simp
  | p :: p2 :: r, [q], _, _, _, hq, h => by
    have e := congrArg sg h
    rw [join_two, sg_app, sg_app, sg_one] at e
    refine absurd ?_ (hq q List.mem_cons_self)
    rw [show sg q = _ from e.symm]
    simp
  | p :: p2 :: r, q :: q2 :: r2, _, _, hp, hq, h => by
    have e := congrArg sg h
    rw [join_two, join_two, sg_app, sg_app, sg_app, sg_app, sg_one, List.append_assoc, List.append_assoc] at e
    obtain ⟨e1, e2⟩ := cut_at (hp p List.mem_cons_self) (hq q List.mem_cons_self) e
    have := join_inj (by simp) (by simp) (fun x hx => hp x (List.mem_cons_of_mem _ hx)) (fun x hx => hq x (List.mem_cons_of_mem _ hx)) (sg_ext e2)
    rw [sg_ext e1, this]
theorem split_ne (x : Str) (c : Nat) : Txt.split x ⟨#[c]⟩ ≠ [] := fun h => by
  have e := join_split x ⟨#[c]⟩
  rw [h] at e
  have h0 : x.length = 0 := by rw [← e]; rfl
  unfold Txt.split at h
  rw [if_pos (by rw [h0]; rfl)] at h
  cases h
theorem split_join {c : Nat} {ps : List Str} (h : ps ≠ []) (hp : ∀ p ∈ ps, c ∉ sg p) : Txt.split (Str.join ⟨#[c]⟩ ps) ⟨#[c]⟩ = ps :=
  join_inj (split_ne _ _) h (split_free _ c) hp (join_split _ _)
/-- the rows behind one another, each with its line feed -/
def cat : List Str → Str
  | [] => Str.empty
  | r :: t => r ++ ⟨#[10]⟩ ++ cat t
theorem cat_join : ∀ (rs : List Str) (z : Str), cat rs ++ z = Str.join ⟨#[10]⟩ (rs ++ [z])
  | [], z => by
    show Str.empty ++ z = z
    rw [Str.empty_append]
  | [r], z => by
    show r ++ ⟨#[10]⟩ ++ Str.empty ++ z = r ++ ⟨#[10]⟩ ++ z
    rw [Str.append_empty]
  | r :: s :: t, z => by
    have := cat_join (s :: t) z
    show r ++ ⟨#[10]⟩ ++ cat (s :: t) ++ z = r ++ ⟨#[10]⟩ ++ Str.join ⟨#[10]⟩ ((s :: t) ++ [z])
    rw [← this, Str.append_assoc]
theorem join_empty : ∀ (rs : List Str), Str.join Str.empty (rs.map fun r => r ++ ⟨#[10]⟩) = cat rs
  | [] => rfl
  | [r] => by
    show r ++ ⟨#[10]⟩ = r ++ ⟨#[10]⟩ ++ Str.empty
    rw [Str.append_empty]
  | r :: s :: t => by
    have := join_empty (s :: t)
    show (r ++ ⟨#[10]⟩) ++ Str.empty ++ Str.join Str.empty ((s :: t).map fun r => r ++ ⟨#[10]⟩) = r ++ ⟨#[10]⟩ ++ cat (s :: t)
    rw [this, Str.append_empty]
theorem split_rows {rs : List Str} {z : Str} (h : ∀ r ∈ rs, 10 ∉ sg r) (hz : 10 ∉ sg z) : Txt.split (cat rs ++ z) ⟨#[10]⟩ = rs ++ [z] := by
  rw [cat_join]
  refine split_join (by simp) fun p hp => ?_
  rcases List.mem_append.mp hp with hp | hp
  · exact h p hp
  · cases List.mem_singleton.mp hp
    exact hz
/-! ### words -/
def wdB (x : Str) : Bool := decide (1 ≤ x.length) && decide (x.length ≤ 30) && (sg x).all fun c => decide (33 ≤ c) && decide (c ≤ 126)
structure Wd (x : Str) : Prop where
  ne : 1 ≤ x.length
  le : x.length ≤ 30
  all : ∀ c ∈ sg x, 33 ≤ c ∧ c ≤ 126
theorem wd_iff {x : Str} : wdB x = true ↔ Wd x := by
  unfold wdB
  constructor
  · intro h
    simp only [Bool.and_eq_true, decide_eq_true_eq, List.all_eq_true] at h
    exact ⟨h.1.1, h.1.2, h.2⟩
  · intro h
    simp only [Bool.and_eq_true, decide_eq_true_eq, List.all_eq_true]
    exact ⟨⟨h.ne, h.le⟩, h.all⟩
theorem Wd.free {x : Str} (h : Wd x) {c : Nat} (hc : c < 33) : c ∉ sg x := fun z => by
  have := h.all c z
  omega
theorem Wd.ascii {x : Str} (h : Wd x) : x.cps.all (· < 128) = true := by
  rw [← Array.all_toList, List.all_eq_true]
  intro c hc
  have := h.all c hc
  exact decide_eq_true (by omega)
/-! ### numbers -/
def numT (i : Int) : Str := Str.ofString (toString i)
def digs (m : Nat) : List Nat := (Nat.toDigits 10 m).map Char.toNat
theorem num_pos {i : Int} (h : 0 ≤ i) : sg (numT i) = digs i.toNat := by
  obtain ⟨m, rfl⟩ := Int.eq_ofNat_of_zero_le h
  exact KIN.signs_num m
theorem num_neg {i : Int} (h : i < 0) : sg (numT i) = 45 :: digs (0 - i).toNat := by
  unfold numT sg
  rw [toString_neg h, signs_ofString, String.toList_append, List.map_append]
  have e := num_pos (i := 0 - i) (by omega)
  unfold numT sg at e
  rw [signs_ofString] at e
  rw [e]
  rfl
theorem digs_all (m : Nat) : ∀ c ∈ digs m, 48 ≤ c ∧ c ≤ 57 := fun c hc => by
  obtain ⟨ch, hch, e⟩ := List.mem_map.mp hc
  have r := digit_range (Nat.isDigit_of_mem_toDigits (by decide) (by decide) hch)
  rw [← e]
  exact r
theorem digs_ge (m : Nat) : 1 ≤ (digs m).length := by
  unfold digs
  rw [List.length_map]
  exact tDigits_len_ge 10 m
theorem digs_le {m : Nat} (h : m < 10 ^ 18) : (digs m).length ≤ 18 := by
  unfold digs
  rw [List.length_map]
  exact digits10_le (by decide) h
theorem digs_head (m : Nat) : ∀ c, (digs m)[0]? = some c → c = 48 → m = 0 := by
  induction m using Nat.strongRecOn with
  | _ m ih =>
    intro c hc e
    by_cases h : m < 10
    · unfold digs at hc
      rw [Nat.toDigits_of_lt_base h] at hc
      have : (Nat.digitChar m).toNat = c := Option.some.inj hc
      have k := KIN.digit_back m h
      rw [this, e] at k
      omega
    · have hm : m % 10 < 10 := Nat.mod_lt m (by decide)
      have t : Nat.toDigits 10 (m / 10) ++ Nat.toDigits 10 (m % 10) = Nat.toDigits 10 (10 * (m / 10) + m % 10) := Nat.toDigits_append_toDigits (by decide) (by omega) hm
      rw [Nat.div_add_mod] at t
      unfold digs at hc
      rw [← t, List.map_append] at hc
      have hl := digs_ge (m / 10)
      unfold digs at hl
      rw [List.getElem?_append_left (by omega)] at hc
      have := ih (m / 10) (by omega) c hc e
      omega
def Bs (i : Int) : Prop := -1000000000000000000 < i ∧ i < 1000000000000000000
theorem num_wd {i : Int} (h : Bs i) : Wd (numT i) := by
  obtain ⟨h1, h2⟩ := h
  have l := sg_len (numT i)
  by_cases z : 0 ≤ i
  · have e := num_pos z
    have g := digs_ge i.toNat
    have g2 := digs_le (m := i.toNat) (by omega)
    rw [e] at l
    refine ⟨by omega, by omega, fun c hc => ?_⟩
    rw [e] at hc
    have := digs_all _ c hc
    omega
  · have e := num_neg (i := i) (by omega)
    have g := digs_ge (0 - i).toNat
    have g2 := digs_le (m := (0 - i).toNat) (by omega)
    rw [e, List.length_cons] at l
    refine ⟨by omega, by omega, fun c hc => ?_⟩
    rw [e] at hc
    rcases List.mem_cons.mp hc with rfl | hc
    · omega
    · have := digs_all _ c hc
      omega
theorem num_len {m : Int} (z : 0 ≤ m) (h : Bs m) : 1 ≤ (numT m).length ∧ (numT m).length ≤ 18 := by
  have l := sg_len (numT m)
  rw [num_pos z] at l
  have g := digs_ge m.toNat
  have g2 := digs_le (m := m.toNat) (by have := h.2; omega)
  omega
theorem num_all {m : Int} (z : 0 ≤ m) : ∀ c ∈ sg (numT m), 48 ≤ c ∧ c ≤ 57 := by
  rw [num_pos z]
  exact digs_all _
theorem num_first {m : Int} (z : 0 ≤ m) : ∃ c, (sg (numT m))[0]? = some c ∧ (c = 48 → m = 0) := by
  rw [num_pos z]
  have g := digs_ge m.toNat
  refine ⟨(digs m.toNat)[0], List.getElem?_eq_getElem (by omega), fun e => ?_⟩
  have := digs_head m.toNat _ (List.getElem?_eq_getElem (by omega)) e
  omega
theorem num_nought : numT 0 = Str.ofString "0" := by decide +kernel
theorem num_reads {i : Int} (h : Bs i) : PySem.intText? (numT i) = some i := by
  have w := num_wd h
  have wl := w.le
  by_cases z : 0 ≤ i
  · have e := num_pos z
    have h3 := digs_ge i.toNat
    rw [intText_digits (x := numT i) (by rw [show (numT i).cps.toList = digs i.toNat from e]; exact digs_all _) (by
      rw [show (numT i).cps.toList = digs i.toNat from e]
      intro q
      rw [q] at h3
      exact absurd h3 (by decide)) (by omega)]
    rw [show (numT i).cps.toList = digs i.toNat from e]
    unfold digs
    rw [KIN.val_back, Int.toNat_of_nonneg z]
  · have e := num_neg (i := i) (by omega)
    have h3 := digs_ge (0 - i).toNat
    rw [intText_neg (x := numT i) e (digs_all _) (by
      intro q
      rw [q] at h3
      exact absurd h3 (by decide)) (by omega)]
    unfold digs
    rw [KIN.val_back]
    congr 1
    omega
theorem num_starts (i : Int) : Txt.startswith (numT i) ⟨#[45]⟩ = decide (i < 0) := by
  have k := subAt_one (numT i) 45 0
  by_cases z : i < 0
  · rw [decide_eq_true z]
    have h1 := k.mpr (by rw [show (numT i).cps.toList = _ from num_neg z]; rfl)
    unfold Txt.startswith
    rw [decide_eq_true h1.1, h1.2]
    rfl
  · rw [decide_eq_false z]
    refine Bool.eq_false_iff.mpr fun h => ?_
    unfold Txt.startswith at h
    rw [Bool.and_eq_true, decide_eq_true_eq] at h
    have h1 := k.mp h
    have e := num_pos (i := i) (by omega)
    rw [show (numT i).cps.toList = _ from e] at h1
    have := digs_all _ 45 (List.mem_of_getElem? h1)
    omega
theorem num_figs {i : Int} (h : i < 0) : Txt.slice (numT i) (some 1) none = numT (0 - i) := by
  have e := num_neg h
  have e2 := num_pos (i := 0 - i) (by omega)
  have l : (numT i).cps.toList.length = (digs (0 - i).toNat).length + 1 := by
    rw [show (numT i).cps.toList = _ from e, List.length_cons]
  have s := sliceText_from (x := numT i) (i := 1) ⟨by decide, by omega⟩
  refine (show Txt.slice (numT i) (some 1) none = _ from s).trans (sg_ext ?_)
  rw [e2]
  show (((numT i).cps.toList.drop (1 : Int).toNat).take (((numT i).cps.toList.length : Int) - 1).toNat) = _
  rw [l, show (numT i).cps.toList = _ from e]
  show (digs (0 - i).toNat).take _ = _
  exact List.take_of_length_le (by omega)
end Tm

namespace Lm
abbrev Ps := List (Int × Int)
/-- a work, and one in its short form -/
def Wk : Ps → Prop
  | [] => True
  | p :: t => p.1 < p.2 ∧ (∀ q ∈ t, p.2 ≤ q.1) ∧ Wk t
theorem Wk.lt : ∀ {t : Ps}, Wk t → ∀ q ∈ t, q.1 < q.2
  | _ :: _, ⟨h1, h2, h3⟩, q, hq => by
    rcases List.mem_cons.mp hq with rfl | hq
    · exact h1
    · exact Wk.lt h3 q hq

/-! ### merging -/

/-! ### without -/
/-! ### how many stretches -/

/-! ### how many places -/
open Classical in
noncomputable def ind (P : Int → Prop) (x : Int) : Int := if P x then 1 else 0
noncomputable def cnt (P : Int → Prop) (lo : Int) : Nat → Int
  | 0 => 0
  | n + 1 => cnt P lo n + ind P (lo + n)
end Lm

set_option maxHeartbeats 4000000
namespace Lt
open PySem L2 PySem.W

/-! ### the text by places -/
def top (i : Nat) : Stmt := PySem.Challenge.pw_lentwork_k35_books_read.main.body.getD i (.Pass ⟨0, 0, 0, 0⟩)
abbrev sRow : Stmt := top 14
abbrev sHead : Stmt := top 15
abbrev sLine : Stmt := top 16
abbrev sWell : Stmt := top 27
abbrev sDraw : Stmt := top 28
abbrev sFar : Stmt := top 29
abbrev sMake : Stmt := top 30
abbrev sLims : Stmt := top 31
abbrev sWord : Stmt := top 32
abbrev sFree : Stmt := top 33
abbrev sRow2 : Stmt := top 34
abbrev sHead2 : Stmt := top 35
abbrev sLine2 : Stmt := top 36
abbrev sBounds : Stmt := top 11
abbrev sIsNum : Stmt := top 17
abbrev sNum : Stmt := top 18
abbrev sNums : Stmt := top 19
abbrev sWords : Stmt := top 20
abbrev sPairs : Stmt := top 21
abbrev sRHead : Stmt := top 22
abbrev sRLine : Stmt := top 23
abbrev sRows : Stmt := top 24
abbrev sText : Stmt := top 25
abbrev sThrough : Stmt := top 37
abbrev sLaw : Stmt := top 38

/-- the built-in names that the text does not bind -/
structure Gb (mg : Str → Option Value) : Prop where
  str : mg "str" = none
  len : mg "len" = none
  int : mg "int" = none
  range : mg "range" = none
  tuple : mg "tuple" = none
  isi : mg "isinstance" = none
  bool : mg "bool" = none
  all : mg "all" = none
theorem boot_t : bootBuiltins "tuple" = some (.type "tuple") := by decide +kernel
theorem boot_s : bootBuiltins "str" = some (.type "str") := by decide +kernel
theorem boot_i : bootBuiltins "int" = some (.type "int") := by decide +kernel

/-! ### parts of a row -/
def Bd (i : Int) : Prop := -1000000000000000000 < i ∧ i < 1000000000000000000
inductive PartOk : V → Prop where
  | int {i : Int} (h : Bd i) : PartOk (.int i)
  | str {x : Str} (h : Tm.wdB x = true) : PartOk (.str x)
def partT : V → Str
  | .int i => Str.ofString (toString i)
  | .str x => x
  | _ => Str.empty
theorem Bd.log {i : Int} (h : Bd i) : i.natAbs.log2 < 1920 := by
  obtain ⟨h1, h2⟩ := h
  have hn : i.natAbs < 100000000000000000000 := by omega
  by_cases z : i.natAbs = 0
  · rw [z]; decide
  · rw [Nat.log2_lt z]
    exact Nat.lt_trans hn (by decide)
theorem Bd.len {i : Int} (h : Bd i) : (Str.ofString (toString i)).length ≤ 30 := by
  obtain ⟨h1, h2⟩ := h
  by_cases z : 0 ≤ i
  · exact Nat.le_trans (PyProof.Rows.toString_length_le z (k := 20) (by decide) (by omega)) (by decide)
  · have e := PyProof.Rows.toString_length_le (v := 0 - i) (by omega) (k := 20) (by decide) (by omega)
    rw [PyProof.Rows.toString_neg (by omega), PySem.ofString_length, String.length_append]
    rw [PySem.ofString_length] at e
    have : "-".length = 1 := by decide
    omega
theorem PartOk.len {v : V} (h : PartOk v) : (partT v).length ≤ 30 := by
  cases h with
  | int h => exact h.len
  | str h => exact (Tm.wd_iff.mp h).le
def rowT (xs : List V) : Str := Txt.join " " (xs.map partT) ++ "\n"
theorem sum_le {α : Type} (f : α → Nat) (b : Nat) : ∀ (xs : List α), (∀ x ∈ xs, f x ≤ b) → (xs.map f).sum ≤ xs.length * b
  | [], _ => by simp
  | x :: xs, h => by
    have h1 := h x (by simp)
    have h2 := sum_le f b xs fun y hy => h y (by simp [hy])
    rw [List.map_cons, List.sum_cons, List.length_cons, Nat.succ_mul]
    omega
theorem parts_sum {xs : List V} (h : ∀ v ∈ xs, PartOk v) : ((xs.map partT).map fun y => y.length).sum ≤ xs.length * 30 := by
  have e := sum_le (fun y : Str => y.length) 30 (xs.map partT) fun y hy => by
    obtain ⟨v, hv, rfl⟩ := List.mem_map.mp hy
    exact (h v hv).len
  rw [List.length_map] at e
  exact e
theorem join_len (z : Str) (ys : List Str) : (Txt.join z ys).length ≤ (ys.map fun y => y.length).sum + ys.length * z.length := by
  have e : Txt.join z ys = z.join ys := by
    exact StrLaws.glued_eq_join _ _
  rw [e]
  exact StrLaws.join_length_le _ _
def spRow (K : Frag) : Sp := fun vs H Q _ => ∃ (p : Addr) (xs : List V), vs = [.ref p] ∧ (SqL K H p xs ∨ H p = some (.tup xs)) ∧ xs.length ≤ 100 ∧ (∀ v ∈ xs, PartOk v) ∧ ∀ H', Same H H' → Q (.str (rowT xs)) H'
theorem nd1 {x : Str} : [x].Nodup := by simp
theorem gName_in {i : Nat} {v : V} {σ : St} {H : Hp} {Q : St → Hp → Prop} (h : Q (σ.set i (some v)) H) : gName i v σ H Q := h
theorem tYes_in {σ : St} {H : Hp} {Q : Bool → Hp → Prop} (h : Q true H) : tYes σ H Q := h

section
variable {P : Program} {w : World} {K : PySem.W.Frag} {mg : Str → Option Value} {base : Heap}
theorem row_len1 : (Str.ofString " ").length = 1 := by decide +kernel
theorem row_len2 : (Str.ofString "\n").length = 1 := by decide +kernel

theorem scRow : FnScope ["parts"] ["parts"] (defScope sRow) := ⟨rfl, rfl, rfl, by decide +kernel, rfl, by decide +kernel, by decide +kernel⟩
theorem ok_Row {f : Addr} {fd : FuncData} (F : Fun K "row_text" "row_text" sRow f fd) (G : Gb mg) : FnOk P w K mg base CX0 1 f fd ["parts"] (spRow K) := by
  refine F.ok scRow (fun vs H Q E h => ?_) (fun cdv A outer s H vs Q E hr h => ?_)
  · obtain ⟨p, xs, rfl, _⟩ := h
    rfl
  · obtain ⟨p, xs, rfl, hp, hl, hx, q⟩ := h
    refine ⟨_, pss_one (ps_ret (pe_op op_add_str (pe_bm PySem.F.plainAttrs_str PySem.F.slot_str_join PySem.F.type_str_join mt_join pe_str (pa_cons
      (pe_comp (NB := ["part"]) rfl (by decide +kernel) (by decide +kernel) (by decide +kernel) rfl (pi_seq (pv 0)) (fun C s H fp pn => pg_name (i := 0) nd1 rfl (Or.inl rfl) (.inr rfl)) (fun C s H fp pn => pts_nil)
        (fun C s H fp pn => pe_callTy call_strOf (by rfl) G.str boot_s (pa_cons (pv 0) pa_nil))) pa_nil)) pe_str)), ?_⟩
    have fin : ∀ (H2 : Hp) (acc : Addr), Same H H2 → H2 acc = some (.lst ((xs.map partT).map V.str)) → rJoin K (.str " ") [.ref acc] H2 fun v H1 => ∃ i j, v = .str i ∧ V.str "\n" = .str j ∧ i.length + j.length ≤ sizeLine ∧ Q (.str (i ++ j)) H1 := fun H2 acc sm ha => by
      have hs := parts_sum hx
      have hj := join_len " " (xs.map partT)
      rw [row_len1, List.length_map] at hj
      refine ⟨" ", acc, xs.map partT, rfl, rfl, SqL.of ha, ?_, _, _, rfl, rfl, ?_, q _ sm⟩
      · rw [row_len1, List.length_map]
        omega
      · rw [row_len2]
        have : sizeLine = 16777216 := sizeLine_eq
        omega
    refine ⟨rfl, _, rfl, p, rfl, Or.elim hp (fun hp => .inl ⟨⟨_, hp⟩, ?_⟩) (fun hp => .inr ⟨⟨_, SqT.of hp⟩, ?_⟩)⟩
    all_goals
      first
        | have hq : ∀ {H' : Hp}, Same H H' → SqL K H' p xs := fun e => e.seq hp
        | have hq : ∀ {H' : Hp}, Same H H' → SqT K H' p xs := fun e => SqT.of (e _ _ hp)
      refine fun acc hacc => ⟨fun i m ys H' => m = xs.length - i ∧ i ≤ xs.length ∧ ys = ((xs.take i).map partT).map V.str ∧ Same H H' ∧ H' acc = some (.lst ys), ⟨_, rfl, Nat.zero_le _, rfl, same_upd hacc, upd_same⟩, ?_⟩
      rintro i m ys H' ⟨rfl, hi, rfl, sm, ha⟩
      refine ⟨ha, ?_⟩
      by_cases hlt : i < xs.length
      · refine .inr ⟨⟨xs, _, hq sm, List.getElem?_eq_getElem hlt⟩, ?_⟩
        rintro y H'' ⟨rfl, hy⟩
        have ey := hy xs (hq sm)
        have tk : xs.take (i + 1) = xs.take i ++ [y] := by
          rw [List.take_add_one, ey]
          rfl
        have nx : ∀ z : Str, z = partT y → H'' acc = some (.lst (((xs.take i).map partT).map V.str)) ∧ (((xs.take i).map partT).map V.str).length < sizeLine ∧ ∃ m', m' < xs.length - i ∧ (m' = xs.length - (i + 1) ∧ i + 1 ≤ xs.length ∧ ((xs.take i).map partT).map V.str ++ [.str z] = ((xs.take (i + 1)).map partT).map V.str ∧
            Same H (upd H'' acc (.lst (((xs.take i).map partT).map V.str ++ [.str z]))) ∧ (upd H'' acc (.lst (((xs.take i).map partT).map V.str ++ [.str z]))) acc = some (.lst (((xs.take i).map partT).map V.str ++ [.str z]))) := fun z hz => by
          subst hz
          refine ⟨ha, ?_, _, ?_, rfl, hlt, ?_, fun b o e => ?_, upd_same⟩
          · rw [List.length_map, List.length_map, List.length_take]
            have : sizeLine = 16777216 := sizeLine_eq
            omega
          · omega
          · rw [tk]
            simp
          · rw [upd_ne (ne_of_none e hacc)]
            exact sm b o e
        have ok := hx y (List.mem_of_getElem? ey)
        refine gName_in ?_
        refine tYes_in ?_
        refine iteT ?_
        cases ok with
        | int h => exact ⟨_, rfl, .inl ⟨_, rfl, h.log, nx _ rfl⟩⟩
        | str h => exact ⟨_, rfl, .inr ⟨_, rfl, nx _ rfl⟩⟩
      · have ei : xs.take i = xs := List.take_of_length_le (by omega)
        rw [ei] at ha
        exact .inl ⟨⟨xs, hq sm, by omega⟩, fin _ _ sm ha⟩

theorem scRow2 : FnScope ["_law_parts"] ["_law_parts"] (defScope sRow2) := ⟨rfl, rfl, rfl, by decide +kernel, rfl, by decide +kernel, by decide +kernel⟩
theorem ok_Row2 {f : Addr} {fd : FuncData} (F : Fun K "_law_row" "_law_row" sRow2 f fd) (G : Gb mg) : FnOk P w K mg base CX0 1 f fd ["_law_parts"] (spRow K) := by
  refine F.ok scRow2 (fun vs H Q E h => ?_) (fun cdv A outer s H vs Q E hr h => ?_)
  · obtain ⟨p, xs, rfl, _⟩ := h
    rfl
  · obtain ⟨p, xs, rfl, hp, hl, hx, q⟩ := h
    refine ⟨_, pss_one (ps_ret (pe_op op_add_str (pe_bm PySem.F.plainAttrs_str PySem.F.slot_str_join PySem.F.type_str_join mt_join pe_str (pa_cons
      (pe_comp (NB := ["_law_part"]) rfl (by decide +kernel) (by decide +kernel) (by decide +kernel) rfl (pi_seq (pv 0)) (fun C s H fp pn => pg_name (i := 0) nd1 rfl (Or.inl rfl) (.inr rfl)) (fun C s H fp pn => pts_nil)
        (fun C s H fp pn => pe_callTy call_strOf (by rfl) G.str boot_s (pa_cons (pv 0) pa_nil))) pa_nil)) pe_str)), ?_⟩
    have fin : ∀ (H2 : Hp) (acc : Addr), Same H H2 → H2 acc = some (.lst ((xs.map partT).map V.str)) → rJoin K (.str " ") [.ref acc] H2 fun v H1 => ∃ i j, v = .str i ∧ V.str "\n" = .str j ∧ i.length + j.length ≤ sizeLine ∧ Q (.str (i ++ j)) H1 := fun H2 acc sm ha => by
      have hs := parts_sum hx
      have hj := join_len " " (xs.map partT)
      rw [row_len1, List.length_map] at hj
      refine ⟨" ", acc, xs.map partT, rfl, rfl, SqL.of ha, ?_, _, _, rfl, rfl, ?_, q _ sm⟩
      · rw [row_len1, List.length_map]
        omega
      · rw [row_len2]
        have : sizeLine = 16777216 := sizeLine_eq
        omega
    refine ⟨rfl, _, rfl, p, rfl, Or.elim hp (fun hp => .inl ⟨⟨_, hp⟩, ?_⟩) (fun hp => .inr ⟨⟨_, SqT.of hp⟩, ?_⟩)⟩
    all_goals
      first
        | have hq : ∀ {H' : Hp}, Same H H' → SqL K H' p xs := fun e => e.seq hp
        | have hq : ∀ {H' : Hp}, Same H H' → SqT K H' p xs := fun e => SqT.of (e _ _ hp)
      refine fun acc hacc => ⟨fun i m ys H' => m = xs.length - i ∧ i ≤ xs.length ∧ ys = ((xs.take i).map partT).map V.str ∧ Same H H' ∧ H' acc = some (.lst ys), ⟨_, rfl, Nat.zero_le _, rfl, same_upd hacc, upd_same⟩, ?_⟩
      rintro i m ys H' ⟨rfl, hi, rfl, sm, ha⟩
      refine ⟨ha, ?_⟩
      by_cases hlt : i < xs.length
      · refine .inr ⟨⟨xs, _, hq sm, List.getElem?_eq_getElem hlt⟩, ?_⟩
        rintro y H'' ⟨rfl, hy⟩
        have ey := hy xs (hq sm)
        have tk : xs.take (i + 1) = xs.take i ++ [y] := by
          rw [List.take_add_one, ey]
          rfl
        have nx : ∀ z : Str, z = partT y → H'' acc = some (.lst (((xs.take i).map partT).map V.str)) ∧ (((xs.take i).map partT).map V.str).length < sizeLine ∧ ∃ m', m' < xs.length - i ∧ (m' = xs.length - (i + 1) ∧ i + 1 ≤ xs.length ∧ ((xs.take i).map partT).map V.str ++ [.str z] = ((xs.take (i + 1)).map partT).map V.str ∧
            Same H (upd H'' acc (.lst (((xs.take i).map partT).map V.str ++ [.str z]))) ∧ (upd H'' acc (.lst (((xs.take i).map partT).map V.str ++ [.str z]))) acc = some (.lst (((xs.take i).map partT).map V.str ++ [.str z]))) := fun z hz => by
          subst hz
          refine ⟨ha, ?_, _, ?_, rfl, hlt, ?_, fun b o e => ?_, upd_same⟩
          · rw [List.length_map, List.length_map, List.length_take]
            have : sizeLine = 16777216 := sizeLine_eq
            omega
          · omega
          · rw [tk]
            simp
          · rw [upd_ne (ne_of_none e hacc)]
            exact sm b o e
        have ok := hx y (List.mem_of_getElem? ey)
        refine gName_in ?_
        refine tYes_in ?_
        refine iteT ?_
        cases ok with
        | int h => exact ⟨_, rfl, .inl ⟨_, rfl, h.log, nx _ rfl⟩⟩
        | str h => exact ⟨_, rfl, .inr ⟨_, rfl, nx _ rfl⟩⟩
      · have ei : xs.take i = xs := List.take_of_length_le (by omega)
        rw [ei] at ha
        exact .inl ⟨⟨xs, hq sm, by omega⟩, fin _ _ sm ha⟩
end
end Lt

set_option maxHeartbeats 4000000
namespace Lt
open PySem L2 PySem.W

def PairAt (H : Hp) (v : V) (p : Int × Int) : Prop := ∃ b, v = .ref b ∧ H b = some (.tup [.int p.1, .int p.2])
theorem paired_map {α β : Type} {F G : α → β → Prop} (f : ∀ a b, F a b → G a b) : ∀ {xs : List α} {ys : List β}, Paired F xs ys → Paired G xs ys
  | _, _, .nil => .nil
  | _, _, .cons r t => .cons (f _ _ r) (paired_map f t)
theorem paired_at {α β : Type} {F : α → β → Prop} : ∀ {xs : List α} {ys : List β}, Paired F xs ys → ∀ {i : Nat} {x : α}, xs[i]? = some x → ∃ y, ys[i]? = some y ∧ F x y
  | _, _, .nil, i, x, h => by simp at h
  | _, _, .cons r t, 0, x, h => by
    cases h
    exact ⟨_, rfl, r⟩
  | _, _, .cons r t, i + 1, x, h => paired_at t (i := i) h
def WorkT (H : Hp) (p : Addr) (ps : List (Int × Int)) : Prop := ∃ xs, H p = some (.tup xs) ∧ Paired (PairAt H) xs ps ∧ ps.length ≤ 6 ∧ ∀ q ∈ ps, Bd q.1 ∧ Bd q.2
theorem WorkT.same {H H' : Hp} {p : Addr} {ps : List (Int × Int)} (e : Same H H') (h : WorkT H p ps) : WorkT H' p ps := by
  obtain ⟨xs, h1, h2, h3⟩ := h
  exact ⟨xs, e _ _ h1, paired_map (fun v q ⟨b, z1, z2⟩ => ⟨b, z1, e _ _ z2⟩) h2, h3⟩
def flat (ps : List (Int × Int)) : List V := ps.flatMap fun q => [.int q.1, .int q.2]
theorem flat_len (ps : List (Int × Int)) : (flat ps).length = 2 * ps.length := by
  induction ps with
  | nil => rfl
  | cons q ps ih =>
    show (flat (q :: ps)).length = _
    rw [show flat (q :: ps) = .int q.1 :: .int q.2 :: flat ps from rfl, List.length_cons, List.length_cons, ih, List.length_cons]
    omega
theorem flat_snoc (ps : List (Int × Int)) (q : Int × Int) : flat (ps ++ [q]) = flat ps ++ [.int q.1, .int q.2] := by
  unfold flat
  rw [List.flatMap_append]
  rfl
theorem flat_ok {ps : List (Int × Int)} (h : ∀ q ∈ ps, Bd q.1 ∧ Bd q.2) : ∀ v ∈ flat ps, PartOk v := fun v hv => by
  obtain ⟨q, hq, hv⟩ := List.mem_flatMap.mp hv
  rcases List.mem_cons.mp hv with rfl | hv
  · exact .int (h q hq).1
  · rcases List.mem_cons.mp hv with rfl | hv
    · exact .int (h q hq).2
    · exact absurd hv (by simp)
def headV (ps : List (Int × Int)) (a b c : Int) : List V := (.str "work" :: flat ps) ++ [.str "span", .int a, .str "every", .int b, .str "least", .int c]
theorem head_ok {ps : List (Int × Int)} {a b c : Int} (h : ∀ q ∈ ps, Bd q.1 ∧ Bd q.2) (ha : Bd a) (hb : Bd b) (hc : Bd c) : ∀ v ∈ headV ps a b c, PartOk v := fun v hv => by
  rcases List.mem_append.mp hv with hv | hv
  · rcases List.mem_cons.mp hv with rfl | hv
    · exact .str (by decide +kernel)
    · exact flat_ok h v hv
  · simp only [List.mem_cons, List.not_mem_nil, or_false] at hv
    rcases hv with rfl | rfl | rfl | rfl | rfl | rfl
    · exact .str (by decide +kernel)
    · exact .int ha
    · exact .str (by decide +kernel)
    · exact .int hb
    · exact .str (by decide +kernel)
    · exact .int hc
def spHead : Sp := fun vs H Q _ => ∃ (p : Addr) (ps : List (Int × Int)) (a b c : Int), vs = [.ref p, .int a, .int b, .int c] ∧ WorkT H p ps ∧ Bd a ∧ Bd b ∧ Bd c ∧ ∀ H', Same H H' → Q (.str (rowT (headV ps a b c))) H'
def spHead2 : Sp := fun vs H Q _ => ∃ (p l : Addr) (ps : List (Int × Int)) (a b c : Int), vs = [.ref p, .ref l] ∧ WorkT H p ps ∧ H l = some (.tup [.int a, .int b, .int c]) ∧ Bd a ∧ Bd b ∧ Bd c ∧ ∀ H', Same H H' → Q (.str (rowT (headV ps a b c))) H'

section
variable {P : Program} {w : World} {K : PySem.W.Frag} {mg : Str → Option Value} {base : Heap}
theorem scHead : FnScope ["work", "span", "every", "least", "parts", "low", "high"] ["work", "span", "every", "least"] (defScope sHead) := ⟨rfl, rfl, rfl, by decide +kernel, rfl, by decide +kernel, by decide +kernel⟩
theorem ok_head {f fR : Addr} {fd fdR : FuncData} (F : Fun K "head_text" "head_text" sHead f fd) (GR : FnOk P w K mg base CX0 1 fR fdR ["parts"] (spRow K)) (kp : keepIn K (.ref fR) = true) (bR : Binds K fdR ["parts"] []) (mR : mg "row_text" = some (.ref fR)) :
    FnOk P w K mg base CX0 2 f fd ["work", "span", "every", "least"] spHead := by
  refine F.ok scHead (fun vs H Q E h => ?_) (fun cdv A outer s H vs Q E hr h => ?_)
  · obtain ⟨p, ps, a, b, c, rfl, _⟩ := h
    rfl
  · obtain ⟨p, ps, a, b, c, rfl, hw, ha, hb, hc, q⟩ := h
    refine ⟨_, pss_cons (ps_set (i := 4) scHead.nd rfl (Or.inl rfl) (pe_lst (pa_cons pe_str pa_nil)))
      (pss_cons (ps_for PassesOwn.never rfl (pi_tup (pv 0)) (pg_tup rfl (pgs_cons (pg_name (i := 5) scHead.nd rfl (Or.inl rfl)) (pgs_cons (pg_name (i := 6) scHead.nd rfl (Or.inl rfl)) pgs_nil)))
        (pss_one (ps_expr (pe_bm PySem.F.plainAttrs_list PySem.F.slot_list_extend PySem.F.type_list_extend mt_extend (pv 4) (pa_cons (pe_lst (pa_cons (pv 5) (pa_cons (pv 6) pa_nil))) pa_nil)))))
      (pss_one (ps_ret (pe_call GR hr rfl mR kp bR .nil pass0 (pa_cons (pe_op op_cat (pv 4) (pe_lst (pa_cons pe_str (pa_cons (pv 1) (pa_cons pe_str (pa_cons (pv 2) (pa_cons pe_str (pa_cons (pv 3) pa_nil)))))))) pa_nil))))), ?_⟩
    have hw0 := hw
    obtain ⟨xs, hx, pr, hl, bd⟩ := hw
    have sl : sizeLine = 16777216 := sizeLine_eq
    have lx : xs.length ≤ 6 := by rw [pr.length]; exact hl
    refine ⟨by show 1 ≤ sizeLine; decide, fun l hn => ?_⟩
    refine ⟨_, rfl, p, rfl, ⟨_, SqT.of (by rw [upd_ne (ne_of_none hx hn)]; exact hx)⟩, for_tup (K := K) (a := p) (xs := xs) (fun i σ H2 => Same H H2 ∧ H2 l = some (.lst (.str "work" :: flat (ps.take i))) ∧ ∃ u v, σ = [some (.ref p), some (.int a), some (.int b), some (.int c), some (.ref l), u, v])
      ⟨same_upd hn, upd_same, _, _, rfl⟩ (fun i σ H2 _ ⟨e, _⟩ => SqT.of (e _ _ hx)) ?_ ?_⟩
    · rintro i x σ H2 hi ⟨sm, hL, u, v, rfl⟩
      obtain ⟨y, hy, b', rfl, hb'⟩ := paired_at pr hi
      have tk : ps.take (i + 1) = ps.take i ++ [y] := by
        rw [List.take_add_one, hy]
        rfl
      have il : i < xs.length := (List.getElem?_eq_some_iff.mp hi).1
      refine ⟨b', _, rfl, SqT.of (sm _ _ hb'), rfl, _, _, rfl, _, _, rfl, rfl, ?_⟩
      refine ⟨_, rfl, .inl ⟨rfl, _, SqL.of hL⟩, _, rfl, _, rfl, by show 2 ≤ sizeLine; decide, fun l2 hn2 => ?_⟩
      have ne : l ≠ l2 := ne_of_none hL hn2
      refine ⟨l, l2, _, _, rfl, rfl, by rw [upd_ne ne]; exact hL, upd_same, ?_, ?_⟩
      · rw [List.length_cons, flat_len, List.length_take]
        show 2 * min i ps.length + 1 + 2 ≤ sizeLine
        omega
      · refine ⟨fun b o z => ?_, ?_, _, _, rfl⟩
        · rw [upd_ne (ne_of_none z hn), upd_ne (ne_of_none (sm _ _ z) hn2)]
          exact sm _ _ z
        · rw [upd_same, tk, flat_snoc]
          rfl
    · rintro σ H2 ⟨sm, hL, u, v, rfl⟩
      have ei : ps.take xs.length = ps := List.take_of_length_le (by rw [pr.length]; exact Nat.le_refl _)
      rw [ei] at hL
      refine ⟨_, rfl, _, rfl, _, rfl, _, rfl, by show 6 ≤ sizeLine; decide, fun l2 hn2 => ?_⟩
      have ne : l ≠ l2 := ne_of_none hL hn2
      refine ⟨l, l2, _, _, rfl, rfl, by rw [upd_ne ne]; exact hL, upd_same, ?_, fun l3 hn3 => ?_⟩
      · rw [List.length_cons, flat_len]
        show 2 * ps.length + 1 + 6 ≤ sizeLine
        omega
      · refine ⟨l3, headV ps a b c, rfl, .inl (SqL.of upd_same), ?_, head_ok bd ha hb hc, fun H' e => q _ (sm.trans ((same_upd hn2).trans ((same_upd hn3).trans e)))⟩
        show ((.str "work" :: flat ps) ++ [V.str "span", .int a, .str "every", .int b, .str "least", .int c]).length ≤ 100
        rw [List.length_append, List.length_cons, flat_len]
        show 2 * ps.length + 1 + 6 ≤ 100
        omega
theorem scHead2 : FnScope ["_law_work", "_law_limits", "_law_parts", "_law_low", "_law_high"] ["_law_work", "_law_limits"] (defScope sHead2) := ⟨rfl, rfl, rfl, by decide +kernel, rfl, by decide +kernel, by decide +kernel⟩
theorem ok_head2 {f fR : Addr} {fd fdR : FuncData} (F : Fun K "_law_head" "_law_head" sHead2 f fd) (GR : FnOk P w K mg base CX0 1 fR fdR ["_law_parts"] (spRow K)) (kp : keepIn K (.ref fR) = true) (bR : Binds K fdR ["_law_parts"] []) (mR : mg "_law_row" = some (.ref fR)) :
    FnOk P w K mg base CX0 2 f fd ["_law_work", "_law_limits"] spHead2 := by
  refine F.ok scHead2 (fun vs H Q E h => ?_) (fun cdv A outer s H vs Q E hr h => ?_)
  · obtain ⟨p, l, ps, a, b, c, rfl, _⟩ := h
    rfl
  · obtain ⟨p, t, ps, a, b, c, rfl, hw, ht, ha, hb, hc, q⟩ := h
    refine ⟨_, pss_cons (ps_set (i := 2) scHead2.nd rfl (Or.inl rfl) (pe_lst (pa_cons pe_str pa_nil)))
      (pss_cons (ps_for PassesOwn.never rfl (pi_tup (pv 0)) (pg_tup rfl (pgs_cons (pg_name (i := 3) scHead2.nd rfl (Or.inl rfl)) (pgs_cons (pg_name (i := 4) scHead2.nd rfl (Or.inl rfl)) pgs_nil)))
        (pss_one (ps_set (i := 2) scHead2.nd rfl (Or.inl rfl) (pe_op op_cat (pv 2) (pe_lst (pa_cons (pv 3) (pa_cons (pv 4) pa_nil)))))))
      (pss_one (ps_ret (pe_call GR hr rfl mR kp bR .nil pass0 (pa_cons (pe_op op_cat (pv 2) (pe_lst (pa_cons pe_str (pa_cons (pe_ix ix_tup (pv 1) pe_int (fun _ _ => rfl)) (pa_cons pe_str (pa_cons (pe_ix ix_tup (pv 1) pe_int (fun _ _ => rfl)) (pa_cons pe_str (pa_cons (pe_ix ix_tup (pv 1) pe_int (fun _ _ => rfl)) pa_nil)))))))) pa_nil))))), ?_⟩
    obtain ⟨xs, hx, pr, hl, bd⟩ := hw
    have sl : sizeLine = 16777216 := sizeLine_eq
    have lx : xs.length ≤ 6 := by rw [pr.length]; exact hl
    refine ⟨by show 1 ≤ sizeLine; decide, fun l hn => ?_⟩
    refine ⟨_, rfl, p, rfl, ⟨_, SqT.of (by rw [upd_ne (ne_of_none hx hn)]; exact hx)⟩, for_tup (K := K) (a := p) (xs := xs) (fun i σ H2 => Same H H2 ∧ ∃ l u v, H2 l = some (.lst (.str "work" :: flat (ps.take i))) ∧ σ = [some (.ref p), some (.ref t), some (.ref l), u, v])
      ⟨same_upd hn, l, _, _, upd_same, rfl⟩ (fun i σ H2 _ ⟨e, _⟩ => SqT.of (e _ _ hx)) ?_ ?_⟩
    · rintro i x σ H2 hi ⟨sm, l, u, v, hL, rfl⟩
      obtain ⟨y, hy, b', rfl, hb'⟩ := paired_at pr hi
      have tk : ps.take (i + 1) = ps.take i ++ [y] := by
        rw [List.take_add_one, hy]
        rfl
      have il : i < xs.length := (List.getElem?_eq_some_iff.mp hi).1
      refine ⟨b', _, rfl, SqT.of (sm _ _ hb'), rfl, _, _, rfl, _, _, rfl, rfl, ?_⟩
      refine ⟨_, rfl, _, rfl, _, rfl, by show 2 ≤ sizeLine; decide, fun l2 hn2 => ?_⟩
      have ne : l ≠ l2 := ne_of_none hL hn2
      refine ⟨l, l2, _, _, rfl, rfl, by rw [upd_ne ne]; exact hL, upd_same, ?_, fun l3 hn3 => ?_⟩
      · rw [List.length_cons, flat_len, List.length_take]
        show 2 * min i ps.length + 1 + 2 ≤ sizeLine
        omega
      · refine ⟨sm.trans ((same_upd hn2).trans (same_upd hn3)), l3, _, _, ?_, rfl⟩
        rw [upd_same, tk, flat_snoc]
        rfl
    · rintro σ H2 ⟨sm, l, u, v, hL, rfl⟩
      have ei : ps.take xs.length = ps := List.take_of_length_le (by rw [pr.length]; exact Nat.le_refl _)
      rw [ei] at hL
      have ht2 := sm _ _ ht
      refine ⟨_, rfl, _, rfl, t, _, _, _, rfl, rfl, SqT.of ht2, atI_nat (j := 0) rfl, _, rfl, t, _, _, _, rfl, rfl, SqT.of ht2, atI_nat (j := 1) rfl, _, rfl, t, _, _, _, rfl, rfl, SqT.of ht2, atI_nat (j := 2) rfl, by show 6 ≤ sizeLine; decide, fun l2 hn2 => ?_⟩
      have ne : l ≠ l2 := ne_of_none hL hn2
      refine ⟨l, l2, _, _, rfl, rfl, by rw [upd_ne ne]; exact hL, upd_same, ?_, fun l3 hn3 => ?_⟩
      · rw [List.length_cons, flat_len]
        show 2 * ps.length + 1 + 6 ≤ sizeLine
        omega
      · refine ⟨l3, headV ps a b c, rfl, .inl (SqL.of upd_same), ?_, head_ok bd ha hb hc, fun H' e => q _ (sm.trans ((same_upd hn2).trans ((same_upd hn3).trans e)))⟩
        show ((.str "work" :: flat ps) ++ [V.str "span", .int a, .str "every", .int b, .str "least", .int c]).length ≤ 100
        rw [List.length_append, List.length_cons, flat_len]
        show 2 * ps.length + 1 + 6 ≤ 100
        omega
end
end Lt

set_option maxHeartbeats 4000000
namespace Lt
open PySem L2 PySem.W

/-! ### lines -/
inductive Ln where
  | lent (a : Int) (x : Str) (b c : Int)
  | told (a b c : Int) (ns : List Int)
  | back (a b : Int)
  | cut (a b : Int)
  | join (a : Int)
def Ln.vs : Ln → List V
  | .lent a x b c => [.str "lent", .int a, .str x, .int b, .int c]
  | .told a b c ns => [.str "told", .int a, .int b, .int c] ++ ns.map V.int
  | .back a b => [.str "back", .int a, .int b]
  | .cut a b => [.str "cut", .int a, .int b]
  | .join a => [.str "join", .int a]
def Ln.Ok : Ln → Prop
  | .lent a x b c => Bd a ∧ Tm.wdB x = true ∧ Bd b ∧ Bd c
  | .told a b c ns => Bd a ∧ Bd b ∧ Bd c ∧ ns.length ≤ 40 ∧ ∀ n ∈ ns, Bd n
  | .back a b => Bd a ∧ Bd b
  | .cut a b => Bd a ∧ Bd b
  | .join a => Bd a
def LnAt (H : Hp) (p : Addr) : Ln → Prop
  | .lent a x b c => H p = some (.tup [.str "lent", .int a, .str x, .int b, .int c])
  | .told a b c ns => ∃ t, H p = some (.tup [.str "told", .int a, .int b, .int c, .ref t]) ∧ H t = some (.tup (ns.map V.int))
  | .back a b => H p = some (.tup [.str "back", .int a, .int b])
  | .cut a b => H p = some (.tup [.str "cut", .int a, .int b])
  | .join a => H p = some (.tup [.str "join", .int a])
theorem LnAt.tups {H H' : Hp} (e : ∀ b xs, H b = some (.tup xs) → H' b = some (.tup xs)) {p : Addr} {l : Ln} (h : LnAt H p l) : LnAt H' p l := by
  cases l with
  | lent => exact e _ _ h
  | told => obtain ⟨t, h1, h2⟩ := h; exact ⟨t, e _ _ h1, e _ _ h2⟩
  | back => exact e _ _ h
  | cut => exact e _ _ h
  | join => exact e _ _ h
theorem LnAt.same {H H' : Hp} {p : Addr} {l : Ln} (e : Same H H') (h : LnAt H p l) : LnAt H' p l := h.tups fun b xs => e b _
inductive LineIs (H : Hp) (p : Addr) : List V → Prop where
  | told {a b c : Int} {t : Addr} {ns : List Int} (e : H p = some (.tup [.str "told", .int a, .int b, .int c, .ref t])) (h : H t = some (.tup (ns.map V.int))) (l : ns.length ≤ 40) (ba : Bd a) (bb : Bd b) (bc : Bd c) (bn : ∀ n ∈ ns, Bd n) : LineIs H p ([.str "told", .int a, .int b, .int c] ++ ns.map V.int)
  | other {z : Str} {vs : List V} (e : H p = some (.tup (.str z :: vs))) (n : z ≠ "told") (l : vs.length ≤ 5) (ok : ∀ v ∈ V.str z :: vs, PartOk v) : LineIs H p (.str z :: vs)
theorem Ln.parts {l : Ln} (h : l.Ok) : ∀ v ∈ l.vs, PartOk v := by
  have al : ∀ {v : V} {t : List V}, PartOk v → (∀ x ∈ t, PartOk x) → ∀ x ∈ v :: t, PartOk x := fun h1 h2 x hx => by
    rcases List.mem_cons.mp hx with rfl | hx
    · exact h1
    · exact h2 x hx
  have n0 : ∀ x ∈ ([] : List V), PartOk x := fun x hx => absurd hx (by simp)
  cases l with
  | lent a x b c => exact al (.str (by decide +kernel)) (al (.int h.1) (al (.str h.2.1) (al (.int h.2.2.1) (al (.int h.2.2.2) n0))))
  | told a b c ns =>
    refine al (.str (by decide +kernel)) (al (.int h.1) (al (.int h.2.1) (al (.int h.2.2.1) fun x hx => ?_)))
    obtain ⟨n, hn, rfl⟩ := List.mem_map.mp hx
    exact .int (h.2.2.2.2 n hn)
  | back a b => exact al (.str (by decide +kernel)) (al (.int h.1) (al (.int h.2) n0))
  | cut a b => exact al (.str (by decide +kernel)) (al (.int h.1) (al (.int h.2) n0))
  | join a => exact al (.str (by decide +kernel)) (al (.int h) n0)
theorem LnAt.is {H : Hp} {p : Addr} {l : Ln} (h : LnAt H p l) (ok : l.Ok) : LineIs H p l.vs := by
  have hp := Ln.parts ok
  cases l with
  | lent a x b c => exact .other h (by decide +kernel) (by show 4 ≤ 5; decide) hp
  | told a b c ns =>
    obtain ⟨t, h1, h2⟩ := h
    obtain ⟨o1, o2, o3, o4, o5⟩ := ok
    exact .told h1 h2 o4 o1 o2 o3 o5
  | back a b => exact .other h (by decide +kernel) (by show 2 ≤ 5; decide) hp
  | cut a b => exact .other h (by decide +kernel) (by show 2 ≤ 5; decide) hp
  | join a => exact .other h (by decide +kernel) (by show 1 ≤ 5; decide) hp
def spLine : Sp := fun vs H Q _ => ∃ (p : Addr) (xs : List V), vs = [.ref p] ∧ LineIs H p xs ∧ ∀ H', Same H H' → Q (.str (rowT xs)) H'

section
variable {P : Program} {w : World} {K : PySem.W.Frag} {mg : Str → Option Value} {base : Heap}
theorem scLine : FnScope ["line"] ["line"] (defScope sLine) := ⟨rfl, rfl, rfl, by decide +kernel, rfl, by decide +kernel, by decide +kernel⟩
theorem ok_line {f fR : Addr} {fd fdR : FuncData} (F : Fun K "line_text" "line_text" sLine f fd) (GR : FnOk P w K mg base CX0 1 fR fdR ["parts"] (spRow K)) (kp : keepIn K (.ref fR) = true) (bR : Binds K fdR ["parts"] []) (mR : mg "row_text" = some (.ref fR)) :
    FnOk P w K mg base CX0 2 f fd ["line"] spLine := by
  refine F.ok scLine (fun vs H Q E h => ?_) (fun cdv A outer s H vs Q E hr h => ?_)
  · obtain ⟨p, xs, rfl, _⟩ := h
    rfl
  · obtain ⟨p, xs, rfl, hx, q⟩ := h
    refine ⟨_, pss_cons (ps_if (pt_cmpR op_eq (pe_ix ix_tup (pv 0) pe_int (fun _ _ => rfl)) pe_str (nomark _)) (pss_one (ps_ret (pe_call GR hr rfl mR kp bR .nil pass0 (pa_cons (pe_op op_catA (pe_slice sl_all (pv 0) po_none (po_some pe_int)) (pe_ix ix_tup (pv 0) pe_int (fun _ _ => rfl))) pa_nil)))) pss_nil)
      (pss_one (ps_ret (pe_call GR hr rfl mR kp bR .nil pass0 (pa_cons (pv 0) pa_nil)))), ?_⟩
    have sl : sizeLine = 16777216 := sizeLine_eq
    cases hx with
    | @told a b c t ns e h l ba bb bc bn =>
      refine ⟨_, rfl, p, _, _, _, rfl, rfl, SqT.of e, atI_nat (j := 0) rfl, rfl, _, rfl, ?_⟩
      refine ite2 (fun _ => ?_) (fun z => absurd rfl z)
      refine ⟨_, rfl, _, rfl, p, _, rfl, e, fun p2 H2 s2 h2 => ?_⟩
      refine ⟨_, rfl, p, _, _, _, rfl, rfl, SqT.of (s2 _ _ e), atI_nat (j := 4) rfl, p2, t, _, _, rfl, rfl, h2, s2 _ _ h, ?_, fun p3 H3 s3 h3 => ?_⟩
      · show 4 + (ns.map V.int).length ≤ sizeLine
        rw [List.length_map]
        omega
      · refine ⟨p3, _, rfl, .inr h3, ?_, ?_, fun H' s4 => q _ (s2.trans (s3.trans s4))⟩
        · show (ns.map V.int).length + 4 ≤ 100
          rw [List.length_map]
          omega
        · show ∀ v ∈ [V.str "told", .int a, .int b, .int c] ++ ns.map V.int, PartOk v
          intro v hv
          rcases List.mem_append.mp hv with hv | hv
          · simp only [List.mem_cons, List.not_mem_nil, or_false] at hv
            rcases hv with rfl | rfl | rfl | rfl
            · exact .str (by decide +kernel)
            · exact .int ba
            · exact .int bb
            · exact .int bc
          · obtain ⟨n, hn, rfl⟩ := List.mem_map.mp hv
            exact .int (bn n hn)
    | @other z vs e n l ok =>
      refine ⟨_, rfl, p, _, _, _, rfl, rfl, SqT.of e, atI_nat (j := 0) rfl, rfl, _, rfl, ?_⟩
      refine ite2 (fun z => absurd (V.str.inj (of_decide_eq_true z)) n) (fun _ => ?_)
      refine ⟨_, rfl, p, _, rfl, .inr e, ?_, ok, q⟩
      rw [List.length_cons]
      omega
theorem scLine2 : FnScope ["_law_line"] ["_law_line"] (defScope sLine2) := ⟨rfl, rfl, rfl, by decide +kernel, rfl, by decide +kernel, by decide +kernel⟩
theorem ok_line2 {f fR : Addr} {fd fdR : FuncData} (F : Fun K "_law_line_text" "_law_line_text" sLine2 f fd) (GR : FnOk P w K mg base CX0 1 fR fdR ["_law_parts"] (spRow K)) (kp : keepIn K (.ref fR) = true) (bR : Binds K fdR ["_law_parts"] []) (mR : mg "_law_row" = some (.ref fR)) :
    FnOk P w K mg base CX0 2 f fd ["_law_line"] spLine := by
  refine F.ok scLine2 (fun vs H Q E h => ?_) (fun cdv A outer s H vs Q E hr h => ?_)
  · obtain ⟨p, xs, rfl, _⟩ := h
    rfl
  · obtain ⟨p, xs, rfl, hx, q⟩ := h
    refine ⟨_, pss_cons (ps_if (pt_cmpR op_eq (pe_ix ix_tup (pv 0) pe_int (fun _ _ => rfl)) pe_str (nomark _)) (pss_one (ps_ret (pe_call GR hr rfl mR kp bR .nil pass0 (pa_cons (pe_op op_catA (pe_slice sl_all (pv 0) po_none (po_some pe_int)) (pe_ix ix_tup (pv 0) pe_int (fun _ _ => rfl))) pa_nil)))) pss_nil)
      (pss_one (ps_ret (pe_call GR hr rfl mR kp bR .nil pass0 (pa_cons (pv 0) pa_nil)))), ?_⟩
    have sl : sizeLine = 16777216 := sizeLine_eq
    cases hx with
    | @told a b c t ns e h l ba bb bc bn =>
      refine ⟨_, rfl, p, _, _, _, rfl, rfl, SqT.of e, atI_nat (j := 0) rfl, rfl, _, rfl, ?_⟩
      refine ite2 (fun _ => ?_) (fun z => absurd rfl z)
      refine ⟨_, rfl, _, rfl, p, _, rfl, e, fun p2 H2 s2 h2 => ?_⟩
      refine ⟨_, rfl, p, _, _, _, rfl, rfl, SqT.of (s2 _ _ e), atI_nat (j := 4) rfl, p2, t, _, _, rfl, rfl, h2, s2 _ _ h, ?_, fun p3 H3 s3 h3 => ?_⟩
      · show 4 + (ns.map V.int).length ≤ sizeLine
        rw [List.length_map]
        omega
      · refine ⟨p3, _, rfl, .inr h3, ?_, ?_, fun H' s4 => q _ (s2.trans (s3.trans s4))⟩
        · show (ns.map V.int).length + 4 ≤ 100
          rw [List.length_map]
          omega
        · show ∀ v ∈ [V.str "told", .int a, .int b, .int c] ++ ns.map V.int, PartOk v
          intro v hv
          rcases List.mem_append.mp hv with hv | hv
          · simp only [List.mem_cons, List.not_mem_nil, or_false] at hv
            rcases hv with rfl | rfl | rfl | rfl
            · exact .str (by decide +kernel)
            · exact .int ba
            · exact .int bb
            · exact .int bc
          · obtain ⟨n, hn, rfl⟩ := List.mem_map.mp hv
            exact .int (bn n hn)
    | @other z vs e n l ok =>
      refine ⟨_, rfl, p, _, _, _, rfl, rfl, SqT.of e, atI_nat (j := 0) rfl, rfl, _, rfl, ?_⟩
      refine ite2 (fun z => absurd (V.str.inj (of_decide_eq_true z)) n) (fun _ => ?_)
      refine ⟨_, rfl, p, _, rfl, .inr e, ?_, ok, q⟩
      rw [List.length_cons]
      omega
end
end Lt

set_option maxHeartbeats 4000000
namespace Lt
open PySem L2 PySem.W

/-! ### the well of draws -/
def Wl (H : Hp) (w : Addr) : Prop := ∃ a b c : Int, H w = some (.lst [.int a, .int b, .int c])
/-- nothing changes but the well -/
structure Kp (w : Addr) (H H' : Hp) : Prop where
  at_ : ∀ x o, x ≠ w → H x = some o → H' x = some o
  wl : Wl H' w
theorem Kp.trans {w : Addr} {H H1 H2 : Hp} (a : Kp w H H1) (b : Kp w H1 H2) : Kp w H H2 := ⟨fun x o n e => b.at_ x o n (a.at_ x o n e), b.wl⟩
theorem Wl.ne {w p : Addr} {H : Hp} (h : Wl H w) (n : H p = none) : w ≠ p := by
  obtain ⟨a, b, c, e⟩ := h
  exact ne_of_none e n
theorem Wl.same {w : Addr} {H H' : Hp} (h : Wl H w) (e : Same H H') : Wl H' w := by
  obtain ⟨a, b, c, z⟩ := h
  exact ⟨a, b, c, e _ _ z⟩
theorem Kp.same {w : Addr} {H H1 H2 : Hp} (a : Kp w H H1) (e : Same H1 H2) : Kp w H H2 := ⟨fun x o n z => e _ _ (a.at_ x o n z), a.wl.same e⟩
theorem Kp.tup {w x : Addr} {H H' : Hp} {xs : List V} (k : Kp w H H') (hw : Wl H w) (e : H x = some (.tup xs)) : H' x = some (.tup xs) := by
  obtain ⟨a, b, c, z⟩ := hw
  exact k.at_ x _ (ne_of e z (by intro q; cases q)) e
def spWell (K : Frag) : Sp := fun vs H Q _ => ∃ (a : Addr) (ns : List Int) (k : Nat), vs = [.ref a, .int k] ∧ SqL K H a (ns.map V.int) ∧ ns.length ≤ 63 ∧ ∀ w H', Same H H' → H w = none → Wl H' w → Q (.ref w) H'
def spDraw : Sp := fun vs H Q _ => ∃ (w : Addr) (m : Int), vs = [.ref w, .int m] ∧ Wl H w ∧ 0 < m ∧ m < 2 ^ 64 ∧ ∀ r H', Kp w H H' → 0 ≤ r → r < m → Q (.int r) H'
def Bs (i : Int) : Prop := -1000000000000000000 < i ∧ i < 1000000000000000000
theorem Bs.bd {i : Int} (h : Bs i) : Bd i := h
def spFar : Sp := fun vs H Q _ => ∃ (w : Addr), vs = [.ref w] ∧ Wl H w ∧ ∀ r H', Kp w H H' → Bs r → Q (.int r) H'
theorem pick {ns : List Int} {i : Int} (h0 : 0 ≤ i) (h1 : i < ns.length) : ∃ z, z ∈ ns ∧ atI (ns.map V.int) i = some (.int z) := by
  obtain ⟨k, rfl⟩ := Int.eq_ofNat_of_zero_le h0
  have hk : k < ns.length := by omega
  exact ⟨ns[k], List.getElem_mem hk, atI_nat (by rw [List.getElem?_map, List.getElem?_eq_getElem hk]; rfl)⟩
theorem pick2 (x y : Int) (b : Bool) : ∃ z, atI [V.int x, V.int y] (if b = true then 1 else 0) = some (V.int z) := by
  cases b
  · exact ⟨x, atI_nat (j := 0) rfl⟩
  · exact ⟨y, atI_nat (j := 1) rfl⟩

section
variable {P : Program} {w : World} {K : PySem.W.Frag} {mg : Str → Option Value} {base : Heap}
theorem scWell : FnScope ["_law_script", "_law_k", "_law_cell"] ["_law_script", "_law_k"] (defScope sWell) := ⟨rfl, rfl, rfl, by decide +kernel, rfl, by decide +kernel, by decide +kernel⟩
theorem ok_well {f : Addr} {fd : FuncData} (F : Fun K "_law_well" "_law_well" sWell f fd) (G : Gb mg) : FnOk P w K mg base CX0 1 f fd ["_law_script", "_law_k"] (spWell K) := by
  refine F.ok scWell (fun vs H Q E h => ?_) (fun cdv A outer s H vs Q E hr h => ?_)
  · obtain ⟨a, ns, k, rfl, _⟩ := h
    rfl
  · obtain ⟨a, ns, k, rfl, hS, hl, q⟩ := h
    refine ⟨_, pss_cons (ps_set (i := 2) scWell.nd rfl (Or.inl rfl) pe_int)
      (pss_cons (ps_if (pt_cmpR op_lt (pv 1) (pe_callB call_len_seq (by rfl) G.len PySem.boot_len (pa_cons (pv 0) pa_nil)) (nomark _)) (pss_one (ps_set (i := 2) scWell.nd rfl (Or.inl rfl) (pe_ix ix_list (pv 0) (pv 1) (fun _ _ => rfl)))) pss_nil)
      (pss_one (ps_ret (pe_lst (pa_cons (pe_op op_add (pe_op op_mod (pv 2) pe_int) (pe_op op_mul pe_int (pv 1))) (pa_cons (pe_ix ix_list (pe_lst (pa_cons pe_int (pa_cons (pv 2) pa_nil))) (pe_callTy call_int1 (by rfl) G.int boot_i (pa_cons (pe_cmpR op_ge (pv 2) (pe_op op_pow pe_int pe_int) (nomark _)) pa_nil)) (fun _ _ => rfl)) (pa_cons pe_int pa_nil))))))), ?_⟩
    refine ⟨_, rfl, _, rfl, a, _, rfl, .inl hS, _, _, rfl, rfl, _, rfl, ?_⟩
    have pw18 : CPow 10 18 := ⟨by decide, by decide, by decide⟩
    have hk : ∀ (hc : decide ((k : Int) < ((ns.map V.int).length : Int)) = true), k < ns.length := fun hc => by
      have := of_decide_eq_true hc
      rw [List.length_map] at this
      omega
    refine ite2 (fun hc => ⟨_, rfl, _, rfl, a, _, _, _, rfl, rfl, hS, atI_nat (j := k) (v := V.int (ns[k]'(hk hc))) (by rw [List.getElem?_map, List.getElem?_eq_getElem (hk hc)]; rfl), ?_⟩) (fun hc => ?_)
    all_goals
      refine ⟨_, rfl, _, _, rfl, rfl, (by show (0 : Int) < 2147483647; decide), _, rfl, _, _, rfl, rfl, .inl ⟨by decide, by decide⟩, _, _, rfl, rfl, ?_⟩
      refine ⟨_, rfl, by show 2 ≤ sizeLine; decide, fun l1 h1 => ?_⟩
      refine ⟨_, rfl, _, _, rfl, rfl, pw18, _, _, rfl, rfl, .inr ⟨_, rfl, ?_⟩⟩
      exact ⟨l1, _, _, _, rfl, rfl, SqL.of upd_same, (pick2 _ _ _).choose_spec, by show 3 ≤ sizeLine; decide, fun l2 h2 => q l2 _ ((same_upd h1).trans (same_upd h2)) ((same_upd h1).free h2) ⟨_, _, _, upd_same⟩⟩

theorem scDraw : FnScope ["_law_well_here", "_law_most", "_law_number"] ["_law_well_here", "_law_most"] (defScope sDraw) := ⟨rfl, rfl, rfl, by decide +kernel, rfl, by decide +kernel, by decide +kernel⟩
theorem ok_draw {f : Addr} {fd : FuncData} (F : Fun K "_law_draw" "_law_draw" sDraw f fd) : FnOk P w K mg base CX0 1 f fd ["_law_well_here", "_law_most"] spDraw := by
  refine F.ok scDraw (fun vs H Q E h => ?_) (fun cdv A outer s H vs Q E hr h => ?_)
  · obtain ⟨w', m, rfl, _⟩ := h
    rfl
  · obtain ⟨w', m, rfl, ⟨a, b, c, hw⟩, m0, m1, q⟩ := h
    refine ⟨_, pss_cons (ps_if (pt_cmpR op_gt (pe_ix ix_list (pv 0) pe_int (fun _ _ => rfl)) pe_int (nomark _))
        (pss_cons (ps_set (i := 2) scDraw.nd rfl (Or.inl rfl) (pe_op op_mod (pe_ix ix_list (pv 0) pe_int (fun _ _ => rfl)) (pv 1)))
        (pss_cons (ps_asg (pe_op op_fdivB (pe_ix ix_list (pv 0) pe_int (fun _ _ => rfl)) (pv 1)) (pg_sub (pv 0) pe_int set_list))
        (pss_one (ps_ret (pv 2))))) pss_nil)
      (pss_cons (ps_asg (pe_op op_add (pe_ix ix_list (pv 0) pe_int (fun _ _ => rfl)) pe_int) (pg_sub (pv 0) pe_int set_list))
      (pss_cons (ps_set (i := 2) scDraw.nd rfl (Or.inl rfl) (pe_op op_mod (pe_op op_mul (pe_op op_add (pe_op op_add (pe_ix ix_list (pv 0) pe_int (fun _ _ => rfl)) (pe_op op_mul pe_int (pe_ix ix_list (pv 0) pe_int (fun _ _ => rfl)))) pe_int) pe_int) pe_int))
      (pss_cons (ps_set (i := 2) scDraw.nd rfl (Or.inl rfl) (pe_op op_mod (pe_op op_mul (pv 2) (pe_op op_add (pe_op op_fdiv (pv 2) pe_int) pe_int)) pe_int))
      (pss_one (ps_ret (pe_op op_mod (pe_op op_mod (pe_op op_mul (pv 2) (pe_op op_add (pe_op op_fdiv (pv 2) pe_int) pe_int)) pe_int) (pv 1))))))), ?_⟩
    have keep : ∀ (o : HO) (x : Addr) (u : HO), x ≠ w' → H x = some u → (upd H w' o) x = some u := fun o x u n e => by
      rw [upd_ne n]
      exact e
    have rm : ∀ z : Int, 0 ≤ z % m ∧ z % m < m := fun z => ⟨Int.emod_nonneg _ (by omega), Int.emod_lt_of_pos _ m0⟩
    refine ⟨_, rfl, w', _, _, _, rfl, rfl, SqL.of hw, atI_nat (j := 1) rfl, _, _, rfl, rfl, _, rfl, ?_⟩
    refine ite2 (fun hc => ?_) (fun hc => ?_)
    · refine ⟨_, rfl, w', _, _, _, rfl, rfl, SqL.of hw, atI_nat (j := 1) rfl, _, rfl, _, _, rfl, rfl, m0, ?_⟩
      refine ⟨_, rfl, w', _, _, _, rfl, rfl, SqL.of hw, atI_nat (j := 1) rfl, _, rfl, _, _, rfl, rfl, ⟨m0, m1⟩, ?_⟩
      refine ⟨_, rfl, w', _, _, _, rfl, rfl, hw, rfl, ?_⟩
      exact ⟨_, rfl, q _ _ ⟨keep _, ⟨_, _, _, upd_same⟩⟩ (rm _).1 (rm _).2⟩
    · refine ⟨_, rfl, w', _, _, _, rfl, rfl, SqL.of hw, atI_nat (j := 2) rfl, _, _, rfl, rfl, ?_⟩
      refine ⟨_, rfl, w', _, _, 2, rfl, rfl, hw, rfl, ?_⟩
      have hw2 : (upd H w' (.lst ([V.int a, .int b, .int c].set 2 (.int (c + 1))))) w' = some (.lst [.int a, .int b, .int (c + 1)]) := upd_same
      have kp : Kp w' H (upd H w' (.lst ([V.int a, .int b, .int c].set 2 (.int (c + 1))))) := ⟨keep _, ⟨_, _, _, hw2⟩⟩
      refine ⟨_, rfl, w', _, _, _, rfl, rfl, SqL.of hw2, atI_nat (j := 0) rfl, _, rfl, w', _, _, _, rfl, rfl, SqL.of hw2, atI_nat (j := 2) rfl, _, _, rfl, rfl, .inl ⟨by decide, by decide⟩, _, _, rfl, rfl, _, _, rfl, rfl, _, _, rfl, rfl, .inr ⟨by decide, by decide⟩, _, _, rfl, rfl, (by show (0 : Int) < 2147483647; decide), ?_⟩
      have n1 : 0 ≤ (a + 7919 * (c + 1) + 1) * 48271 % 2147483647 ∧ (a + 7919 * (c + 1) + 1) * 48271 % 2147483647 < 2147483647 := by omega
      generalize (a + 7919 * (c + 1) + 1) * 48271 % 2147483647 = x1 at n1 ⊢
      refine ⟨_, rfl, _, rfl, _, _, rfl, rfl, ⟨by decide, by decide⟩, _, _, rfl, rfl, _, _, rfl, rfl, .inl ⟨by omega, by omega⟩, _, _, rfl, rfl, (by show (0 : Int) < 2147483647; decide), ?_⟩
      have n2 : 0 ≤ x1 * (x1 / 1009 + 69621) % 2147483647 ∧ x1 * (x1 / 1009 + 69621) % 2147483647 < 2147483647 := ⟨Int.emod_nonneg _ (by decide), Int.emod_lt_of_pos _ (by decide)⟩
      generalize x1 * (x1 / 1009 + 69621) % 2147483647 = x2 at n2 ⊢
      refine ⟨_, rfl, _, rfl, _, _, rfl, rfl, ⟨by decide, by decide⟩, _, _, rfl, rfl, _, _, rfl, rfl, .inl ⟨by omega, by omega⟩, _, _, rfl, rfl, (by show (0 : Int) < 2147483399; decide), _, rfl, _, _, rfl, rfl, m0, ?_⟩
      exact q _ _ kp (rm _).1 (rm _).2

theorem scFar : FnScope ["_law_well_here", "_law_far_here", "_law_some"] ["_law_well_here"] (defScope sFar) := ⟨rfl, rfl, rfl, by decide +kernel, rfl, by decide +kernel, by decide +kernel⟩
theorem ok_far {f fD : Addr} {fd fdD : FuncData} (F : Fun K "_law_far" "_law_far" sFar f fd) (GD : FnOk P w K mg base CX0 1 fD fdD ["_law_well_here", "_law_most"] spDraw) (kp : keepIn K (.ref fD) = true) (bD : Binds K fdD ["_law_well_here", "_law_most"] []) (mD : mg "_law_draw" = some (.ref fD)) :
    FnOk P w K mg base CX0 2 f fd ["_law_well_here"] spFar := by
  refine F.ok scFar (fun vs H Q E h => ?_) (fun cdv A outer s H vs Q E hr h => ?_)
  · obtain ⟨w', rfl, _⟩ := h
    rfl
  · obtain ⟨w', rfl, hw, q⟩ := h
    refine ⟨_, pss_cons (ps_set (i := 1) scFar.nd rfl (Or.inl rfl) (pe_op op_add (pe_op op_mul (pe_call GD hr rfl mD kp bD .nil pass0 (pa_cons (pv 0) (pa_cons (pe_op op_pow pe_int pe_int) pa_nil))) (pe_op op_pow pe_int pe_int)) (pe_call GD hr rfl mD kp bD .nil pass0 (pa_cons (pv 0) (pa_cons (pe_op op_pow pe_int pe_int) pa_nil)))))
      (pss_cons (ps_set (i := 2) scFar.nd rfl (Or.inl rfl) (pe_lst (pa_cons (pe_call GD hr rfl mD kp bD .nil pass0 (pa_cons (pv 0) (pa_cons pe_int pa_nil)))
        (pa_cons (pe_op op_sub (pe_call GD hr rfl mD kp bD .nil pass0 (pa_cons (pv 0) (pa_cons pe_int pa_nil))) pe_int) (pa_cons (pv 1) (pa_cons (pe_op op_sub pe_int (pv 1)) (pa_cons (pe_op op_sub (pe_op op_pow pe_int pe_int) pe_int) (pa_cons (pe_op op_sub pe_int (pe_op op_pow pe_int pe_int)) pa_nil))))))))
      (pss_one (ps_ret (pe_ix ix_list (pv 2) (pe_call GD hr rfl mD kp bD .nil pass0 (pa_cons (pv 0) (pa_cons pe_int pa_nil))) (fun _ _ => rfl))))), ?_⟩
    have pw9 : CPow 10 9 := ⟨by decide, by decide, by decide⟩
    have pw18 : CPow 10 18 := ⟨by decide, by decide, by decide⟩
    have v9 : (10 : Int) ^ (9 : Int).toNat = 1000000000 := by decide
    have v18 : (10 : Int) ^ (18 : Int).toNat = 1000000000000000000 := by decide
    refine ⟨_, rfl, _, _, rfl, rfl, pw9, w', _, rfl, hw, (by rw [v9]; decide), (by rw [v9]; decide), fun r1 H1 k1 a1 b1 => ?_⟩
    refine ⟨_, _, rfl, rfl, pw9, _, _, rfl, rfl, .inr ⟨by rw [v9]; decide, by rw [v9]; decide⟩, ?_⟩
    refine ⟨_, rfl, _, _, rfl, rfl, pw9, w', _, rfl, k1.wl, (by rw [v9]; decide), (by rw [v9]; decide), fun r2 H2 k2 a2 b2 => ?_⟩
    refine ⟨_, _, rfl, rfl, ?_⟩
    rw [v9] at b1 b2 ⊢
    show gName 1 (V.int (r1 * 1000000000 + r2)) _ _ _
    have bf : 0 ≤ r1 * 1000000000 + r2 ∧ r1 * 1000000000 + r2 < 1000000000000000000 := by omega
    generalize r1 * 1000000000 + r2 = fr at bf ⊢
    refine ⟨_, rfl, w', 20, rfl, k2.wl, by decide, by decide, fun r3 H3 k3 a3 b3 => ?_⟩
    refine ⟨_, rfl, w', 20, rfl, k3.wl, by decide, by decide, fun r4 H4 k4 a4 b4 => ?_⟩
    refine ⟨_, _, rfl, rfl, _, rfl, _, rfl, _, _, rfl, rfl, _, _, rfl, rfl, pw18, _, _, rfl, rfl, _, _, rfl, rfl, pw18, _, _, rfl, rfl, by show 6 ≤ sizeLine; decide, fun l hl => ?_⟩
    have wl5 := k4.wl.same (same_upd (o := .lst [.int r3, .int (r4 - 10), .int fr, .int (0 - fr), .int (10 ^ (18 : Int).toNat - 1), .int (1 - 10 ^ (18 : Int).toNat)]) hl)
    refine ⟨_, rfl, _, rfl, w', 6, rfl, wl5, by decide, by decide, fun r6 H6 k6 a6 b6 => ?_⟩
    obtain ⟨z, mz, ez⟩ := pick (ns := [r3, r4 - 10, fr, 0 - fr, 10 ^ (18 : Int).toNat - 1, 1 - 10 ^ (18 : Int).toNat]) (i := r6) a6 (by show r6 < ((6 : Nat) : Int); omega)
    have ne : l ≠ w' := (k4.wl.ne hl).symm
    refine ⟨l, _, _, _, rfl, rfl, SqL.of (k6.at_ _ _ ne upd_same), ez, q _ _ (k1.trans (k2.trans (k3.trans ((k4.same (same_upd hl)).trans k6)))) ?_⟩
    rw [v18] at mz
    simp only [List.mem_cons, List.not_mem_nil, or_false] at mz
    unfold Bs
    omega
end
end Lt

set_option maxHeartbeats 4000000
namespace Lt
open PySem L2 PySem.W

def spMake : Sp := fun vs H Q _ => ∃ (w : Addr), vs = [.ref w] ∧ Wl H w ∧ ∀ p ps H', Kp w H H' → WorkT H' p ps → Lm.Wk ps → Q (.ref p) H'
def spLims : Sp := fun vs H Q _ => ∃ (w : Addr), vs = [.ref w] ∧ Wl H w ∧ ∀ p a b c H', Kp w H H' → H' p = some (.tup [.int a, .int b, .int c]) → Bd a → Bd b → Bd c → 1 ≤ a → 1 ≤ b → b ≤ c → Q (.ref p) H'
theorem wk_snoc {l h : Int} : ∀ {ps : Lm.Ps}, Lm.Wk ps → (∀ q ∈ ps, q.2 ≤ l) → l < h → Lm.Wk (ps ++ [(l, h)])
  | [], _, _, lt => ⟨lt, fun q hq => absurd hq (by simp), trivial⟩
  | p :: t, ⟨h1, h2, h3⟩, b, lt => by
    refine ⟨h1, fun q hq => ?_, wk_snoc h3 (fun q hq => b q (List.mem_cons_of_mem _ hq)) lt⟩
    rcases List.mem_append.mp hq with hq | hq
    · exact h2 q hq
    · cases List.mem_singleton.mp hq
      exact b p List.mem_cons_self
theorem pairs_kept {w : Addr} {H1 H2 : Hp} (k : Kp w H1 H2) (hw : Wl H1 w) {vs : List V} {ps : List (Int × Int)} (h : Paired (PairAt H1) vs ps) : Paired (PairAt H2) vs ps := paired_map (fun v q ⟨b, z1, z2⟩ => ⟨b, z1, k.tup hw z2⟩) h
theorem paired_snoc {α β : Type} {F : α → β → Prop} {x : α} {y : β} : ∀ {xs : List α} {ys : List β}, Paired F xs ys → F x y → Paired F (xs ++ [x]) (ys ++ [y])
  | _, _, .nil, h => .cons h .nil
  | _, _, .cons r t, h => .cons r (paired_snoc t h)

section
variable {P : Program} {w : World} {K : PySem.W.Frag} {mg : Str → Option Value} {base : Heap}
theorem scLims : FnScope ["_law_well_here", "_law_every", "_law_span"] ["_law_well_here"] (defScope sLims) := ⟨rfl, rfl, rfl, by decide +kernel, rfl, by decide +kernel, by decide +kernel⟩
theorem ok_lims {f fD : Addr} {fd fdD : FuncData} (F : Fun K "_law_free_limits" "_law_free_limits" sLims f fd) (GD : FnOk P w K mg base CX0 1 fD fdD ["_law_well_here", "_law_most"] spDraw) (kp : keepIn K (.ref fD) = true) (bD : Binds K fdD ["_law_well_here", "_law_most"] []) (mD : mg "_law_draw" = some (.ref fD)) :
    FnOk P w K mg base CX0 2 f fd ["_law_well_here"] spLims := by
  refine F.ok scLims (fun vs H Q E h => ?_) (fun cdv A outer s H vs Q E hr h => ?_)
  · obtain ⟨w', rfl, _⟩ := h
    rfl
  · obtain ⟨w', rfl, hw, q⟩ := h
    refine ⟨_, pss_cons (ps_set (i := 1) scLims.nd rfl (Or.inl rfl) (pe_op op_add pe_int (pe_ix ix_list (pe_lst (pa_cons (pe_call GD hr rfl mD kp bD .nil pass0 (pa_cons (pv 0) (pa_cons pe_int pa_nil))) (pa_cons (pe_call GD hr rfl mD kp bD .nil pass0 (pa_cons (pv 0) (pa_cons (pe_op op_pow pe_int pe_int) pa_nil))) pa_nil))) (pe_call GD hr rfl mD kp bD .nil pass0 (pa_cons (pv 0) (pa_cons pe_int pa_nil))) (fun _ _ => rfl))))
      (pss_cons (ps_set (i := 2) scLims.nd rfl (Or.inl rfl) (pe_op op_add pe_int (pe_ix ix_list (pe_lst (pa_cons (pe_call GD hr rfl mD kp bD .nil pass0 (pa_cons (pv 0) (pa_cons pe_int pa_nil))) (pa_cons (pe_call GD hr rfl mD kp bD .nil pass0 (pa_cons (pv 0) (pa_cons (pe_op op_pow pe_int pe_int) pa_nil))) pa_nil))) (pe_call GD hr rfl mD kp bD .nil pass0 (pa_cons (pv 0) (pa_cons pe_int pa_nil))) (fun _ _ => rfl))))
      (pss_one (ps_ret (pe_tup (pa_cons (pv 2) (pa_cons (pv 1) (pa_cons (pe_op op_add (pv 1) (pe_ix ix_list (pe_lst (pa_cons pe_int (pa_cons (pe_call GD hr rfl mD kp bD .nil pass0 (pa_cons (pv 0) (pa_cons pe_int pa_nil))) (pa_cons (pe_call GD hr rfl mD kp bD .nil pass0 (pa_cons (pv 0) (pa_cons (pe_op op_pow pe_int pe_int) pa_nil))) pa_nil)))) (pe_call GD hr rfl mD kp bD .nil pass0 (pa_cons (pv 0) (pa_cons pe_int pa_nil))) (fun _ _ => rfl))) pa_nil))))))), ?_⟩
    have pw9 : CPow 10 9 := ⟨by decide, by decide, by decide⟩
    have pw17 : CPow 10 17 := ⟨by decide, by decide, by decide⟩
    have v9 : (10 : Int) ^ (9 : Int).toNat = 1000000000 := by decide
    have v17 : (10 : Int) ^ (17 : Int).toNat = 100000000000000000 := by decide
    have sz2 : (2 : Nat) ≤ sizeLine := by decide
    have sz3 : (3 : Nat) ≤ sizeLine := by decide
    -- every
    refine ⟨_, rfl, w', 9, rfl, hw, by decide, by decide, fun r1 H1 k1 a1 b1 => ?_⟩
    refine ⟨_, rfl, _, _, rfl, rfl, pw17, w', _, rfl, k1.wl, (by rw [v17]; decide), (by rw [v17]; decide), fun r2 H2 k2 a2 b2 => ⟨sz2, fun l1 h1 => ?_⟩⟩
    have kA : Kp w' H (upd H2 l1 (.lst [.int r1, .int r2])) := (k1.trans k2).same (same_upd h1)
    have e1 : (upd H2 l1 (.lst [.int r1, .int r2])) l1 = some (.lst [.int r1, .int r2]) := upd_same
    have n1 : l1 ≠ w' := (k2.wl.ne h1).symm
    generalize upd H2 l1 (.lst [.int r1, .int r2]) = H3 at kA e1 ⊢
    refine ⟨_, rfl, w', 2, rfl, kA.wl, by decide, by decide, fun r3 H4 k4 a3 b3 => ?_⟩
    obtain ⟨z1, m1, g1⟩ := pick (ns := [r1, r2]) (i := r3) a3 (by show r3 < ((2 : Nat) : Int); omega)
    refine ⟨l1, _, _, _, rfl, rfl, SqL.of (k4.at_ _ _ n1 e1), g1, _, _, rfl, rfl, ?_⟩
    have B1 : 0 ≤ z1 ∧ z1 < 100000000000000000 := by
      rw [v17] at b2
      simp only [List.mem_cons, List.not_mem_nil, or_false] at m1
      omega
    have kB := kA.trans k4
    -- span
    refine ⟨_, rfl, w', 9, rfl, kB.wl, by decide, by decide, fun r5 H5 k5 a5 b5 => ?_⟩
    refine ⟨_, rfl, _, _, rfl, rfl, pw17, w', _, rfl, k5.wl, (by rw [v17]; decide), (by rw [v17]; decide), fun r6 H6 k6 a6 b6 => ⟨sz2, fun l2 h2 => ?_⟩⟩
    have kC : Kp w' H (upd H6 l2 (.lst [.int r5, .int r6])) := (kB.trans (k5.trans k6)).same (same_upd h2)
    have e2 : (upd H6 l2 (.lst [.int r5, .int r6])) l2 = some (.lst [.int r5, .int r6]) := upd_same
    have n2 : l2 ≠ w' := (k6.wl.ne h2).symm
    generalize upd H6 l2 (.lst [.int r5, .int r6]) = H7 at kC e2 ⊢
    refine ⟨_, rfl, w', 2, rfl, kC.wl, by decide, by decide, fun r7 H8 k8 a7 b7 => ?_⟩
    obtain ⟨z2, m2, g2⟩ := pick (ns := [r5, r6]) (i := r7) a7 (by show r7 < ((2 : Nat) : Int); omega)
    refine ⟨l2, _, _, _, rfl, rfl, SqL.of (k8.at_ _ _ n2 e2), g2, _, _, rfl, rfl, ?_⟩
    have B2 : 0 ≤ z2 ∧ z2 < 100000000000000000 := by
      rw [v17] at b6
      simp only [List.mem_cons, List.not_mem_nil, or_false] at m2
      omega
    have kD := kC.trans k8
    -- least
    refine ⟨_, rfl, _, rfl, _, rfl, _, rfl, w', 9, rfl, kD.wl, by decide, by decide, fun r9 H9 k9 a9 b9 => ?_⟩
    refine ⟨_, rfl, _, _, rfl, rfl, pw9, w', _, rfl, k9.wl, (by rw [v9]; decide), (by rw [v9]; decide), fun r10 H10 k10 a10 b10 => ⟨sz3, fun l3 h3 => ?_⟩⟩
    have kE : Kp w' H (upd H10 l3 (.lst [.int 0, .int r9, .int r10])) := (kD.trans (k9.trans k10)).same (same_upd h3)
    have e3 : (upd H10 l3 (.lst [.int 0, .int r9, .int r10])) l3 = some (.lst [.int 0, .int r9, .int r10]) := upd_same
    have n3 : l3 ≠ w' := (k10.wl.ne h3).symm
    generalize upd H10 l3 (.lst [.int 0, .int r9, .int r10]) = H11 at kE e3 ⊢
    refine ⟨_, rfl, w', 3, rfl, kE.wl, by decide, by decide, fun r12 H12 k12 a12 b12 => ?_⟩
    obtain ⟨z3, m3, g3⟩ := pick (ns := [0, r9, r10]) (i := r12) a12 (by show r12 < ((3 : Nat) : Int); omega)
    refine ⟨l3, _, _, _, rfl, rfl, SqL.of (k12.at_ _ _ n3 e3), g3, _, _, rfl, rfl, sz3, fun p hp => ?_⟩
    have B3 : 0 ≤ z3 ∧ z3 < 1000000000 := by
      rw [v9] at b10
      simp only [List.mem_cons, List.not_mem_nil, or_false] at m3
      omega
    exact q p _ _ _ _ ((kE.trans k12).same (same_upd hp)) upd_same ⟨by omega, by omega⟩ ⟨by omega, by omega⟩ ⟨by omega, by omega⟩ (by omega) (by omega) (by omega)

theorem scMake : FnScope ["_law_well_here", "_law_far_here", "_law_at", "_law_found", "_law_k", "_law_high"] ["_law_well_here"] (defScope sMake) := ⟨rfl, rfl, rfl, by decide +kernel, rfl, by decide +kernel, by decide +kernel⟩
theorem ok_make {f fD : Addr} {fd fdD : FuncData} (F : Fun K "_law_free_work" "_law_free_work" sMake f fd) (G : Gb mg) (GD : FnOk P w K mg base CX0 1 fD fdD ["_law_well_here", "_law_most"] spDraw) (kp : keepIn K (.ref fD) = true) (bD : Binds K fdD ["_law_well_here", "_law_most"] []) (mD : mg "_law_draw" = some (.ref fD)) :
    FnOk P w K mg base CX0 2 f fd ["_law_well_here"] spMake := by
  refine F.ok scMake (fun vs H Q E h => ?_) (fun cdv A outer s H vs Q E hr h => ?_)
  · obtain ⟨w', rfl, _⟩ := h
    rfl
  · obtain ⟨w', rfl, hw, q⟩ := h
    refine ⟨_, pss_cons (ps_set (i := 1) scMake.nd rfl (Or.inl rfl) (pe_op op_sub (pe_op op_sub pe_int (pe_op op_pow pe_int pe_int)) (pe_call GD hr rfl mD kp bD .nil pass0 (pa_cons (pv 0) (pa_cons (pe_op op_pow pe_int pe_int) pa_nil)))))
      (pss_cons (ps_set (i := 2) scMake.nd rfl (Or.inl rfl) (pe_ix ix_list (pe_lst (pa_cons (pe_op op_sub (pe_call GD hr rfl mD kp bD .nil pass0 (pa_cons (pv 0) (pa_cons pe_int pa_nil))) pe_int) (pa_cons (pv 1) (pa_cons (pe_call GD hr rfl mD kp bD .nil pass0 (pa_cons (pv 0) (pa_cons (pe_op op_pow pe_int pe_int) pa_nil))) pa_nil)))) (pe_call GD hr rfl mD kp bD .nil pass0 (pa_cons (pv 0) (pa_cons pe_int pa_nil))) (fun _ _ => rfl)))
      (pss_cons (ps_set (i := 3) scMake.nd rfl (Or.inl rfl) (pe_lst pa_nil))
      (pss_cons (ps_for PassesOwn.never rfl (pi_range1 rfl G.range (pa_cons (pe_call GD hr rfl mD kp bD .nil pass0 (pa_cons (pv 0) (pa_cons pe_int pa_nil))) pa_nil)) (pg_name (i := 4) scMake.nd rfl (Or.inl rfl))
        (pss_cons (ps_set (i := 2) scMake.nd rfl (Or.inl rfl) (pe_op op_add (pv 2) (pe_ix ix_list (pe_lst (pa_cons pe_int (pa_cons (pe_call GD hr rfl mD kp bD .nil pass0 (pa_cons (pv 0) (pa_cons pe_int pa_nil))) (pa_cons (pe_call GD hr rfl mD kp bD .nil pass0 (pa_cons (pv 0) (pa_cons (pe_op op_pow pe_int pe_int) pa_nil))) pa_nil)))) (pe_call GD hr rfl mD kp bD .nil pass0 (pa_cons (pv 0) (pa_cons pe_int pa_nil))) (fun _ _ => rfl))))
        (pss_cons (ps_set (i := 5) scMake.nd rfl (Or.inl rfl) (pe_op op_add (pe_op op_add (pv 2) pe_int) (pe_ix ix_list (pe_lst (pa_cons (pe_call GD hr rfl mD kp bD .nil pass0 (pa_cons (pv 0) (pa_cons pe_int pa_nil))) (pa_cons (pe_call GD hr rfl mD kp bD .nil pass0 (pa_cons (pv 0) (pa_cons pe_int pa_nil))) pa_nil))) (pe_call GD hr rfl mD kp bD .nil pass0 (pa_cons (pv 0) (pa_cons pe_int pa_nil))) (fun _ _ => rfl))))
        (pss_cons (ps_expr (pe_bm PySem.F.plainAttrs_list PySem.F.slot_list_append PySem.F.type_list_append mt_append (pv 3) (pa_cons (pe_tup (pa_cons (pv 2) (pa_cons (pv 5) pa_nil))) pa_nil)))
        (pss_one (ps_set (i := 2) scMake.nd rfl (Or.inl rfl) (pv 5)))))))
      (pss_one (ps_ret (pe_callTy call_tuple_of (by rfl) G.tuple boot_t (pa_cons (pv 3) pa_nil))))))), ?_⟩
    have pw6 : CPow 10 6 := ⟨by decide, by decide, by decide⟩
    have pw9 : CPow 10 9 := ⟨by decide, by decide, by decide⟩
    have pw17 : CPow 10 17 := ⟨by decide, by decide, by decide⟩
    have v6 : (10 : Int) ^ (6 : Int).toNat = 1000000 := by decide
    have v9 : (10 : Int) ^ (9 : Int).toNat = 1000000000 := by decide
    have v17 : (10 : Int) ^ (17 : Int).toNat = 100000000000000000 := by decide
    have sz2 : (2 : Nat) ≤ sizeLine := by decide
    have sz3 : (3 : Nat) ≤ sizeLine := by decide
    have sl : sizeLine = 16777216 := sizeLine_eq
    -- far
    refine ⟨_, _, rfl, rfl, pw17, _, _, rfl, rfl, _, rfl, _, _, rfl, rfl, pw6, w', _, rfl, hw, (by rw [v6]; decide), (by rw [v6]; decide), fun r0 H0 k0 a0 b0 => ⟨_, _, rfl, rfl, ?_⟩⟩
    -- at
    refine ⟨_, rfl, w', 100, rfl, k0.wl, by decide, by decide, fun r1 H1 k1 a1 b1 => ⟨_, _, rfl, rfl, ?_⟩⟩
    refine ⟨_, rfl, _, rfl, _, _, rfl, rfl, pw17, w', _, rfl, k1.wl, (by rw [v17]; decide), (by rw [v17]; decide), fun r2 H2 k2 a2 b2 => ⟨sz3, fun l1 h1 => ?_⟩⟩
    have kA : Kp w' H (upd H2 l1 (.lst [.int (r1 - 50), .int (0 - 10 ^ (17 : Int).toNat - r0), .int r2])) := (k0.trans (k1.trans k2)).same (same_upd h1)
    have e1 : (upd H2 l1 (.lst [.int (r1 - 50), .int (0 - 10 ^ (17 : Int).toNat - r0), .int r2])) l1 = some (.lst [.int (r1 - 50), .int (0 - 10 ^ (17 : Int).toNat - r0), .int r2]) := upd_same
    have n1 : l1 ≠ w' := (k2.wl.ne h1).symm
    refine ⟨_, rfl, w', 3, rfl, kA.wl, by decide, by decide, fun r3 H4 k4 a3 b3 => ?_⟩
    obtain ⟨z1, m1, g1⟩ := pick (ns := [r1 - 50, 0 - 10 ^ (17 : Int).toNat - r0, r2]) (i := r3) a3 (by show r3 < ((3 : Nat) : Int); omega)
    refine ⟨l1, _, _, _, rfl, rfl, SqL.of (k4.at_ _ _ n1 e1), g1, ?_⟩
    have B1 : -200000000000000000 ≤ z1 ∧ z1 ≤ 200000000000000000 := by
      rw [v17] at b2 m1
      rw [v6] at b0
      simp only [List.mem_cons, List.not_mem_nil, or_false] at m1
      omega
    have kB := kA.trans k4
    -- found
    refine ⟨Nat.zero_le _, fun lf hf => ?_⟩
    have kC : Kp w' H (upd H4 lf (.lst [])) := kB.same (same_upd hf)
    have ef : (upd H4 lf (.lst [])) lf = some (.lst []) := upd_same
    have nf : lf ≠ w' := (kB.wl.ne hf).symm
    generalize upd H4 lf (.lst []) = H5 at kC ef ⊢
    have Hf : H lf = none := by
      cases z : H lf with
      | none => rfl
      | some o => rw [kB.at_ lf o nf z] at hf; cases hf
    refine ⟨_, rfl, w', 7, rfl, kC.wl, by decide, by decide, fun rn H6 k6 a6 b6 => ?_⟩
    refine ⟨rn, rfl, by omega, by omega, ?_⟩
    refine for_range (lo := 0) (n := rn.toNat) (fun i σ H7 => ∃ (at_ : Int) (vs : List V) (ps : List (Int × Int)) (fr : Option V) (u v : Option V), σ = [some (.ref w'), fr, some (.int at_), some (.ref lf), u, v] ∧ Kp w' H H7 ∧ H7 lf = some (.lst vs) ∧ Paired (PairAt H7) vs ps ∧ ps.length = i ∧ Lm.Wk ps ∧ (∀ q ∈ ps, q.2 ≤ at_) ∧ (∀ q ∈ ps, Bd q.1 ∧ Bd q.2) ∧ -200000000000000000 ≤ at_ ∧ at_ ≤ 200000000000000000 + 2000000000 * (i : Int))
      ⟨z1, [], [], _, _, _, rfl, kC.trans k6, k6.at_ _ _ nf ef, .nil, rfl, trivial, (fun q hq => absurd hq (by simp)), (fun q hq => absurd hq (by simp)), B1.1, by omega⟩ ?_ ?_
    · rintro i σ H7 hi ⟨at_, vs, ps, fr, u, v, rfl, kD, hF, pr, hlen, wk, wb, bd, c1, c2⟩
      have hi6 : i < 6 := by omega
      refine ⟨_, rfl, _, rfl, w', 9, rfl, kD.wl, by decide, by decide, fun s1 G1 j1 d1 f1 => ?_⟩
      refine ⟨_, rfl, _, _, rfl, rfl, pw9, w', _, rfl, j1.wl, (by rw [v9]; decide), (by rw [v9]; decide), fun s2 G2 j2 d2 f2 => ⟨sz3, fun l2 h2 => ?_⟩⟩
      have t1 : Kp w' H7 (upd G2 l2 (.lst [.int 0, .int s1, .int s2])) := (j1.trans j2).same (same_upd h2)
      have e2 : (upd G2 l2 (.lst [.int 0, .int s1, .int s2])) l2 = some (.lst [.int 0, .int s1, .int s2]) := upd_same
      have n2 : l2 ≠ w' := (j2.wl.ne h2).symm
      generalize upd G2 l2 (.lst [.int 0, .int s1, .int s2]) = G3 at t1 e2 ⊢
      refine ⟨_, rfl, w', 3, rfl, t1.wl, by decide, by decide, fun s3 G4 j4 d3 f3 => ?_⟩
      obtain ⟨x1, mx1, gx1⟩ := pick (ns := [0, s1, s2]) (i := s3) d3 (by show s3 < ((3 : Nat) : Int); omega)
      refine ⟨l2, _, _, _, rfl, rfl, SqL.of (j4.at_ _ _ n2 e2), gx1, _, _, rfl, rfl, ?_⟩
      have bx1 : 0 ≤ x1 ∧ x1 ≤ 1000000000 := by
        rw [v9] at f2
        simp only [List.mem_cons, List.not_mem_nil, or_false] at mx1
        omega
      have t2 := t1.trans j4
      -- high
      refine ⟨_, rfl, _, _, rfl, rfl, _, rfl, w', 9, rfl, t2.wl, by decide, by decide, fun s5 G5 j5 d5 f5 => ?_⟩
      refine ⟨_, rfl, w', 150, rfl, j5.wl, by decide, by decide, fun s6 G6 j6 d6 f6 => ⟨sz2, fun l3 h3 => ?_⟩⟩
      have t3 : Kp w' H7 (upd G6 l3 (.lst [.int s5, .int s6])) := (t2.trans (j5.trans j6)).same (same_upd h3)
      have e3 : (upd G6 l3 (.lst [.int s5, .int s6])) l3 = some (.lst [.int s5, .int s6]) := upd_same
      have n3 : l3 ≠ w' := (j6.wl.ne h3).symm
      generalize upd G6 l3 (.lst [.int s5, .int s6]) = G7 at t3 e3 ⊢
      refine ⟨_, rfl, w', 2, rfl, t3.wl, by decide, by decide, fun s7 G8 j8 d7 f7 => ?_⟩
      obtain ⟨x2, mx2, gx2⟩ := pick (ns := [s5, s6]) (i := s7) d7 (by show s7 < ((2 : Nat) : Int); omega)
      refine ⟨l3, _, _, _, rfl, rfl, SqL.of (j8.at_ _ _ n3 e3), gx2, _, _, rfl, rfl, ?_⟩
      have bx2 : 0 ≤ x2 ∧ x2 < 150 := by
        simp only [List.mem_cons, List.not_mem_nil, or_false] at mx2
        omega
      have t4 := t3.trans j8
      have hF8 := t4.at_ _ _ nf hF
      have pr8 := pairs_kept t4 kD.wl pr
      -- append
      refine ⟨_, rfl, .inl ⟨rfl, _, SqL.of hF8⟩, _, rfl, _, rfl, sz2, fun t ht => ?_⟩
      have nt : lf ≠ t := ne_of_none hF8 ht
      have lv : vs.length ≤ 6 := by rw [pr.length]; omega
      refine ⟨lf, _, _, rfl, rfl, by rw [upd_ne nt]; exact hF8, by omega, ?_⟩
      refine ⟨_, rfl, at_ + x1 + 1 + x2, vs ++ [.ref t], ps ++ [(at_ + x1, at_ + x1 + 1 + x2)], _, _, _, rfl, ?_, upd_same, ?_, by rw [List.length_append, hlen]; rfl, wk_snoc wk (fun q hq => Int.le_trans (wb q hq) (by omega)) (by omega), fun q hq => ?_, fun q hq => ?_, by omega, by omega⟩
      · have k8 := kD.trans t4
        refine ⟨fun x o n z => ?_, ?_⟩
        · have z8 := k8.at_ x o n z
          have nx : x ≠ lf := ne_of_none z Hf
          rw [upd_ne nx, upd_ne (ne_of_none z8 ht)]
          exact z8
        · obtain ⟨a, b, c, hw8⟩ := k8.wl
          refine ⟨a, b, c, ?_⟩
          rw [upd_ne nf.symm, upd_ne (ne_of_none hw8 ht)]
          exact hw8
      · have keep : ∀ (b : Addr) (ys : List V), G8 b = some (.tup ys) → (upd (upd G8 t (.tup [.int (at_ + x1), .int (at_ + x1 + 1 + x2)])) lf (.lst (vs ++ [.ref t]))) b = some (.tup ys) := fun b ys z => by
          rw [upd_ne (ne_of z hF8 (by intro w; cases w)), upd_ne (ne_of_none z ht)]
          exact z
        refine paired_snoc (paired_map (fun v q ⟨b, z1, z2⟩ => ⟨b, z1, keep b _ z2⟩) pr8) ⟨t, rfl, ?_⟩
        rw [upd_ne nt.symm]
        exact upd_same
      · rcases List.mem_append.mp hq with hq | hq
        · exact Int.le_trans (wb q hq) (by omega)
        · cases List.mem_singleton.mp hq
          exact Int.le_refl _
      · rcases List.mem_append.mp hq with hq | hq
        · exact bd q hq
        · cases List.mem_singleton.mp hq
          exact ⟨⟨by show _ < at_ + x1; omega, by show at_ + x1 < _; omega⟩, ⟨by show _ < at_ + x1 + 1 + x2; omega, by show at_ + x1 + 1 + x2 < _; omega⟩⟩
    · rintro σ H7 ⟨at_, vs, ps, fr, u, v, rfl, kD, hF, pr, hlen, wk, wb, bd, c1, c2⟩
      refine ⟨_, rfl, lf, _, rfl, .inl ⟨SqL.of hF, fun p hp => ?_⟩⟩
      refine q p ps _ (kD.same (same_upd hp)) ⟨vs, upd_same, paired_map (fun v q ⟨b, z1, z2⟩ => ⟨b, z1, same_upd hp _ _ z2⟩) pr, by omega, bd⟩ wk
end
end Lt

set_option maxHeartbeats 4000000
namespace L2
open PySem PySem.Spec PyProof.Rows
theorem Takes.of {X : Cx} {NB : List Str} {n : Nat} {js : List Nat} {scope : Scope} {cl : List (Str × Addr)} (clo : closureFor scope X.env = pure cl) (hsub : ∀ p ∈ cl, X.env.cells.lookup p.1 = some p.2)
    (hhas : ∀ p ∈ (relabel scope X.env).names, (p.2 = .cell ∨ p.2 = .free) → (cl.lookup p.1).isSome = true) (len : NB.length = n + js.length) (nam : ∀ k j, js[k]? = some j → NB[n + k]? = X.N[j]?)
    (ck : ∀ x ∈ NB.drop n, ((relabel scope X.env).names.lookup x = some .cell ∨ (relabel scope X.env).names.lookup x = some .free) ∧ (X.env.kindOf x = some .cell ∨ X.env.kindOf x = some .free) ∧ (cl.lookup x).isSome = true) : Takes X NB n js scope cl :=
  ⟨clo, fun x c q => hsub (x, c) (PySem.mem_of_lookup q), fun x q => q.elim (fun z => hhas (x, _) (PySem.mem_of_lookup z) (.inl rfl)) fun z => hhas (x, _) (PySem.mem_of_lookup z) (.inr rfl), len, nam, fun x _ hx => ck x hx⟩
theorem all_nil {α : Type} {P : α → Prop} : ∀ x ∈ ([] : List α), P x := fun x hx => absurd hx (by simp)
theorem all_cons {α : Type} {P : α → Prop} {a : α} {l : List α} (h : P a) (t : ∀ x ∈ l, P x) : ∀ x ∈ a :: l, P x := fun x hx => by
  rcases List.mem_cons.mp hx with rfl | hx
  · exact h
  · exact t x hx
end L2
namespace Lt
open PySem L2 PySem.W

def spWord : Sp := fun vs H Q _ => ∃ (w : Addr), vs = [.ref w] ∧ Wl H w ∧ ∀ x H', Kp w H H' → Tm.wdB x = true → Q (.str x) H'
theorem ndW : (["_law_k", "_law_signs", "_law_well_here"] : List Str).Nodup := by decide +kernel
theorem ndF : (["_law_k", "_law_well_here"] : List Str).Nodup := by decide +kernel
theorem Kp.fresh {w p : Addr} {H H' : Hp} (k : Kp w H H') (n : p ≠ w) (e : H' p = none) : H p = none := by
  cases z : H p with
  | none => rfl
  | some o => rw [k.at_ p o n z] at e; cases e
theorem Kp.upd {w p : Addr} {H H' : Hp} {o : HO} (k : Kp w H H') (n : p ≠ w) (e : H p = none) : Kp w H (upd H' p o) := by
  refine ⟨fun x u nx z => ?_, ?_⟩
  · rw [upd_ne (ne_of_none z e)]
    exact k.at_ x u nx z
  · obtain ⟨a, b, c, h⟩ := k.wl
    exact ⟨a, b, c, by rw [upd_ne n.symm]; exact h⟩
theorem sg_join : ∀ zs : List Str, Tm.sg (Txt.join "" zs) = zs.flatMap Tm.sg := fun zs => by
  have e : Txt.join "" zs = Str.join Str.empty zs := StrLaws.glued_eq_join _ _
  rw [e]
  clear e
  induction zs with
  | nil => rfl
  | cons z t ih =>
    cases t with
    | nil =>
      show Tm.sg z = Tm.sg z ++ []
      rw [List.append_nil]
    | cons y r =>
      rw [Tm.join_two, Str.append_empty, Tm.sg_app, ih]
      rfl
theorem one_sum : ∀ (zs : List Str), (∀ z ∈ zs, z.length = 1) → (zs.map fun z => z.length).sum = zs.length
  | [], _ => rfl
  | z :: zs, h => by
    rw [List.map_cons, List.sum_cons, h z (by simp), one_sum zs fun y hy => h y (by simp [hy]), List.length_cons]
    omega

section
variable {P : Program} {w : World} {K : PySem.W.Frag} {mg : Str → Option Value} {base : Heap}
theorem scWord : FnScope ["_law_well_here", "_law_signs"] ["_law_well_here"] (defScope sWord) := ⟨rfl, rfl, rfl, by decide +kernel, rfl, by decide +kernel, by decide +kernel⟩
theorem ok_word {f fD : Addr} {fd fdD : FuncData} (F : Fun K "_law_any_word" "_law_any_word" sWord f fd) (G : Gb mg) (GD : FnOk P w K mg base CX0 1 fD fdD ["_law_well_here", "_law_most"] spDraw) (kp : keepIn K (.ref fD) = true) (bD : Binds K fdD ["_law_well_here", "_law_most"] []) (mD : mg "_law_draw" = some (.ref fD)) :
    FnOk P w K mg base CX0 2 f fd ["_law_well_here"] spWord := by
  refine F.ok scWord (fun vs H Q E h => ?_) (fun cdv A outer s H vs Q E hr h => ?_)
  · obtain ⟨w', rfl, _⟩ := h
    rfl
  · obtain ⟨w', rfl, hw, q⟩ := h
    refine ⟨_, pss_cons (ps_set (i := 1) scWord.nd rfl (Or.inr rfl) pe_str) (pss_one (ps_ret (pe_bm PySem.F.plainAttrs_str PySem.F.slot_str_join PySem.F.type_str_join mt_join pe_str (pa_cons
      (pe_compF (NB := ["_law_k", "_law_signs", "_law_well_here"]) (n := 1) (js := [1, 0]) (cl := [("_law_well_here", s.heap.objs.size + 1), ("_law_signs", s.heap.objs.size + 1 + 1)]) rfl (by decide +kernel) (by decide +kernel) rfl
        (Takes.of rfl (all_cons rfl (all_cons rfl all_nil)) (all_cons (fun z => nomatch z) (all_cons (fun z => nomatch z) (all_cons (fun z => nomatch z) (all_cons (fun _ => rfl) (all_cons (fun _ => rfl) all_nil))))) rfl
          (fun k j h => match k, j, h with | 0, _, rfl => rfl | 1, _, rfl => rfl | k + 2, _, h => absurd h (by simp)) (all_cons ⟨.inl rfl, .inl rfl, rfl⟩ (all_cons ⟨.inl rfl, .inl rfl, rfl⟩ all_nil)))
        (pi_range1 rfl G.range (pa_cons (pe_op op_add pe_int (pe_call GD hr rfl mD kp bD .nil pass0 (pa_cons (pv 0) (pa_cons pe_int pa_nil)))) pa_nil))
        (fun C s H fp pn => pg_name (i := 0) ndW rfl (Or.inl rfl) (.inr rfl)) (fun C s H fp pn => pts_nil)
        (fun C s H fp pn => pe_item_str (pv 1) (pe_call GD hr rfl mD kp bD .nil pass0 (pa_cons (pv 2) (pa_cons pe_int pa_nil))) (fun _ _ => rfl))) pa_nil)))), ?_⟩
    have hz : ∃ z : Str, z = "!\"#$&'()*+,-./0123456789:;<=>?@ABCDEFGHIJKLMNOPQRSTUVWXYZ[\\]^_`abcdefghijklmnopqrstuvwxyz{|}~" ∧ z.length = 93 := ⟨_, rfl, by decide +kernel⟩
    obtain ⟨z, ez, lz⟩ := hz
    have az : ∀ c ∈ Tm.sg z, 33 ≤ c ∧ c ≤ 126 := fun c hc => by
      have h0 : (Tm.sg z).all (fun c => decide (33 ≤ c) && decide (c ≤ 126)) = true := by
        rw [ez]
        decide +kernel
      have := List.all_eq_true.mp h0 c hc
      simpa using this
    rw [← ez]
    have sl : sizeLine = 16777216 := sizeLine_eq
    refine ⟨rfl, _, rfl, w', 12, rfl, hw, by decide, by decide, fun r1 H1 k1 a1 b1 => ?_⟩
    refine ⟨_, _, rfl, rfl, 1 + r1, rfl, by omega, by omega, fun acc hacc => ?_⟩
    have na : acc ≠ w' := (k1.wl.ne hacc).symm
    have ha0 : H acc = none := k1.fresh na hacc
    refine ⟨fun i m ys H' => m = (1 + r1).toNat - i ∧ i ≤ (1 + r1).toNat ∧ (∃ zs : List Str, ys = zs.map V.str ∧ zs.length = i ∧ ∀ z ∈ zs, z.length = 1 ∧ ∀ c ∈ Tm.sg z, 33 ≤ c ∧ c ≤ 126) ∧ Kp w' H H' ∧ H' acc = some (.lst ys), ⟨_, rfl, Nat.zero_le _, ⟨[], rfl, rfl, all_nil⟩, k1.upd na ha0, upd_same⟩, ?_⟩
    rintro i m ys H' ⟨rfl, hi, ⟨zs, rfl, hzl, hz1⟩, kA, ha⟩
    refine ⟨ha, ?_⟩
    by_cases hlt : i < (1 + r1).toNat
    · refine .inr ⟨hlt, ?_⟩
      rintro x H'' ⟨rfl, rfl⟩
      refine gName_in ?_
      refine ⟨rfl, ?_⟩
      refine tYes_in ?_
      refine iteT ?_
      refine ⟨_, rfl, _, rfl, w', 93, rfl, kA.wl, by decide, by decide, fun r H2 k2 a2 b2 => ?_⟩
      have hr' : r.toNat < z.cps.size := by
        have : z.cps.size = 93 := lz
        omega
      refine ⟨z, r, z.cps[r.toNat], rfl, rfl, a2, by omega, by rw [lz]; omega, Array.getElem?_eq_getElem hr', k2.at_ _ _ na ha, by rw [List.length_map]; omega, _, ?_, rfl, hlt, ⟨zs ++ [⟨#[z.cps[r.toNat]]⟩], ?_, ?_, ?_⟩, (kA.trans k2).upd na ha0, upd_same⟩
      · omega
      · rw [List.map_append]
        rfl
      · rw [List.length_append, hzl]
        rfl
      · intro y hy
        rcases List.mem_append.mp hy with hy | hy
        · exact hz1 y hy
        · rw [List.mem_singleton.mp hy]
          refine ⟨rfl, fun c hc => ?_⟩
          cases List.mem_singleton.mp hc
          exact az _ (Array.getElem_mem_toList hr')
    · have s1 := one_sum zs fun z h => (hz1 z h).1
      have l0 : (Str.ofString "").length = 0 := by decide +kernel
      have hj := join_len "" zs
      rw [l0] at hj
      refine .inl ⟨by show (1 + r1).toNat ≤ i; omega, ?_⟩
      refine ⟨"", acc, zs, rfl, rfl, SqL.of ha, ?_, q _ _ kA ?_⟩
      · rw [l0, s1]
        omega
      · have sj := sg_join zs
        have lj := Tm.sg_len (Txt.join "" zs)
        rw [sj, List.length_flatMap] at lj
        have l1 : (zs.map fun a => (Tm.sg a).length).sum = zs.length := by
          rw [← s1]
          rfl
        have lj' : (Txt.join "" zs).length = zs.length := by omega
        refine Tm.wd_iff.mpr ⟨by omega, by omega, fun c hc => ?_⟩
        rw [sj] at hc
        obtain ⟨z, hz, hc⟩ := List.mem_flatMap.mp hc
        exact (hz1 z hz).2 c hc

theorem scFree : FnScope ["_law_well_here", "_law_way", "_law_one", "_law_other", "_law_odd", "_law_worker", "_law_many"] ["_law_well_here"] (defScope sFree) := ⟨rfl, rfl, rfl, by decide +kernel, rfl, by decide +kernel, by decide +kernel⟩
def spFree : Sp := fun vs H Q _ => ∃ (w : Addr), vs = [.ref w] ∧ Wl H w ∧ ∀ p xs H', Kp w H H' → LnAt H' p xs → xs.Ok → Q (.ref p) H'
theorem pickS {ns : List Str} {i : Int} (h0 : 0 ≤ i) (h1 : i < ns.length) : ∃ z, z ∈ ns ∧ atI (ns.map V.str) i = some (.str z) := by
  obtain ⟨k, rfl⟩ := Int.eq_ofNat_of_zero_le h0
  have hk : k < ns.length := by omega
  exact ⟨ns[k], List.getElem_mem hk, atI_nat (by rw [List.getElem?_map, List.getElem?_eq_getElem hk]; rfl)⟩
theorem ok_free {f fD fA fW : Addr} {fd fdD fdA fdW : FuncData} (F : Fun K "_law_free_line" "_law_free_line" sFree f fd) (G : Gb mg)
    (GD : FnOk P w K mg base CX0 1 fD fdD ["_law_well_here", "_law_most"] spDraw) (kp : keepIn K (.ref fD) = true) (bD : Binds K fdD ["_law_well_here", "_law_most"] []) (mD : mg "_law_draw" = some (.ref fD))
    (GA : FnOk P w K mg base CX0 2 fA fdA ["_law_well_here"] spFar) (kA : keepIn K (.ref fA) = true) (bA : Binds K fdA ["_law_well_here"] []) (mA : mg "_law_far" = some (.ref fA))
    (GW : FnOk P w K mg base CX0 2 fW fdW ["_law_well_here"] spWord) (kW : keepIn K (.ref fW) = true) (bW : Binds K fdW ["_law_well_here"] []) (mW : mg "_law_any_word" = some (.ref fW)) :
    FnOk P w K mg base CX0 3 f fd ["_law_well_here"] spFree := by
  refine F.ok scFree (fun vs H Q E h => ?_) (fun cdv A outer s H vs Q E hr h => ?_)
  · obtain ⟨w', rfl, _⟩ := h
    rfl
  · obtain ⟨w', rfl, hw, q⟩ := h
    have GD2 : FnOk P w K mg base CX0 2 fD fdD ["_law_well_here", "_law_most"] spDraw := GD.mono (by decide)
    refine ⟨_, (pss_cons (ps_set (i := 1) scFree.nd rfl (Or.inl rfl) (pe_call GD2 hr rfl mD kp bD .nil pass0 (pa_cons (pv 0) (pa_cons pe_int pa_nil)))) (pss_cons (ps_set (i := 2) scFree.nd rfl (Or.inl rfl) (pe_call GA hr rfl mA kA bA .nil pass0 (pa_cons (pv 0) pa_nil))) (pss_cons (ps_set (i := 3) scFree.nd rfl (Or.inl rfl) (pe_call GA hr rfl mA kA bA .nil pass0 (pa_cons (pv 0) pa_nil))) (pss_cons (ps_if (pt_cmpR op_eq (pv 1) pe_int (nomark _)) (pss_cons (ps_set (i := 4) scFree.nd rfl (Or.inl rfl) (pe_ix ix_list (pe_lst (pa_cons pe_str (pa_cons pe_str pa_nil))) (pe_call GD2 hr rfl mD kp bD .nil pass0 (pa_cons (pv 0) (pa_cons pe_int pa_nil))) (fun _ _ => rfl))) (pss_cons (ps_set (i := 5) scFree.nd rfl (Or.inl rfl) (pe_ix ix_list (pe_lst (pa_cons (pe_call GW hr rfl mW kW bW .nil pass0 (pa_cons (pv 0) pa_nil)) (pa_cons (pe_call GW hr rfl mW kW bW .nil pass0 (pa_cons (pv 0) pa_nil)) (pa_cons pe_str (pa_cons (pv 4) pa_nil))))) (pe_call GD2 hr rfl mD kp bD .nil pass0 (pa_cons (pv 0) (pa_cons pe_int pa_nil))) (fun _ _ => rfl))) (pss_one (ps_ret (pe_tup (pa_cons pe_str (pa_cons (pv 2) (pa_cons (pv 5) (pa_cons (pv 3) (pa_cons (pe_call GA hr rfl mA kA bA .nil pass0 (pa_cons (pv 0) pa_nil)) pa_nil)))))))))) pss_nil) (pss_cons (ps_if (pt_cmpR op_lt (pv 1) pe_int (nomark _)) (pss_cons (ps_set (i := 6) scFree.nd rfl (Or.inl rfl) (pe_ix ix_list (pe_lst (pa_cons pe_int (pa_cons (pe_call GD2 hr rfl mD kp bD .nil pass0 (pa_cons (pv 0) (pa_cons pe_int pa_nil))) (pa_cons (pe_call GD2 hr rfl mD kp bD .nil pass0 (pa_cons (pv 0) (pa_cons pe_int pa_nil))) pa_nil)))) (pe_call GD2 hr rfl mD kp bD .nil pass0 (pa_cons (pv 0) (pa_cons pe_int pa_nil))) (fun _ _ => rfl))) (pss_one (ps_ret (pe_tup (pa_cons pe_str (pa_cons (pv 2) (pa_cons (pv 3) (pa_cons (pe_call GA hr rfl mA kA bA .nil pass0 (pa_cons (pv 0) pa_nil)) (pa_cons (pe_callTy call_tuple_of (by rfl) G.tuple boot_t (pa_cons (pe_compF (NB := ["_law_k", "_law_well_here"]) (n := 1) (js := [0]) (cl := [("_law_well_here", s.heap.objs.size + 1)]) rfl (by decide +kernel) (by decide +kernel) rfl
            (Takes.of rfl (all_cons rfl all_nil) (all_cons (fun z => nomatch z) (all_cons (fun z => nomatch z) (all_cons (fun z => nomatch z) (all_cons (fun _ => rfl) all_nil)))) rfl
              (fun k j h => match k, j, h with | 0, _, rfl => rfl | k + 1, _, h => absurd h (by simp)) (all_cons ⟨.inl rfl, .inl rfl, rfl⟩ all_nil))
            (pi_range1 rfl G.range (pa_cons (pv 6) pa_nil))
            (fun C s H fp pn => pg_name (i := 0) ndF rfl (Or.inl rfl) (.inr rfl)) (fun C s H fp pn => pts_nil)
            (fun C s H fp pn => pe_call GA hr rfl mA kA bA .nil pass0 (pa_cons (pv 1) pa_nil))) pa_nil)) pa_nil))))))))) pss_nil) (pss_cons (ps_if (pt_cmpR op_eq (pv 1) pe_int (nomark _)) (pss_one (ps_ret (pe_tup (pa_cons pe_str (pa_cons (pv 2) (pa_cons (pv 3) pa_nil)))))) pss_nil) (pss_cons (ps_if (pt_cmpR op_eq (pv 1) pe_int (nomark _)) (pss_one (ps_ret (pe_tup (pa_cons pe_str (pa_cons (pv 2) (pa_cons (pv 3) pa_nil)))))) pss_nil) (pss_one (ps_ret (pe_tup (pa_cons pe_str (pa_cons (pv 2) pa_nil)))))))))))), ?_⟩
    have sl : sizeLine = 16777216 := sizeLine_eq
    refine ⟨_, rfl, w', 6, rfl, hw, by decide, by decide, fun way H1 k1 a1 b1 => ?_⟩
    refine ⟨_, rfl, w', rfl, k1.wl, fun one H2 k2 c2 => ?_⟩
    refine ⟨_, rfl, w', rfl, k2.wl, fun other H3 k3 c3 => ?_⟩
    have kA : Kp w' H H3 := k1.trans (k2.trans k3)
    refine ⟨_, rfl, rfl, _, rfl, ?_⟩
    refine ite2 (fun _ => ?_) (fun _ => ?_)
    · -- lent
      refine ⟨by show 2 ≤ sizeLine; decide, fun l1 h1 => ?_⟩
      have kB : Kp w' H (upd H3 l1 (.lst [.str "lent", .str "0"])) := kA.same (same_upd h1)
      have e1 : (upd H3 l1 (.lst [.str "lent", .str "0"])) l1 = some (.lst [.str "lent", .str "0"]) := upd_same
      have n1 : l1 ≠ w' := (kA.wl.ne h1).symm
      refine ⟨_, rfl, w', 2, rfl, kB.wl, by decide, by decide, fun r4 H4 k4 a4 b4 => ?_⟩
      obtain ⟨z1, m1, g1⟩ := pickS (ns := ["lent", "0"]) (i := r4) a4 (by show r4 < ((2 : Nat) : Int); omega)
      have B1 : Tm.wdB z1 = true := by
        simp only [List.mem_cons, List.not_mem_nil, or_false] at m1
        rcases m1 with rfl | rfl <;> decide +kernel
      refine ⟨l1, _, _, _, rfl, rfl, SqL.of (k4.at_ _ _ n1 e1), g1, ?_⟩
      have kC := kB.trans k4
      refine ⟨_, rfl, w', rfl, kC.wl, fun x5 H5 k5 c5 => ?_⟩
      refine ⟨_, rfl, w', rfl, k5.wl, fun x6 H6 k6 c6 => ?_⟩
      refine ⟨_, rfl, by show 4 ≤ sizeLine; decide, fun l2 h2 => ?_⟩
      have kD : Kp w' H (upd H6 l2 (.lst [.str x5, .str x6, .str "ann", .str z1])) := (kC.trans (k5.trans k6)).same (same_upd h2)
      have e2 : (upd H6 l2 (.lst [.str x5, .str x6, .str "ann", .str z1])) l2 = some (.lst [.str x5, .str x6, .str "ann", .str z1]) := upd_same
      have n2 : l2 ≠ w' := (k6.wl.ne h2).symm
      refine ⟨_, rfl, w', 4, rfl, kD.wl, by decide, by decide, fun r7 H7 k7 a7 b7 => ?_⟩
      obtain ⟨z2, m2, g2⟩ := pickS (ns := [x5, x6, "ann", z1]) (i := r7) a7 (by show r7 < ((4 : Nat) : Int); omega)
      have B2 : Tm.wdB z2 = true := by
        simp only [List.mem_cons, List.not_mem_nil, or_false] at m2
        rcases m2 with rfl | rfl | rfl | rfl
        · exact c5
        · exact c6
        · decide +kernel
        · exact B1
      refine ⟨l2, _, _, _, rfl, rfl, SqL.of (k7.at_ _ _ n2 e2), g2, ?_⟩
      have kE := kD.trans k7
      refine ⟨_, rfl, _, rfl, _, rfl, _, rfl, w', rfl, kE.wl, fun x8 H8 k8 c8 => ⟨by show 5 ≤ sizeLine; decide, fun p hp => ?_⟩⟩
      exact q p (.lent one z2 other x8) _ ((kE.trans k8).same (same_upd hp)) upd_same ⟨c2.bd, B2, c3.bd, c8.bd⟩
    · refine ⟨_, rfl, _, _, rfl, rfl, _, rfl, ?_⟩
      refine ite2 (fun _ => ?_) (fun _ => ?_)
      · -- told
        refine ⟨_, rfl, w', 4, rfl, kA.wl, by decide, by decide, fun r1 H4 k4 a4 b4 => ?_⟩
        refine ⟨_, rfl, w', 40, rfl, k4.wl, by decide, by decide, fun r2 H5 k5 a5 b5 => ⟨by show 3 ≤ sizeLine; decide, fun l1 h1 => ?_⟩⟩
        have kB : Kp w' H (upd H5 l1 (.lst [.int 0, .int r1, .int r2])) := (kA.trans (k4.trans k5)).same (same_upd h1)
        have e1 : (upd H5 l1 (.lst [.int 0, .int r1, .int r2])) l1 = some (.lst [.int 0, .int r1, .int r2]) := upd_same
        have n1 : l1 ≠ w' := (k5.wl.ne h1).symm
        refine ⟨_, rfl, w', 3, rfl, kB.wl, by decide, by decide, fun r3 H6 k6 a6 b6 => ?_⟩
        obtain ⟨z1, m1, g1⟩ := pick (ns := [0, r1, r2]) (i := r3) a6 (by show r3 < ((3 : Nat) : Int); omega)
        refine ⟨l1, _, _, _, rfl, rfl, SqL.of (k6.at_ _ _ n1 e1), g1, ?_⟩
        have B1 : 0 ≤ z1 ∧ z1 ≤ 40 := by
          simp only [List.mem_cons, List.not_mem_nil, or_false] at m1
          omega
        have kC := kB.trans k6
        refine ⟨_, rfl, _, rfl, _, rfl, w', rfl, kC.wl, fun x7 H7 k7 c7 => ?_⟩
        have kD := kC.trans k7
        refine ⟨_, rfl, z1, rfl, by omega, by omega, fun acc hacc => ?_⟩
        have na : acc ≠ w' := (kD.wl.ne hacc).symm
        have ha0 : H acc = none := kD.fresh na hacc
        refine ⟨fun i m ys H' => m = z1.toNat - i ∧ i ≤ z1.toNat ∧ (∃ ns : List Int, ys = ns.map V.int ∧ ns.length = i ∧ ∀ n ∈ ns, Bd n) ∧ Kp w' H H' ∧ H' acc = some (.lst ys), ⟨_, rfl, Nat.zero_le _, ⟨[], rfl, rfl, all_nil⟩, kD.upd na ha0, upd_same⟩, ?_⟩
        rintro i m ys H' ⟨rfl, hi, ⟨ns, rfl, hnl, hn1⟩, kE, ha⟩
        refine ⟨ha, ?_⟩
        by_cases hlt : i < z1.toNat
        · refine .inr ⟨hlt, ?_⟩
          rintro x H'' ⟨rfl, rfl⟩
          refine gName_in ?_
          refine ⟨rfl, ?_⟩
          refine tYes_in ?_
          refine iteT ?_
          refine ⟨_, rfl, w', rfl, kE.wl, fun r H9 k9 c9 => ?_⟩
          refine ⟨k9.at_ _ _ na ha, by rw [List.length_map]; omega, _, ?_, rfl, hlt, ⟨ns ++ [r], ?_, ?_, ?_⟩, (kE.trans k9).upd na ha0, upd_same⟩
          · omega
          · rw [List.map_append]
            rfl
          · rw [List.length_append, hnl]
            rfl
          · intro y hy
            rcases List.mem_append.mp hy with hy | hy
            · exact hn1 y hy
            · rw [List.mem_singleton.mp hy]
              exact c9.bd
        · refine .inl ⟨by show z1.toNat ≤ i; omega, acc, _, rfl, .inl ⟨SqL.of ha, fun t ht => ⟨by show 5 ≤ sizeLine; decide, fun p hp => ?_⟩⟩⟩
          exact q p (.told one other x7 ns) _ ((kE.same (same_upd ht)).same (same_upd hp)) ⟨_, upd_same, same_upd hp _ _ upd_same⟩ ⟨c2.bd, c3.bd, c7.bd, by omega, hn1⟩
      · refine ⟨_, rfl, rfl, _, rfl, ?_⟩
        refine ite2 (fun _ => ?_) (fun _ => ?_)
        · refine ⟨_, rfl, _, rfl, by show 3 ≤ sizeLine; decide, fun p hp => ?_⟩
          exact q p (.back one other) _ (kA.same (same_upd hp)) upd_same ⟨c2.bd, c3.bd⟩
        · refine ⟨_, rfl, rfl, _, rfl, ?_⟩
          refine ite2 (fun _ => ?_) (fun _ => ?_)
          · refine ⟨_, rfl, _, rfl, by show 3 ≤ sizeLine; decide, fun p hp => ?_⟩
            exact q p (.cut one other) _ (kA.same (same_upd hp)) upd_same ⟨c2.bd, c3.bd⟩
          · refine ⟨_, rfl, by show 2 ≤ sizeLine; decide, fun p hp => ?_⟩
            exact q p (.join one) _ (kA.same (same_upd hp)) upd_same c2.bd
end
end Lt


set_option maxHeartbeats 4000000
namespace Ls
open PySem L2 PySem.W

/-! ### the text by places -/
def top (i : Nat) : Stmt := PySem.Challenge.pw_lentwork_k35_books_read.main.body.getD i (.Pass ⟨0, 0, 0, 0⟩)
abbrev sWhole : Stmt := top 6
abbrev sStretch : Stmt := top 7
abbrev sWork : Stmt := top 8
abbrev sCheck : Stmt := top 9

theorem len1 {α : Type} {us : List α} (h : us.length = 1) : ∃ a, us = [a] := by
  cases us with
  | nil => cases h
  | cons a t => exact ⟨a, by rw [List.length_eq_zero_iff.mp (Nat.succ.inj h)]⟩
theorem len2 {α : Type} {us : List α} (h : us.length = 2) : ∃ a b, us = [a, b] := by
  cases us with
  | nil => cases h
  | cons a t =>
    obtain ⟨b, rfl⟩ := len1 (Nat.succ.inj h)
    exact ⟨a, b, rfl⟩
theorem len3 {α : Type} {us : List α} (h : us.length = 3) : ∃ a b c, us = [a, b, c] := by
  cases us with
  | nil => cases h
  | cons a t =>
    obtain ⟨b, c, rfl⟩ := len2 (Nat.succ.inj h)
    exact ⟨a, b, c, rfl⟩
/-! ### kinds of things -/
inductive Kn (H : Hp) : V → Prop where
  | non : Kn H .non
  | bl (b : Bool) : Kn H (.bl b)
  | int (i : Int) : Kn H (.int i)
  | str (x : Str) : Kn H (.str x)
  | lst {a : Addr} {xs : List V} (e : H a = some (.lst xs)) : Kn H (.ref a)
  | dK {a : Addr} {kvs : List (Key × V)} (e : H a = some (.dK kvs)) : Kn H (.ref a)
inductive Knd (H : Hp) : V → Prop where
  | kn {x : V} (h : Kn H x) : Knd H x
  | tup {a : Addr} {xs : List V} (e : H a = some (.tup xs)) : Knd H (.ref a)
def wholeB : V → Bool
  | .int _ => true
  | _ => false

/-- isinstance's answers -/
theorem ans_int {K : Frag} {H : Hp} {x : V} (h : Knd H x) : ∃ t, TyOf K H x t ∧ kitOne K t (.type "int") = some (match x with | .int _ => true | .bl _ => true | _ => false) := by
  cases h with
  | kn h =>
    cases h with
    | non => exact ⟨_, .non, by kernel_rfl⟩
    | bl b => exact ⟨_, .bl b, by kernel_rfl⟩
    | int i => exact ⟨_, .int i, by rfl⟩
    | str x => exact ⟨_, .str x, by kernel_rfl⟩
    | lst q => exact ⟨_, .lst q, by kernel_rfl⟩
    | dK q => exact ⟨_, .dK q, by kernel_rfl⟩
  | tup q => exact ⟨_, .tup q, by kernel_rfl⟩
theorem ans_bool {K : Frag} {H : Hp} {x : V} (h : Knd H x) : ∃ t, TyOf K H x t ∧ kitOne K t (.type "bool") = some (match x with | .bl _ => true | _ => false) := by
  cases h with
  | kn h =>
    cases h with
    | non => exact ⟨_, .non, by kernel_rfl⟩
    | bl b => exact ⟨_, .bl b, by rfl⟩
    | int i => exact ⟨_, .int i, by kernel_rfl⟩
    | str x => exact ⟨_, .str x, by kernel_rfl⟩
    | lst q => exact ⟨_, .lst q, by kernel_rfl⟩
    | dK q => exact ⟨_, .dK q, by kernel_rfl⟩
  | tup q => exact ⟨_, .tup q, by kernel_rfl⟩
theorem ans_tupN {K : Frag} {H : Hp} {x : V} (h : Kn H x) : ∃ t, TyOf K H x t ∧ kitOne K t (.type "tuple") = some false := by
  cases h with
  | non => exact ⟨_, .non, by kernel_rfl⟩
  | bl b => exact ⟨_, .bl b, by kernel_rfl⟩
  | int i => exact ⟨_, .int i, by kernel_rfl⟩
  | str x => exact ⟨_, .str x, by kernel_rfl⟩
  | lst q => exact ⟨_, .lst q, by kernel_rfl⟩
  | dK q => exact ⟨_, .dK q, by kernel_rfl⟩
theorem ans_tupT {K : Frag} {H : Hp} {a : Addr} {xs : List V} (q : H a = some (.tup xs)) : ∃ t, TyOf K H (.ref a) t ∧ kitOne K t (.type "tuple") = some true := ⟨_, .tup q, by rfl⟩

/-- the built-in names that the text does not bind -/
structure Gb (mg : Str → Option Value) : Prop where
  isi : mg "isinstance" = none
  int : mg "int" = none
  bool : mg "bool" = none
  tuple : mg "tuple" = none
  len : mg "len" = none
  range : mg "range" = none
  list : mg "list" = none
  max : mg "max" = none
  sum : mg "sum" = none
  sorted : mg "sorted" = none
  any : mg "any" = none
  all : mg "all" = none
  enum : mg "enumerate" = none
  min : mg "min" = none

/-! ### the promises -/
def spWhole : Sp := fun vs H Q _ => ∃ x, vs = [x] ∧ Knd H x ∧ Q (.bl (wholeB x)) H
/-- a thing read as a stretch -/
inductive StrV (H : Hp) : V → Option (Int × Int) → Prop where
  | no {x : V} (h : Kn H x) : StrV H x none
  | len {a : Addr} {xs : List V} (e : H a = some (.tup xs)) (h : xs.length ≠ 2) : StrV H (.ref a) none
  | one {a : Addr} {x y : V} (e : H a = some (.tup [x, y])) (hx : Knd H x) (hy : Knd H y) (h : wholeB x = false ∨ wholeB y = false) : StrV H (.ref a) none
  | turned {a : Addr} {l h : Int} (e : H a = some (.tup [.int l, .int h])) (n : h ≤ l) : StrV H (.ref a) none
  | yes {a : Addr} {l h : Int} (e : H a = some (.tup [.int l, .int h])) (n : l < h) : StrV H (.ref a) (some (l, h))
def spStretch : Sp := fun vs H Q _ => ∃ x o, vs = [x] ∧ StrV H x o ∧ Q (.bl o.isSome) H

section
variable {P : Program} {w : World} {K : PySem.W.Frag} {mg : Str → Option Value} {base : Heap}
theorem boot_isi : bootBuiltins "isinstance" = some (.builtin "isinstance") := by decide +kernel
theorem boot_i : bootBuiltins "int" = some (.type "int") := by decide +kernel
theorem boot_b : bootBuiltins "bool" = some (.type "bool") := by decide +kernel
theorem boot_t : bootBuiltins "tuple" = some (.type "tuple") := by decide +kernel
theorem boot_all : bootBuiltins "all" = some (.builtin "all") := by decide +kernel

theorem scWhole : FnScope ["thing"] ["thing"] (defScope sWhole) := ⟨rfl, rfl, rfl, by decide +kernel, rfl, by decide +kernel, by decide +kernel⟩
theorem ok_whole {f : Addr} {fd : FuncData} (F : Fun K "is_whole" "is_whole" sWhole f fd) (G : Gb mg) : FnOk P w K mg base CX0 1 f fd ["thing"] spWhole := by
  refine F.ok scWhole (fun vs H Q E h => ?_) (fun cdv A outer s H vs Q E hr h => ?_)
  · obtain ⟨x, rfl, _⟩ := h
    rfl
  · obtain ⟨x, rfl, hx, q⟩ := h
    refine ⟨_, pss_one (ps_ret (pe_and (pe_callB call_isinst (by rfl) G.isi boot_isi (pa_cons (pv 0) (pa_cons (pe_bltn (v := .ty "int") (by rfl) G.int boot_i rfl) pa_nil)))
      (pe_one (pe_not (pe_callB call_isinst (by rfl) G.isi boot_isi (pa_cons (pv 0) (pa_cons (pe_bltn (v := .ty "bool") (by rfl) G.bool boot_b rfl) pa_nil))))))), ?_⟩
    obtain ⟨t, ty, e⟩ := ans_int (K := K) hx
    obtain ⟨t2, ty2, e2⟩ := ans_bool (K := K) hx
    refine ⟨_, rfl, _, _, _, _, rfl, .ty "int", .inl ⟨t, ty, e⟩, _, rfl, ?_⟩
    refine ite2 (fun hc => ?_) (fun hc => ?_)
    · refine ⟨_, rfl, _, _, _, _, rfl, .ty "bool", .inl ⟨t2, ty2, e2⟩, _, rfl, ?_⟩
      cases x <;> first | exact q | cases hc
    · cases x <;> first | exact q | exact absurd rfl hc

theorem scStretch : FnScope ["thing"] ["thing"] (defScope sStretch) := ⟨rfl, rfl, rfl, by decide +kernel, rfl, by decide +kernel, by decide +kernel⟩
theorem ok_stretch {f fW : Addr} {fd fdW : FuncData} (F : Fun K "is_stretch" "is_stretch" sStretch f fd) (G : Gb mg) (FW : Fun K "is_whole" "is_whole" sWhole fW fdW) (bW : Binds K fdW ["thing"] []) (mW : mg "is_whole" = some (.ref fW)) : FnOk P w K mg base CX0 2 f fd ["thing"] spStretch := by
  have GW : FnOk P w K mg base CX0 1 fW fdW ["thing"] spWhole := ok_whole FW G
  refine F.ok scStretch (fun vs H Q E h => ?_) (fun cdv A outer s H vs Q E hr h => ?_)
  · obtain ⟨x, o, rfl, _⟩ := h
    rfl
  · obtain ⟨x, o, rfl, hx, q⟩ := h
    refine ⟨_, pss_cons (ps_if (PW.pt (pw_or (pt_not (pt_val (pe_callB call_isinst (by rfl) G.isi boot_isi (pa_cons (pv 0) (pa_cons (pe_bltn (v := .ty "tuple") (by rfl) G.tuple boot_t rfl) pa_nil)))))
        (pw_or1 (pt_cmpR op_ne (pe_callB call_len_seq (by rfl) G.len PySem.boot_len (pa_cons (pv 0) pa_nil)) pe_int (nomark _))))) (pss_one (ps_ret pe_bl)) pss_nil)
      (pss_one (ps_ret (pe_and (pe_call GW hr rfl mW FW.kp bW .nil pass0 (pa_cons (pe_ix ix_tup (pv 0) pe_int (fun _ _ => rfl)) pa_nil))
        (pe_and (pe_call GW hr rfl mW FW.kp bW .nil pass0 (pa_cons (pe_ix ix_tup (pv 0) pe_int (fun _ _ => rfl)) pa_nil))
          (pe_one (pe_cmpR op_lt (pe_ix ix_tup (pv 0) pe_int (fun _ _ => rfl)) (pe_ix ix_tup (pv 0) pe_int (fun _ _ => rfl)) (nomark _))))))), ?_⟩
    -- a thing that is a tuple
    have tupA : ∀ {a : Addr} {xs : List V}, x = .ref a → H a = some (.tup xs) → (xs.length ≠ 2 → Q (.bl false) H) → (∀ u v, xs = [u, v] → Knd H u ∧ Knd H v ∧ (wholeB u = false → Q (.bl false) H) ∧ (wholeB v = false → Q (.bl false) H) ∧ ∀ l h, u = .int l → v = .int h → Q (.bl (decide (l < h))) H) →
      (tSeq (tIfS (tOr (tNot (tB (tCB (rIsi K) (tCons (tVar 0) (tCons (tC (.ty "tuple")) tNil))))) (tTest (tOp rNe (tCB (fun xs H Q => ∃ p ys, xs = [.ref p] ∧ (SqL K H p ys ∨ SqT K H p ys) ∧ Q (.int ys.length) H) (tCons (tVar 0) tNil)) (tC (.int 2))))) (tRet (tC (.bl false))) tNext)
        (tRet (tAndV (tCall spWhole [] E0 (tCons (tOp (rIxT K) (tVar 0) (tC (.int 0))) tNil)) (tAndV (tCall spWhole [] E0 (tCons (tOp (rIxT K) (tVar 0) (tC (.int 1))) tNil)) (tOp (rI0 fun i j => .bl (decide (i < j))) (tOp (rIxT K) (tVar 0) (tC (.int 0))) (tOp (rIxT K) (tVar 0) (tC (.int 1))))))))
        { nx := fun _ H' => Q .non H', rt := Q } (start ["thing"] [x]) H := fun {a xs} ex ea q1 q2 => by
      subst ex
      obtain ⟨t, ty, e⟩ := ans_tupT (K := K) ea
      refine ⟨_, rfl, _, _, _, _, rfl, .ty "tuple", .inl ⟨t, ty, e⟩, _, rfl, ?_⟩
      refine iteF ?_
      refine ⟨_, rfl, a, xs, rfl, .inr (SqT.of ea), rfl, _, rfl, ?_⟩
      refine ite2 (fun hc => ?_) (fun hc => ?_)
      · refine q1 fun z => ?_
        rw [z] at hc
        cases hc
      · have z : xs.length = 2 := by
          by_cases z : xs.length = 2
          · exact z
          · refine absurd ?_ hc
            have : decide (V.int (xs.length : Int) = V.int 2) = false := decide_eq_false fun w => z (by injection w with w; omega)
            rw [this]
            rfl
        obtain ⟨u, v, rfl⟩ := len2 z
        obtain ⟨ku, kv, qu, qv, ql⟩ := q2 u v rfl
        refine ⟨_, rfl, a, _, _, _, rfl, rfl, SqT.of ea, atI_nat (j := 0) rfl, _, rfl, ku, _, rfl, ?_⟩
        refine ite2 (fun hu => ?_) (fun hu => qu (by simpa using hu))
        refine ⟨_, rfl, a, _, _, _, rfl, rfl, SqT.of ea, atI_nat (j := 1) rfl, _, rfl, kv, _, rfl, ?_⟩
        refine ite2 (fun hv => ?_) (fun hv => qv (by simpa using hv))
        obtain ⟨l, rfl⟩ : ∃ l, u = .int l := by
          cases u <;> first | exact ⟨_, rfl⟩ | cases hu
        obtain ⟨h, rfl⟩ : ∃ h, v = .int h := by
          cases v <;> first | exact ⟨_, rfl⟩ | cases hv
        exact ⟨_, rfl, a, _, _, _, rfl, rfl, SqT.of ea, atI_nat (j := 0) rfl, _, rfl, a, _, _, _, rfl, rfl, SqT.of ea, atI_nat (j := 1) rfl, _, _, rfl, rfl, ql l h rfl rfl⟩
    cases hx with
    | no h =>
      obtain ⟨t, ty, e⟩ := ans_tupN (K := K) h
      refine ⟨_, rfl, _, _, _, _, rfl, .ty "tuple", .inl ⟨t, ty, e⟩, _, rfl, ?_⟩
      refine iteT ?_
      exact iteT q
    | len ea hl => exact tupA rfl ea (fun _ => q) fun u v z => absurd (by rw [z]; rfl) hl
    | one ea hu hv hw =>
      refine tupA rfl ea (fun z => absurd rfl z) fun u v z => ?_
      cases z
      refine ⟨hu, hv, fun _ => q, fun _ => q, fun l h z1 z2 => ?_⟩
      subst z1
      subst z2
      rcases hw with z | z <;> cases z
    | turned ea n =>
      refine tupA rfl ea (fun z => absurd rfl z) fun u v z => ?_
      cases z
      refine ⟨.kn (.int _), .kn (.int _), fun _ => q, fun _ => q, fun l h z1 z2 => ?_⟩
      cases z1
      cases z2
      rw [decide_eq_false (by omega)]
      exact q
    | yes ea n =>
      refine tupA rfl ea (fun z => absurd rfl z) fun u v z => ?_
      cases z
      refine ⟨.kn (.int _), .kn (.int _), fun z => (nomatch z), fun z => (nomatch z), fun l h z1 z2 => ?_⟩
      cases z1
      cases z2
      rw [decide_eq_true n]
      exact q
end
theorem paired_get {α β : Type} {F : α → β → Prop} : ∀ {xs : List α} {ys : List β} {i : Nat} {x : α}, Paired F xs ys → xs[i]? = some x → ∃ y, ys[i]? = some y ∧ F x y
  | _, _, _, _, .nil, e => by simp at e
  | _, _, 0, _, .cons r _, e => by
    simp at e
    subst e
    exact ⟨_, rfl, r⟩
  | _, _, i + 1, x, .cons _ t, e => by
    obtain ⟨u, h1, h2⟩ := paired_get (i := i) (x := x) t (by simpa using e)
    exact ⟨u, by simpa using h1, h2⟩

/-- what makes stretches a work -/
def WorkP (os : List (Option (Int × Int))) : Prop := (∀ (j : Nat) (o : Option (Int × Int)), os[j]? = some o → o.isSome = true) ∧ ∀ (k : Nat) (l h l' h' : Int), os[k]? = some (some (l, h)) → os[k + 1]? = some (some (l', h')) → h ≤ l'
inductive WorkV (H : Hp) : V → Bool → Prop where
  | no {x : V} (h : Kn H x) : WorkV H x false
  | tup {a : Addr} {xs : List V} {os : List (Option (Int × Int))} {b : Bool} (e : H a = some (.tup xs)) (hl : xs.length ≤ 1000) (h : Paired (StrV H) xs os) (hb : b = true ↔ WorkP os) : WorkV H (.ref a) b
def spWork : Sp := fun vs H Q _ => ∃ x b, vs = [x] ∧ WorkV H x b ∧ Q (.bl b) H

section
variable {P : Program} {w : World} {K : PySem.W.Frag} {mg : Str → Option Value} {base : Heap}
theorem scWork : FnScope ["thing", "stretch", "index"] ["thing"] (defScope sWork) := ⟨rfl, rfl, rfl, by decide +kernel, rfl, by decide +kernel, by decide +kernel⟩
theorem ok_work {f fS fW : Addr} {fd fdS fdW : FuncData} (F : Fun K "is_work" "is_work" sWork f fd) (G : Gb mg) (FW : Fun K "is_whole" "is_whole" sWhole fW fdW) (bW : Binds K fdW ["thing"] []) (mW : mg "is_whole" = some (.ref fW))
    (FS : Fun K "is_stretch" "is_stretch" sStretch fS fdS) (bS : Binds K fdS ["thing"] []) (mS : mg "is_stretch" = some (.ref fS)) : FnOk P w K mg base CX0 3 f fd ["thing"] spWork := by
  have GS : FnOk P w K mg base CX0 2 fS fdS ["thing"] spStretch := ok_stretch FS G FW bW mW
  refine F.ok scWork (fun vs H Q E h => ?_) (fun cdv A outer s H vs Q E hr h => ?_)
  · obtain ⟨x, b, rfl, _⟩ := h
    rfl
  · obtain ⟨x, b, rfl, hx, q⟩ := h
    refine ⟨_, pss_cons (ps_if (pt_not (pt_val (pe_callB call_isinst (by rfl) G.isi boot_isi (pa_cons (pv 0) (pa_cons (pe_bltn (v := .ty "tuple") (by rfl) G.tuple boot_t rfl) pa_nil))))) (pss_one (ps_ret pe_bl)) pss_nil)
      (pss_cons (ps_for PassesOwn.never rfl (pi_tup (pv 0)) (pg_name (i := 1) scWork.nd rfl (Or.inl rfl)) (pss_one (ps_if (pt_not (pt_val (pe_call GS hr rfl mS FS.kp bS .nil pass0 (pa_cons (pv 1) pa_nil)))) (pss_one (ps_ret pe_bl)) pss_nil)))
      (pss_cons (ps_for PassesOwn.never rfl (pi_range2 rfl G.range (pa_cons pe_int (pa_cons (pe_callB call_len_seq (by rfl) G.len PySem.boot_len (pa_cons (pv 0) pa_nil)) pa_nil))) (pg_name (i := 2) scWork.nd rfl (Or.inl rfl))
        (pss_one (ps_if (pt_cmpR op_lt (pe_ix ix_tup (pe_ix ix_tup (pv 0) (pv 2) (fun _ _ => rfl)) pe_int (fun _ _ => rfl)) (pe_ix ix_tup (pe_ix ix_tup (pv 0) (pe_op op_sub (pv 2) pe_int) (fun _ _ => rfl)) pe_int (fun _ _ => rfl)) (nomark _)) (pss_one (ps_ret pe_bl)) pss_nil)))
      (pss_one (ps_ret pe_bl)))), ?_⟩
    cases hx with
    | no h =>
      obtain ⟨t, ty, e⟩ := ans_tupN (K := K) h
      refine ⟨_, rfl, _, _, _, _, rfl, .ty "tuple", .inl ⟨t, ty, e⟩, _, rfl, ?_⟩
      exact iteT q
    | @tup a xs os b ea hl hp hb =>
      obtain ⟨t, ty, e⟩ := ans_tupT (K := K) ea
      refine ⟨_, rfl, _, _, _, _, rfl, .ty "tuple", .inl ⟨t, ty, e⟩, _, rfl, ?_⟩
      refine iteF ?_
      refine ⟨_, rfl, a, rfl, ⟨_, SqT.of ea⟩, for_tup (K := K) (a := a) (xs := xs) (fun i σ H2 => H2 = H ∧ (∃ v, σ = [some (.ref a), v, none]) ∧ ∀ (j : Nat) (o : Option (Int × Int)), j < i → os[j]? = some o → o.isSome = true)
        ⟨rfl, ⟨none, rfl⟩, fun j o hj => absurd hj (Nat.not_lt_zero _)⟩ (fun i σ H2 _ ⟨e2, _⟩ => by subst e2; exact SqT.of ea) ?_ ?_⟩
      · rintro i y σ H2 hi ⟨rfl, ⟨v, rfl⟩, hall⟩
        obtain ⟨o, ho, hs⟩ := paired_get hp hi
        refine ⟨_, rfl, y, o, rfl, hs, _, rfl, ?_⟩
        cases o with
        | none =>
          refine iteT ?_
          have : b = false := by
            cases b with
            | false => rfl
            | true => exact absurd ((hb.mp rfl).1 i none ho) (by simp)
          rw [this] at q
          exact q
        | some p =>
          refine iteF ?_
          refine ⟨rfl, ⟨_, rfl⟩, fun j o' hj hj' => ?_⟩
          by_cases hji : j < i
          · exact hall j o' hji hj'
          · have : j = i := by omega
            subst this
            rw [ho] at hj'
            cases hj'
            rfl
      · rintro σ H2 ⟨rfl, ⟨v, rfl⟩, hall⟩
        have len : os.length = xs.length := hp.length.symm
        have at_ : ∀ (k : Nat), k < xs.length → ∃ (c : Addr) (l h : Int), xs[k]? = some (.ref c) ∧ H2 c = some (.tup [.int l, .int h]) ∧ os[k]? = some (some (l, h)) := fun k hk => by
          have e1 : xs[k]? = some xs[k] := List.getElem?_eq_getElem hk
          obtain ⟨o, ho, hs⟩ := paired_get hp e1
          have hso := hall k o hk ho
          cases o with
          | none => cases hso
          | some p =>
            generalize xs[k] = y at e1 hs
            cases hs with
            | @yes c l h ec n => exact ⟨c, l, h, e1, ec, ho⟩
        have hz : xs.length < 2 ^ 62 := Nat.lt_of_le_of_lt hl (by decide)
        refine ⟨_, rfl, a, xs, rfl, .inr (SqT.of ea), 1, (xs.length : Int), rfl, ⟨by decide, by decide, by omega, by omega⟩, for_range (lo := 1) (n := ((xs.length : Int) - 1).toNat)
          (fun i σ H3 => H3 = H2 ∧ (∃ v u, σ = [some (.ref a), v, u]) ∧ ∀ (k : Nat) (l h l' h' : Int), k < i → os[k]? = some (some (l, h)) → os[k + 1]? = some (some (l', h')) → h ≤ l') ⟨rfl, ⟨_, _, rfl⟩, fun k l h l' h' hk => absurd hk (Nat.not_lt_zero _)⟩ ?_ ?_⟩
        · rintro i σ H3 hi ⟨rfl, ⟨v, u, rfl⟩, hr2⟩
          obtain ⟨c, l, h, x1, x2, x3⟩ := at_ i (by omega)
          obtain ⟨c', l', h', y1, y2, y3⟩ := at_ (i + 1) (by omega)
          have i1 : (1 : Int) + (i : Int) = ((i + 1 : Nat) : Int) := by omega
          have i2 : ((i + 1 : Nat) : Int) - 1 = ((i : Nat) : Int) := by omega
          rw [i1]
          refine ⟨_, rfl, _, rfl, a, xs, _, _, rfl, rfl, SqT.of ea, atI_nat y1, c', _, _, _, rfl, rfl, SqT.of y2, atI_nat (j := 0) rfl, _, rfl, _, rfl, _, _, rfl, rfl, a, xs, _, _, rfl, rfl, SqT.of ea, (by rw [i2]; exact atI_nat x1), c, _, _, _, rfl, rfl, SqT.of x2, atI_nat (j := 1) rfl, _, _, rfl, rfl, _, rfl, ?_⟩
          refine ite2 (fun hc => ?_) (fun hc => ?_)
          · have hc' : l' < h := by simpa using hc
            have : b = false := by
              cases b with
              | false => rfl
              | true =>
                have := (hb.mp rfl).2 i l h l' h' x3 y3
                omega
            rw [this] at q
            exact q
          · have hc' : ¬ l' < h := by simpa using hc
            refine ⟨rfl, ⟨_, _, rfl⟩, fun k l2 h2 l3 h3 hk e1 e2 => ?_⟩
            by_cases hki : k < i
            · exact hr2 k l2 h2 l3 h3 hki e1 e2
            · have : k = i := by omega
              subst this
              rw [x3] at e1
              rw [y3] at e2
              cases e1
              cases e2
              omega
        · rintro σ H3 ⟨rfl, ⟨v, u, rfl⟩, hr2⟩
          have : b = true := hb.mpr ⟨fun j o hj => hall j o (by rw [← len]; exact (List.getElem?_eq_some_iff.mp hj).1) hj, fun k l h l' h' e1 e2 => hr2 k l h l' h' (by
            have := (List.getElem?_eq_some_iff.mp e2).1
            omega) e1 e2⟩
          rw [this] at q
          exact q

/-! ### the works of the law -/
def PairAt (H : Hp) (v : V) (p : Int × Int) : Prop := ∃ b, v = .ref b ∧ H b = some (.tup [.int p.1, .int p.2])
def PairsAt (H : Hp) (xs : List V) (ps : Lm.Ps) : Prop := Paired (PairAt H) xs ps
def WorkM (H : Hp) (p : Addr) (ps : Lm.Ps) : Prop := ∃ xs, H p = some (.tup xs) ∧ PairsAt H xs ps
theorem pairs_str {H : Hp} : ∀ {xs : List V} {ps : Lm.Ps}, PairsAt H xs ps → (∀ q ∈ ps, q.1 < q.2) → Paired (StrV H) xs (ps.map some)
  | _, _, .nil, _ => .nil
  | _, q :: ps, .cons ⟨b, e1, e2⟩ t, h => by
    subst e1
    exact .cons (.yes e2 (h q (List.mem_cons_self ..))) (pairs_str t fun r hr => h r (List.mem_cons_of_mem _ hr))
theorem wk_next : ∀ {ps : Lm.Ps}, Lm.Wk ps → ∀ (k : Nat) (l h l' h' : Int), ps[k]? = some (l, h) → ps[k + 1]? = some (l', h') → h ≤ l'
  | p :: t, ⟨h1, h2, h3⟩, 0, l, h, l', h', e1, e2 => by
    cases e1
    exact h2 _ (List.mem_of_getElem? (i := 0) (by simpa using e2))
  | p :: t, ⟨h1, h2, h3⟩, k + 1, l, h, l', h', e1, e2 => wk_next h3 k l h l' h' (by simpa using e1) (by simpa using e2)
theorem WorkM.workV {H : Hp} {p : Addr} {ps : Lm.Ps} (h : WorkM H p ps) (wk : Lm.Wk ps) (hl : ps.length ≤ 1000) : WorkV H (.ref p) true := by
  obtain ⟨xs, h1, h2⟩ := h
  refine .tup h1 (by rw [h2.length]; exact hl) (pairs_str h2 wk.lt) ⟨fun _ => ⟨fun j o e => ?_, fun k l h l' h' e1 e2 => ?_⟩, fun _ => rfl⟩
  · rw [List.getElem?_map] at e
    cases z : ps[j]? with
    | none => rw [z] at e; cases e
    | some q => rw [z] at e; cases e; rfl
  · rw [List.getElem?_map] at e1 e2
    cases z1 : ps[k]? with
    | none => rw [z1] at e1; cases e1
    | some q1 =>
      cases z2 : ps[k + 1]? with
      | none => rw [z2] at e2; cases e2
      | some q2 =>
        rw [z1] at e1
        rw [z2] at e2
        cases e1
        cases e2
        exact wk_next wk k l h l' h' z1 z2
def spCheck : Sp := fun vs H Q _ => ∃ (p : Addr) (ps : Lm.Ps), vs = [.ref p] ∧ WorkM H p ps ∧ Lm.Wk ps ∧ ps.length ≤ 1000 ∧ Q .non H
theorem scCheck : FnScope ["work"] ["work"] (defScope sCheck) := ⟨rfl, rfl, rfl, by decide +kernel, rfl, by decide +kernel, by decide +kernel⟩
theorem ok_check {f fK : Addr} {fd fdK : FuncData} (F : Fun K "check_work" "check_work" sCheck f fd) (GK : FnOk P w K mg base CX0 3 fK fdK ["thing"] spWork) (kp : keepIn K (.ref fK) = true) (bK : Binds K fdK ["thing"] []) (mK : mg "is_work" = some (.ref fK)) :
    FnOk P w K mg base CX0 4 f fd ["work"] spCheck := by
  refine F.ok scCheck (fun vs H Q E h => ?_) (fun cdv A outer s H vs Q E hr h => ?_)
  · obtain ⟨p, ps, rfl, _⟩ := h
    rfl
  · obtain ⟨p, ps, rfl, hw, wk, hl, q⟩ := h
    refine ⟨_, pss_one (ps_if (pt_not (pt_val (pe_call GK hr rfl mK kp bK .nil pass0 (pa_cons (pv 0) pa_nil)))) (pss_one ps_never) pss_nil), ?_⟩
    exact ⟨_, rfl, _, true, rfl, hw.workV wk hl, _, rfl, iteF q⟩
end
end Ls

set_option maxHeartbeats 4000000
namespace Lt
open PySem L2 PySem.W
theorem ite_of {b : Bool} {A B : Prop} (h : b = true) (x : A) : if b = true then A else B := by rw [if_pos h]; exact x
theorem ite_no {b : Bool} {A B : Prop} (h : b = false) (x : B) : if b = true then A else B := by rw [if_neg (by rw [h]; simp)]; exact x
theorem le_one {x y : Str} {a c : Nat} (hx : x = ⟨#[a]⟩) (hy : y = ⟨#[c]⟩) (h : a ≤ c) : (!decide (y.cps.toList < x.cps.toList)) = true := by
  subst hx hy
  have : ¬ ([c] < [a]) := by
    intro z
    cases z with
    | rel h => omega
    | cons h => cases h
  show (!decide ([c] < [a])) = true
  rw [decide_eq_false this]
  rfl
theorem c48 : Str.ofString "0" = ⟨#[48]⟩ := by decide +kernel
theorem c57 : Str.ofString "9" = ⟨#[57]⟩ := by decide +kernel
theorem c33 : Str.ofString "!" = ⟨#[33]⟩ := by decide +kernel
theorem c126 : Str.ofString "~" = ⟨#[126]⟩ := by decide +kernel
theorem c45 : Str.ofString "-" = ⟨#[45]⟩ := by decide +kernel
theorem c32 : Str.ofString " " = ⟨#[32]⟩ := by decide +kernel
theorem c10 : Str.ofString "\n" = ⟨#[10]⟩ := by decide +kernel
def spBounds : Sp := fun vs H Q _ => ∃ a b c : Int, vs = [.int a, .int b, .int c] ∧ 1 ≤ a ∧ 1 ≤ b ∧ b ≤ c ∧ ∀ H', Same H H' → Q .non H'
def spIsNum : Sp := fun vs H Q _ => ∃ i : Int, vs = [.str (Tm.numT i)] ∧ Bd i ∧ ∀ H', Same H H' → Q (.bl true) H'
def spNum : Sp := fun vs H Q _ => ∃ i : Int, vs = [.str (Tm.numT i)] ∧ Bd i ∧ ∀ H', Same H H' → Q (.int i) H'
def numV (i : Int) : V := .str (Tm.numT i)
def spNums : Sp := fun vs H Q _ => ∃ (p : Addr) (ns : List Int), vs = [.ref p] ∧ H p = some (.lst (ns.map numV)) ∧ ns.length ≤ 1000 ∧ (∀ n ∈ ns, Bd n) ∧ ∀ r H', Same H H' → H' r = some (.tup (ns.map V.int)) → Q (.ref r) H'
theorem ndSg : (["sign"] : List Str).Nodup := by decide +kernel
theorem ndWo : (["word"] : List Str).Nodup := by decide +kernel
section
variable {P : Program} {w : World} {K : PySem.W.Frag} {mg : Str → Option Value} {base : Heap}
theorem scBounds : FnScope ["span", "every", "least", "bound"] ["span", "every", "least"] (defScope sBounds) := ⟨rfl, rfl, rfl, by decide +kernel, rfl, by decide +kernel, by decide +kernel⟩
theorem ok_bounds {f fW : Addr} {fd fdW : FuncData} (F : Fun K "check_bounds" "check_bounds" sBounds f fd) (GW : FnOk P w K mg base CX0 1 fW fdW ["thing"] Ls.spWhole) (kW : keepIn K (.ref fW) = true) (bW : Binds K fdW ["thing"] []) (mW : mg "is_whole" = some (.ref fW)) : FnOk P w K mg base CX0 2 f fd ["span", "every", "least"] spBounds := by
  refine F.ok scBounds (fun vs H Q E h => ?_) (fun cdv A outer s H vs Q E hr h => ?_)
  · obtain ⟨a, b, c, rfl, _⟩ := h
    rfl
  · obtain ⟨a, b, c, rfl, ha, hb, hc, q⟩ := h
    refine ⟨_, pss_cons (ps_for PassesOwn.never rfl (pi_tup (pe_tup (pa_cons (pv 0) (pa_cons (pv 1) (pa_cons (pv 2) pa_nil))))) (pg_name (i := 3) scBounds.nd rfl (Or.inl rfl))
        (pss_one (ps_if (PW.pt (pw_or (pt_not (pt_val (pe_call GW hr rfl mW kW bW .nil pass0 (pa_cons (pv 3) pa_nil)))) (pw_or1 (pt_cmpR op_lt (pv 3) pe_int (nomark _))))) (pss_one ps_never) pss_nil)))
      (pss_one (ps_if (pt_cmpR op_lt (pv 2) (pv 1) (nomark _)) (pss_one ps_never) pss_nil)), ?_⟩
    refine ⟨_, rfl, _, rfl, _, rfl, by show 3 ≤ sizeLine; decide, fun t ht => ?_⟩
    refine ⟨t, rfl, ⟨_, SqT.of upd_same⟩, for_tup (K := K) (a := t) (xs := [.int a, .int b, .int c]) (fun i σ H2 => Same H H2 ∧ H2 t = some (.tup [.int a, .int b, .int c]) ∧ ∃ u, σ = [some (.int a), some (.int b), some (.int c), u])
      ⟨same_upd ht, upd_same, _, rfl⟩ (fun i σ H2 _ ⟨_, e, _⟩ => SqT.of e) ?_ ?_⟩
    · rintro i y σ H2 hi ⟨sm, e, u, rfl⟩
      obtain ⟨z, rfl, hz⟩ : ∃ z : Int, y = V.int z ∧ 1 ≤ z := by
        have hm := List.mem_of_getElem? hi
        simp only [List.mem_cons, List.not_mem_nil, or_false] at hm
        rcases hm with rfl | rfl | rfl
        · exact ⟨_, rfl, ha⟩
        · exact ⟨_, rfl, hb⟩
        · exact ⟨_, rfl, by omega⟩
      refine ⟨_, rfl, _, rfl, .kn (.int _), _, rfl, iteF ?_⟩
      refine ⟨_, rfl, _, _, rfl, rfl, _, rfl, ite_no (decide_eq_false (by omega)) ?_⟩
      exact ⟨sm, e, _, rfl⟩
    · rintro σ H2 ⟨sm, e, u, rfl⟩
      exact ⟨_, rfl, _, rfl, _, _, rfl, rfl, _, rfl, ite_no (decide_eq_false (by omega)) (q _ sm)⟩
theorem scIsNum : FnScope ["word", "figures"] ["word"] (defScope sIsNum) := ⟨rfl, rfl, rfl, by decide +kernel, rfl, by decide +kernel, by decide +kernel⟩
theorem ok_isnum {f : Addr} {fd : FuncData} (F : Fun K "is_number" "is_number" sIsNum f fd) (G : Gb mg) : FnOk P w K mg base CX0 1 f fd ["word"] spIsNum := by
  refine F.ok scIsNum (fun vs H Q E h => ?_) (fun cdv A outer s H vs Q E hr h => ?_)
  · obtain ⟨i, rfl, _⟩ := h
    rfl
  · obtain ⟨i, rfl, hb, q⟩ := h
    refine ⟨_, pss_cons (ps_set (i := 1) scIsNum.nd rfl (Or.inl rfl) (pe_ifExp (pt_val (pe_bm PySem.F.plainAttrs_str PySem.F.slot_str_startswith PySem.F.type_str_startswith mt_starts (pv 0) (pa_cons pe_str pa_nil))) (pe_slice sl_str (pv 0) (po_some pe_int) po_none) (pv 0)))
      (pss_cons (ps_if (PW.pt (pw_or (pt_not (pt_chain op_le op_le pe_int (pe_callB call_len_str (by rfl) G.len PySem.boot_len (pa_cons (pv 1) pa_nil)) pe_int)) (pw_or1 (pt_not (pt_val (pe_callB (call_all rfl) (by rfl) G.all Ls.boot_all (pa_cons (pe_comp (NB := ["sign"]) (g := gName 0) rfl (by decide +kernel) (by decide +kernel) (by decide +kernel) rfl
          (pi_str (pv 1)) (fun C s H fp pn => pg_name (i := 0) ndSg rfl (Or.inl rfl) (.inr rfl)) (fun C s H fp pn => pts_nil) (fun C s H fp pn => pe_chain op_le_str op_le_str pe_str (pv 0) pe_str)) pa_nil))))))) (pss_one (ps_ret pe_bl)) pss_nil)
      (pss_one (ps_ret (pe_or (pe_cmpR op_ne (pe_ix ix_str (pv 1) pe_int (fun _ _ => rfl)) pe_str (nomark _)) (pe_one (pe_cmpR op_eq (pv 0) pe_str (nomark _))))))), ?_⟩
    have sl : sizeLine = 16777216 := sizeLine_eq
    have wl := (Tm.num_wd hb).le
    refine ⟨_, rfl, rfl, _, _, rfl, rfl, _, rfl, ?_⟩
    rw [c45, Tm.num_starts]
    refine ite2 (fun hc => ?_) (fun hc => ?_)
    rotate_left
    have hi : 0 ≤ i := Int.not_lt.mp fun z => hc (decide_eq_true z)
    refine ⟨_, rfl, ?_⟩
    have hw : i = 0 → Tm.numT i = Str.ofString "0" := fun z => by rw [z]; exact Tm.num_nought
    have hm := hi
    have bm := hb
    clear hc hi hb
    generalize i = m at *
    rotate_left
    have hi := of_decide_eq_true hc
    refine ⟨_, rfl, _, rfl, _, rfl, by omega, ?_⟩
    rw [Tm.num_figs hi]
    have hm : 0 ≤ 0 - i := by omega
    have bm : Bd (0 - i) := by obtain ⟨h1, h2⟩ := hb; exact ⟨by omega, by omega⟩
    have hw : 0 - i = 0 → Tm.numT i = Str.ofString "0" := fun z => absurd z (by omega)
    clear hc hi
    generalize 0 - i = m at *
    all_goals
      obtain ⟨l1, l2⟩ := Tm.num_len hm bm
      refine ⟨_, rfl, _, rfl, by omega, _, _, rfl, rfl, _, rfl, ite_of (decide_eq_true (by omega)) ⟨_, _, rfl, rfl, _, rfl, ite_no (by rw [decide_eq_true (by omega)]; rfl) ?_⟩⟩
      refine ⟨_, rfl, _, rfl, (Tm.num_wd bm).ascii, fun acc hacc => ?_⟩
      refine ⟨fun j m' ys H' => m' = (Tm.numT m).length - j ∧ j ≤ (Tm.numT m).length ∧ ys = (List.replicate j true).map V.bl ∧ Same H H' ∧ H' acc = some (.lst ys), ⟨_, rfl, Nat.zero_le _, rfl, same_upd hacc, upd_same⟩, ?_⟩
      rintro j m' ys H' ⟨rfl, hj, rfl, sm, hA⟩
      refine ⟨hA, ?_⟩
      by_cases hlt : j < (Tm.numT m).length
      · refine .inr ⟨hlt, ?_⟩
        rintro y H'' ⟨rfl, c, hc, rfl⟩
        have hr := Tm.num_all hm c (Array.mem_toList_iff.mpr (Array.mem_of_getElem? hc))
        refine gName_in ?_
        refine tYes_in ?_
        refine iteT ?_
        refine ⟨_, rfl, _, _, rfl, rfl, _, rfl, ite_of (le_one c48 rfl hr.1) ⟨_, _, rfl, rfl, hA, by rw [List.length_map, List.length_replicate]; omega, _, ?_, rfl, hlt, ?_, fun b o z => ?_, upd_same⟩⟩
        · omega
        · rw [List.replicate_succ', List.map_append, le_one rfl c57 hr.2]
          rfl
        · rw [upd_ne (ne_of_none z hacc)]
          exact sm _ _ z
      · refine .inl ⟨by show _ ≤ j; omega, ?_⟩
        refine ⟨acc, _, rfl, SqL.of hA, ?_⟩
        have ea : (List.replicate j true).all id = true := by simp
        rw [ea]
        refine ⟨_, rfl, iteF ?_⟩
        obtain ⟨c, hc, hz⟩ := Tm.num_first hm
        refine ⟨_, rfl, _, _, c, rfl, rfl, by omega, atI_nat (j := 0) hc, rfl, _, rfl, ?_⟩
        by_cases e : c = 48
        · refine ite_no ?_ ⟨_, rfl, rfl, ?_⟩
          · rw [c48, e]
            simp
          · rw [hw (hz e)]
            rw [decide_eq_true rfl]
            exact q _ sm
        · refine ite_of ?_ (q _ sm)
          rw [c48]
          simp [e]
end
end Lt

set_option maxHeartbeats 4000000
namespace Lt
open PySem L2 PySem.W
def spWords : Sp := fun vs H Q _ => ∃ (x : Str) (ws : List Str), vs = [.str x] ∧ x = Str.join ⟨#[32]⟩ ws ∧ ws ≠ [] ∧ (∀ y ∈ ws, Tm.Wd y) ∧ x.length + 2 ≤ sizeLine ∧ ws.length ≤ 1000 ∧ ∀ r H', Same H H' → H' r = some (.lst (ws.map V.str)) → Q (.ref r) H'
def nums (ps : List (Int × Int)) : List Int := ps.flatMap fun q => [q.1, q.2]
theorem nums_len (ps : List (Int × Int)) : (nums ps).length = 2 * ps.length := by
  induction ps with
  | nil => rfl
  | cons q ps ih =>
    show (q.1 :: q.2 :: nums ps).length = _
    rw [List.length_cons, List.length_cons, ih, List.length_cons]
    omega
theorem nums_at : ∀ (ps : List (Int × Int)) (i : Nat) (q : Int × Int), ps[i]? = some q → (nums ps)[2 * i]? = some q.1 ∧ (nums ps)[2 * i + 1]? = some q.2
  | [], i, q, h => by simp at h
  | p :: ps, 0, q, h => by
    cases h
    exact ⟨rfl, rfl⟩
  | p :: ps, i + 1, q, h => by
    have := nums_at ps i q h
    show (p.1 :: p.2 :: nums ps)[2 * (i + 1)]? = _ ∧ (p.1 :: p.2 :: nums ps)[2 * (i + 1) + 1]? = _
    rw [show 2 * (i + 1) = 2 * i + 1 + 1 by omega]
    exact this
def spPairs : Sp := fun vs H Q _ => ∃ (p : Addr) (ps : List (Int × Int)), vs = [.ref p] ∧ H p = some (.lst ((nums ps).map numV)) ∧ ps.length ≤ 6 ∧ (∀ q ∈ ps, Bd q.1 ∧ Bd q.2) ∧ ∀ r H', Same H H' → WorkT H' r ps → Q (.ref r) H'
theorem ndAN : (["at", "numbers"] : List Str).Nodup := by decide +kernel
section
variable {P : Program} {w : World} {K : PySem.W.Frag} {mg : Str → Option Value} {base : Heap}
theorem scNum : FnScope ["word"] ["word"] (defScope sNum) := ⟨rfl, rfl, rfl, by decide +kernel, rfl, by decide +kernel, by decide +kernel⟩
theorem ok_num {f fN : Addr} {fd fdN : FuncData} (F : Fun K "read_number" "read_number" sNum f fd) (G : Gb mg) (GN : FnOk P w K mg base CX0 1 fN fdN ["word"] spIsNum) (kN : keepIn K (.ref fN) = true) (bN : Binds K fdN ["word"] []) (mN : mg "is_number" = some (.ref fN)) : FnOk P w K mg base CX0 2 f fd ["word"] spNum := by
  refine F.ok scNum (fun vs H Q E h => ?_) (fun cdv A outer s H vs Q E hr h => ?_)
  · obtain ⟨i, rfl, _⟩ := h
    rfl
  · obtain ⟨i, rfl, hb, q⟩ := h
    refine ⟨_, pss_cons (ps_if (pt_not (pt_val (pe_call GN hr rfl mN kN bN .nil pass0 (pa_cons (pv 0) pa_nil)))) (pss_one ps_never) pss_nil) (pss_one (ps_ret (pe_callTy call_intT (by rfl) G.int boot_i (pa_cons (pv 0) pa_nil)))), ?_⟩
    have wl := (Tm.num_wd hb).le
    exact ⟨_, rfl, i, rfl, hb, fun H' s1 => ⟨_, rfl, iteF ⟨_, rfl, _, i, rfl, Tm.num_reads hb, by omega, q _ s1⟩⟩⟩
theorem scNums : FnScope ["words"] ["words"] (defScope sNums) := ⟨rfl, rfl, rfl, by decide +kernel, rfl, by decide +kernel, by decide +kernel⟩
theorem ok_nums {f fN : Addr} {fd fdN : FuncData} (F : Fun K "read_numbers" "read_numbers" sNums f fd) (G : Gb mg) (GN : FnOk P w K mg base CX0 2 fN fdN ["word"] spNum) (kN : keepIn K (.ref fN) = true) (bN : Binds K fdN ["word"] []) (mN : mg "read_number" = some (.ref fN)) : FnOk P w K mg base CX0 3 f fd ["words"] spNums := by
  refine F.ok scNums (fun vs H Q E h => ?_) (fun cdv A outer s H vs Q E hr h => ?_)
  · obtain ⟨p, ns, rfl, _⟩ := h
    rfl
  · obtain ⟨p, ns, rfl, hp, ln, hb, q⟩ := h
    refine ⟨_, pss_one (ps_ret (pe_callTy call_tuple_of (by rfl) G.tuple boot_t (pa_cons (pe_comp (NB := ["word"]) (g := gName 0) rfl (by decide +kernel) (by decide +kernel) (by decide +kernel) rfl (pi_list (pv 0)) (fun C s H fp pn => pg_name (i := 0) ndWo rfl (Or.inl rfl) (.inr rfl)) (fun C s H fp pn => pts_nil)
        (fun C s H fp pn => pe_call GN hr rfl mN kN bN .nil pass0 (pa_cons (pv 0) pa_nil))) pa_nil))), ?_⟩
    have sl : sizeLine = 16777216 := sizeLine_eq
    have lm : (ns.map numV).length = ns.length := List.length_map ..
    refine ⟨_, rfl, p, rfl, ⟨_, SqL.of hp⟩, fun acc hacc => ?_⟩
    refine ⟨fun i m ys H' => m = ns.length - i ∧ i ≤ ns.length ∧ ys = (ns.take i).map V.int ∧ Same H H' ∧ H' acc = some (.lst ys), ⟨_, rfl, Nat.zero_le _, rfl, same_upd hacc, upd_same⟩, ?_⟩
    rintro i m ys H' ⟨rfl, hi, rfl, sm, hA⟩
    refine ⟨hA, ?_⟩
    by_cases hlt : i < ns.length
    · refine .inr ⟨⟨_, _, SqL.of (sm _ _ hp), List.getElem?_eq_getElem (by omega)⟩, ?_⟩
      rintro y H'' ⟨rfl, hy⟩
      have ey := hy _ (SqL.of (sm _ _ hp))
      have ez : y = numV ns[i] := by
        rw [List.getElem?_map, List.getElem?_eq_getElem hlt] at ey
        exact (Option.some.inj ey).symm
      subst ez
      refine gName_in ?_
      refine tYes_in ?_
      refine iteT ?_
      refine ⟨_, rfl, ns[i], rfl, hb _ (List.getElem_mem hlt), fun H3 s3 => ?_⟩
      refine ⟨s3 _ _ hA, by rw [List.length_map, List.length_take]; omega, _, ?_, rfl, hlt, ?_, fun b o z => ?_, upd_same⟩
      · omega
      · rw [List.take_add_one, List.getElem?_eq_getElem hlt, List.map_append]
        rfl
      · rw [upd_ne (ne_of_none z hacc)]
        exact s3 _ _ (sm _ _ z)
    · refine .inl ⟨⟨_, SqL.of (sm _ _ hp), by omega⟩, ?_⟩
      have ei : ns.take i = ns := List.take_of_length_le (by omega)
      rw [ei] at hA
      exact ⟨acc, _, rfl, .inl ⟨SqL.of hA, fun r hr' => q r _ (sm.trans (same_upd hr')) upd_same⟩⟩
theorem scWords : FnScope ["row", "words", "word"] ["row"] (defScope sWords) := ⟨rfl, rfl, rfl, by decide +kernel, rfl, by decide +kernel, by decide +kernel⟩
theorem ok_words {f : Addr} {fd : FuncData} (F : Fun K "read_words" "read_words" sWords f fd) (G : Gb mg) : FnOk P w K mg base CX0 1 f fd ["row"] spWords := by
  refine F.ok scWords (fun vs H Q E h => ?_) (fun cdv A outer s H vs Q E hr h => ?_)
  · obtain ⟨x, ws, rfl, _⟩ := h
    rfl
  · obtain ⟨x, ws, rfl, rfl, hne, hw, hl, ln, q⟩ := h
    refine ⟨_, pss_cons (ps_set (i := 1) scWords.nd rfl (Or.inl rfl) (pe_bm PySem.F.plainAttrs_str PySem.F.slot_str_split PySem.F.type_str_split mt_split (pv 0) (pa_cons pe_str pa_nil)))
      (pss_cons (ps_for PassesOwn.never rfl (pi_list (pv 1)) (pg_name (i := 2) scWords.nd rfl (Or.inl rfl))
        (pss_one (ps_if (PW.pt (pw_or (pt_not (pt_truth (pv 2) (fun _ => rfl))) (pw_or1 (pt_not (pt_val (pe_callB (call_all rfl) (by rfl) G.all Ls.boot_all (pa_cons (pe_comp (NB := ["sign"]) (g := gName 0) rfl (by decide +kernel) (by decide +kernel) (by decide +kernel) rfl
          (pi_str (pv 2)) (fun C s H fp pn => pg_name (i := 0) ndSg rfl (Or.inl rfl) (.inr rfl)) (fun C s H fp pn => pts_nil) (fun C s H fp pn => pe_chain op_le_str op_le_str pe_str (pv 0) pe_str)) pa_nil))))))) (pss_one ps_never) pss_nil)))
      (pss_one (ps_ret (pv 1)))), ?_⟩
    have sl : sizeLine = 16777216 := sizeLine_eq
    refine ⟨_, rfl, rfl, _, _, rfl, rfl, by decide +kernel, hl, fun l h1 => ?_⟩
    rw [c32, Tm.split_join hne fun y hy => (hw y hy).free (by decide)]
    refine ⟨_, rfl, l, rfl, ⟨_, SqL.of upd_same⟩, for_list (K := K) (a := l) (xs := ws.map V.str) (fun i σ H2 => Same H H2 ∧ H2 l = some (.lst (ws.map V.str)) ∧ ∃ u, σ = [some (.str (Str.join ⟨#[32]⟩ ws)), some (.ref l), u])
      ⟨same_upd h1, upd_same, _, rfl⟩ (fun i σ H2 _ ⟨_, e, _⟩ => SqL.of e) ?_ ?_⟩
    · rintro i y σ H2 hi ⟨s2, e2, u, rfl⟩
      obtain ⟨x, rfl, hx⟩ : ∃ x, y = V.str x ∧ Tm.Wd x := by
        obtain ⟨x, h1, h2⟩ := List.mem_map.mp (List.mem_of_getElem? hi)
        exact ⟨x, h2.symm, hw x h1⟩
      have x1 := hx.ne
      have x2 := hx.le
      refine ⟨_, rfl, _, ⟨by omega, rfl⟩, ite_no (by simp; omega) ?_⟩
      refine ⟨_, rfl, _, rfl, hx.ascii, fun acc hacc => ?_⟩
      refine ⟨fun j m' ys H' => m' = x.length - j ∧ j ≤ x.length ∧ ys = (List.replicate j true).map V.bl ∧ Same H2 H' ∧ H' acc = some (.lst ys), ⟨_, rfl, Nat.zero_le _, rfl, same_upd hacc, upd_same⟩, ?_⟩
      rintro j m' ys H' ⟨rfl, hj, rfl, sm, hA⟩
      refine ⟨hA, ?_⟩
      by_cases hlt : j < x.length
      · refine .inr ⟨hlt, ?_⟩
        rintro y H'' ⟨rfl, c, hc, rfl⟩
        have hr := hx.all c (Array.mem_toList_iff.mpr (Array.mem_of_getElem? hc))
        refine gName_in ?_
        refine tYes_in ?_
        refine iteT ?_
        refine ⟨_, rfl, _, _, rfl, rfl, _, rfl, ite_of (le_one c33 rfl hr.1) ⟨_, _, rfl, rfl, hA, by rw [List.length_map, List.length_replicate]; omega, _, ?_, rfl, hlt, ?_, fun b o z => ?_, upd_same⟩⟩
        · omega
        · rw [List.replicate_succ', List.map_append, le_one rfl c126 hr.2]
          rfl
        · rw [upd_ne (ne_of_none z hacc)]
          exact sm _ _ z
      · refine .inl ⟨by show _ ≤ j; omega, ?_⟩
        refine ⟨acc, _, rfl, SqL.of hA, ?_⟩
        have ea : (List.replicate j true).all id = true := by simp
        rw [ea]
        exact ⟨_, rfl, iteF ⟨s2.trans sm, sm _ _ e2, _, rfl⟩⟩
    · rintro σ H2 ⟨s2, e2, u, rfl⟩
      exact ⟨_, rfl, q l _ s2 e2⟩
theorem scPairs : FnScope ["words", "numbers"] ["words"] (defScope sPairs) := ⟨rfl, rfl, rfl, by decide +kernel, rfl, by decide +kernel, by decide +kernel⟩
theorem ok_pairs {f fN : Addr} {fd fdN : FuncData} (F : Fun K "read_pairs" "read_pairs" sPairs f fd) (G : Gb mg) (GN : FnOk P w K mg base CX0 3 fN fdN ["words"] spNums) (kN : keepIn K (.ref fN) = true) (bN : Binds K fdN ["words"] []) (mN : mg "read_numbers" = some (.ref fN)) : FnOk P w K mg base CX0 4 f fd ["words"] spPairs := by
  refine F.ok scPairs (fun vs H Q E h => ?_) (fun cdv A outer s H vs Q E hr h => ?_)
  · obtain ⟨p, ps, rfl, _⟩ := h
    rfl
  · obtain ⟨p, ps, rfl, hp, ln, hb, q⟩ := h
    refine ⟨_, pss_cons (ps_set (i := 1) scPairs.nd rfl (Or.inr rfl) (pe_call GN hr rfl mN kN bN .nil pass0 (pa_cons (pv 0) pa_nil)))
      (pss_cons (ps_if (pt_cmpR op_eq (pe_op op_mod (pe_callB call_len_seq (by rfl) G.len PySem.boot_len (pa_cons (pv 1) pa_nil)) pe_int) pe_int (nomark _)) (pss_one ps_never) pss_nil)
      (pss_one (ps_ret (pe_callTy call_tuple_of (by rfl) G.tuple boot_t (pa_cons (pe_compF (NB := ["at", "numbers"]) (n := 1) (js := [1]) (g := gName 0) (cl := [("numbers", s.heap.objs.size + 1)]) rfl (by decide +kernel) (by decide +kernel) rfl
          (Takes.of rfl (all_cons rfl all_nil) (all_cons (fun z => nomatch z) (all_cons (fun z => nomatch z) (all_cons (fun _ => rfl) all_nil))) rfl (fun k j h => match k, j, h with | 0, _, rfl => rfl | k + 1, _, h => absurd h (by simp)) (all_cons ⟨.inl rfl, .inl rfl, rfl⟩ all_nil))
          (pi_range3 rfl G.range (pa_cons pe_int (pa_cons (pe_callB call_len_seq (by rfl) G.len PySem.boot_len (pa_cons (pv 1) pa_nil)) (pa_cons pe_int pa_nil)))) (fun C s H fp pn => pg_name (i := 0) ndAN rfl (Or.inl rfl) (.inr rfl)) (fun C s H fp pn => pts_nil)
          (fun C s H fp pn => pe_tup (pa_cons (pe_ix (r := rIxT K) ix_tup (pv 1) (pv 0) (fun _ _ => rfl)) (pa_cons (pe_ix (r := rIxT K) ix_tup (pv 1) (pe_op op_add (pv 0) pe_int) (fun _ _ => rfl)) pa_nil)))) pa_nil))))), ?_⟩
    have sl : sizeLine = 16777216 := sizeLine_eq
    have ll := nums_len ps
    have hbn : ∀ n ∈ nums ps, Bd n := fun n hn => by
      obtain ⟨q, hq, hn⟩ := List.mem_flatMap.mp hn
      rcases List.mem_cons.mp hn with rfl | hn
      · exact (hb q hq).1
      · rcases List.mem_cons.mp hn with rfl | hn
        · exact (hb q hq).2
        · exact absurd hn (by simp)
    refine ⟨_, rfl, p, nums ps, rfl, hp, by omega, hbn, fun t H1 s1 e1 => ?_⟩
    have lm : ((nums ps).map V.int).length = 2 * ps.length := by rw [List.length_map]; exact ll
    refine ⟨_, rfl, t, _, rfl, .inr (SqT.of e1), _, _, rfl, rfl, (by show (0 : Int) < 2; decide), rfl, _, rfl, ite_no (by
      rw [lm]
      refine decide_eq_false fun z => ?_
      have := V.int.inj z
      omega) ?_⟩
    refine ⟨_, rfl, t, _, rfl, .inr (SqT.of e1), ps.length, by rw [lm]; rfl, by omega, fun acc hacc => ?_⟩
    refine ⟨fun i m ys H' => m = ps.length - i ∧ i ≤ ps.length ∧ Paired (PairAt H') ys (ps.take i) ∧ Same H1 H' ∧ H' acc = some (.lst ys), ⟨_, rfl, Nat.zero_le _, .nil, same_upd hacc, upd_same⟩, ?_⟩
    rintro i m ys H' ⟨rfl, hi, hP, sm, hA⟩
    refine ⟨hA, ?_⟩
    have ly : ys.length = i := by
      have := hP.length
      rw [List.length_take] at this
      omega
    by_cases hlt : i < ps.length
    · refine .inr ⟨hlt, ?_⟩
      rintro y H'' ⟨rfl, rfl⟩
      refine gName_in ?_
      refine ⟨rfl, ?_⟩
      refine tYes_in ?_
      refine iteT ?_
      obtain ⟨g1, g2⟩ := nums_at ps i ps[i] (List.getElem?_eq_getElem hlt)
      have et := sm _ _ e1
      refine ⟨_, rfl, _, rfl, t, _, _, _, rfl, rfl, SqT.of et, atI_nat (j := 2 * i) (by rw [List.getElem?_map, g1]; rfl), _, rfl, _, rfl, _, _, rfl, rfl, t, _, _, _, rfl, rfl, SqT.of et, atI_nat (j := 2 * i + 1) (by rw [List.getElem?_map, g2]; rfl), by show 2 ≤ sizeLine; decide, fun t' ht => ?_⟩
      have nt : acc ≠ t' := ne_of_none hA ht
      refine ⟨by rw [upd_ne nt]; exact hA, by omega, _, ?_, rfl, hlt, ?_, fun b o z => ?_, upd_same⟩
      · omega
      · rw [List.take_add_one, List.getElem?_eq_getElem hlt]
        exact paired_snoc (paired_map (fun v q ⟨b, z1, z2⟩ => ⟨b, z1, by rw [upd_ne (ne_of z2 hA (by intro z; cases z)), upd_ne (ne_of_none z2 ht)]; exact z2⟩) hP) ⟨t', rfl, by rw [upd_ne nt.symm]; exact upd_same⟩
      · rw [upd_ne (ne_of_none z hacc), upd_ne (ne_of_none (sm _ _ z) ht)]
        exact sm _ _ z
    · refine .inl ⟨by show _ ≤ i; omega, ?_⟩
      have ei : ps.take i = ps := List.take_of_length_le (by omega)
      rw [ei] at hP
      exact ⟨acc, _, rfl, .inl ⟨SqL.of hA, fun r hr' => q r _ (s1.trans (sm.trans (same_upd hr'))) ⟨ys, upd_same, paired_map (fun v q ⟨b, z1, z2⟩ => ⟨b, z1, same_upd hr' _ _ z2⟩) hP, ln, hb⟩⟩⟩
end
end Lt

set_option maxHeartbeats 4000000
namespace Lt
open PySem L2 PySem.W
def Gd (n : Nat) (d : PyData) : Prop := d.canLay0 = true ∧ d.depth ≤ n
theorem canAll : ∀ {ds : List PyData}, (∀ d ∈ ds, d.canLay0 = true) → PyData.canLayAll0 ds = true
  | [], _ => by rw [PyData.canLayAll0]
  | d :: ds, h => by
    rw [PyData.canLayAll0, h d (List.mem_cons_self), canAll fun e he => h e (List.mem_cons_of_mem _ he)]
    rfl
theorem depAll {n : Nat} : ∀ {ds : List PyData}, (∀ d ∈ ds, d.depth ≤ n) → PyData.depthAll ds ≤ n
  | [], _ => by rw [PyData.depthAll]; exact Nat.zero_le _
  | d :: ds, h => by
    rw [PyData.depthAll]
    exact Nat.max_le.mpr ⟨h d List.mem_cons_self, depAll fun e he => h e (List.mem_cons_of_mem _ he)⟩
theorem Gd.tup {n : Nat} {ds : List PyData} (h : ∀ d ∈ ds, Gd n d) : Gd (n + 1) (.tuple ds) := by
  refine ⟨?_, ?_⟩
  · rw [PyData.canLay0]
    exact canAll fun d hd => (h d hd).1
  · rw [PyData.depth]
    exact Nat.succ_le_succ (depAll fun d hd => (h d hd).2)
theorem Gd.lst {n : Nat} {ds : List PyData} (h : ∀ d ∈ ds, Gd n d) : Gd (n + 1) (.list ds) := by
  refine ⟨?_, ?_⟩
  · rw [PyData.canLay0]
    exact canAll fun d hd => (h d hd).1
  · rw [PyData.depth]
    exact Nat.succ_le_succ (depAll fun d hd => (h d hd).2)
theorem Gd.int {n : Nat} (i : Int) : Gd n (.int i) := ⟨by rw [PyData.canLay0], by rw [PyData.depth]; exact Nat.zero_le _⟩
theorem Gd.str {n : Nat} {x : Str} (h : PyData.strOk x = true) : Gd n (.str x) := ⟨by rw [PyData.canLay0]; exact h, by rw [PyData.depth]; exact Nat.zero_le _⟩
theorem Gd.mono {n m : Nat} {d : PyData} (h : Gd n d) (e : n ≤ m) : Gd m d := ⟨h.1, Nat.le_trans h.2 e⟩
theorem Gd.shaped {n : Nat} {d : PyData} (h : Gd n d) (e : n ≤ 64) : SeqAt.shaped d = true := by
  unfold SeqAt.shaped
  rw [h.1, decide_eq_true (Nat.le_trans h.2 e)]
  rfl
theorem gd_nil {n : Nat} : ∀ d ∈ ([] : List PyData), Gd n d := fun d h => absurd h (by simp)
theorem gd_cons {n : Nat} {d : PyData} {ds : List PyData} (h : Gd n d) (hs : ∀ e ∈ ds, Gd n e) : ∀ e ∈ d :: ds, Gd n e := fun e he => by
  rcases List.mem_cons.mp he with z | z
  · rw [z]; exact h
  · exact hs e z
end Lt

set_option maxHeartbeats 4000000
namespace Lt
open PySem L2 PySem.W
def rowS (xs : List V) : Str := Str.join ⟨#[32]⟩ (xs.map partT)
theorem rowT_eq (xs : List V) : rowT xs = rowS xs ++ ⟨#[10]⟩ := by
  unfold rowT rowS
  rw [c32, c10]
  congr 1
  exact StrLaws.glued_eq_join _ _
theorem part_wd {v : V} (h : PartOk v) : Tm.Wd (partT v) := by
  cases h with
  | int h => exact Tm.num_wd h
  | str h => exact Tm.wd_iff.mp h
theorem rowS_len {xs : List V} (h : ∀ v ∈ xs, PartOk v) : (rowS xs).length ≤ xs.length * 31 := by
  have e := StrLaws.join_length_le ⟨#[32]⟩ (xs.map partT)
  have s := parts_sum h
  have e1 : (⟨#[32]⟩ : Str).length = 1 := rfl
  rw [List.length_map, e1] at e
  unfold rowS
  have : ((xs.map partT).map (·.length)).sum ≤ xs.length * 30 := s
  omega
theorem atI_back {α : Type} {xs ys : List α} {k : Nat} {v : α} (h1 : 1 ≤ k) (h2 : k ≤ ys.length) (e : ys[ys.length - k]? = some v) : atI (xs ++ ys) (-(k : Int)) = some v := by
  have hl : (xs ++ ys).length = xs.length + ys.length := List.length_append ..
  have ei : ixN (xs ++ ys).length (-(k : Int)) = some (xs.length + (ys.length - k)) := by
    unfold ixN
    rw [hl, if_neg (by omega), if_pos (by omega)]
    congr 1
    omega
  unfold atI
  rw [ei]
  show (xs ++ ys)[xs.length + (ys.length - k)]? = _
  rw [List.getElem?_append_right (by omega), show xs.length + (ys.length - k) - xs.length = ys.length - k by omega]
  exact e
theorem cut_mid {x : V} {xs ys : List V} (h : ys.length = 6) : cutV ((x :: xs) ++ ys) (some 1) (some (-6)) = xs := by
  unfold cutV
  have hl : ((x :: xs) ++ ys).length = xs.length + 7 := by rw [List.length_append, List.length_cons, h]
  rw [hl]
  have e1 : HT.sIx (xs.length + 7) 0 (some 1) = 1 := by
    simp only [HT.sIx]
    rw [if_neg (by decide)]
    show min 1 (xs.length + 7) = 1
    omega
  have e2 : HT.sIx (xs.length + 7) (xs.length + 7) (some (-6)) = xs.length + 1 := by
    simp only [HT.sIx]
    rw [if_pos (by decide)]
    omega
  rw [e1, e2]
  show (xs ++ ys).take (xs.length + 1 - 1) = xs
  rw [show xs.length + 1 - 1 = xs.length by omega]
  exact List.take_left ..
theorem cut_tail {x : V} {xs : List V} : cutV (x :: xs) (some 1) none = xs := by
  unfold cutV
  have e1 : HT.sIx (x :: xs).length 0 (some 1) = 1 := by
    simp only [HT.sIx]
    rw [if_neg (by decide), List.length_cons]
    show min 1 (xs.length + 1) = 1
    omega
  rw [e1]
  show xs.take ((x :: xs).length - 1) = xs
  exact List.take_of_length_le (by rw [List.length_cons]; omega)
theorem cut_last {xs : List V} {x : V} : cutV (xs ++ [x]) none (some (-1)) = xs := by
  unfold cutV
  have hl : (xs ++ [x]).length = xs.length + 1 := by simp
  rw [hl]
  have e2 : HT.sIx (xs.length + 1) (xs.length + 1) (some (-1)) = xs.length := by
    simp only [HT.sIx]
    rw [if_pos (by decide)]
    omega
  rw [e2]
  show ((xs ++ [x]).drop 0).take (xs.length - 0) = xs
  rw [List.drop_zero, Nat.sub_zero]
  exact List.take_left ..
def spRHead : Sp := fun vs H Q _ => ∃ (ps : List (Int × Int)) (a b c : Int), vs = [.str (rowS (headV ps a b c))] ∧ ps.length ≤ 6 ∧ (∀ q ∈ ps, Bd q.1 ∧ Bd q.2) ∧ Bd a ∧ Bd b ∧ Bd c ∧
  ∀ r pw H', Same H H' → H' r = some (.tup [.ref pw, .int a, .int b, .int c]) → WorkT H' pw ps → Q (.ref r) H'
theorem flat_parts (ps : List (Int × Int)) : ((flat ps).map partT).map V.str = (nums ps).map numV := by
  induction ps with
  | nil => rfl
  | cons q ps ih =>
    show V.str _ :: V.str _ :: ((flat ps).map partT).map V.str = numV q.1 :: numV q.2 :: (nums ps).map numV
    rw [ih]
    rfl
theorem head_words (ps : List (Int × Int)) (a b c : Int) : ((headV ps a b c).map partT).map V.str = (V.str "work" :: (nums ps).map numV) ++ [.str "span", numV a, .str "every", numV b, .str "least", numV c] := by
  unfold headV
  rw [List.map_append, List.map_append, List.map_cons, List.map_cons, flat_parts]
  rfl
theorem sh4 : SeqAt.shaped (.list [.str "work", .str "span", .str "every", .str "least"]) = true := (Gd.lst (n := 0) (gd_cons (Gd.str (by decide +kernel)) (gd_cons (Gd.str (by decide +kernel)) (gd_cons (Gd.str (by decide +kernel)) (gd_cons (Gd.str (by decide +kernel)) gd_nil))))).shaped (by decide)
theorem eqv4 (a b c d : Str) : PyData.eqv (.list [.str a, .str b, .str c, .str d]) (.list [.str a, .str b, .str c, .str d]) = true := by
  simp [PyData.eqv, PyData.eqvAll]
section
variable {P : Program} {w : World} {K : PySem.W.Frag} {mg : Str → Option Value} {base : Heap}
theorem scRHead : FnScope ["row", "words", "work"] ["row"] (defScope sRHead) := ⟨rfl, rfl, rfl, by decide +kernel, rfl, by decide +kernel, by decide +kernel⟩
theorem ok_rhead {f fW fP fN : Addr} {fd fdW fdP fdN : FuncData} (F : Fun K "read_head" "read_head" sRHead f fd) (G : Gb mg)
    (GW : FnOk P w K mg base CX0 4 fW fdW ["row"] spWords) (kW : keepIn K (.ref fW) = true) (bW : Binds K fdW ["row"] []) (mW : mg "read_words" = some (.ref fW))
    (GP : FnOk P w K mg base CX0 4 fP fdP ["words"] spPairs) (kP : keepIn K (.ref fP) = true) (bP : Binds K fdP ["words"] []) (mP : mg "read_pairs" = some (.ref fP))
    (GN : FnOk P w K mg base CX0 4 fN fdN ["words"] spNums) (kN : keepIn K (.ref fN) = true) (bN : Binds K fdN ["words"] []) (mN : mg "read_numbers" = some (.ref fN)) : FnOk P w K mg base CX0 5 f fd ["row"] spRHead := by
  refine F.ok scRHead (fun vs H Q E h => ?_) (fun cdv A outer s H vs Q E hr h => ?_)
  · obtain ⟨ps, a, b, c, rfl, _⟩ := h
    rfl
  · obtain ⟨ps, a, b, c, rfl, ln, hb, ha, hb', hc, q⟩ := h
    refine ⟨_, pss_cons (ps_set (i := 1) scRHead.nd rfl (Or.inl rfl) (pe_call GW hr rfl mW kW bW .nil pass0 (pa_cons (pv 0) pa_nil)))
      (pss_cons (ps_if (PW.pt (pw_or (pt_cmpR op_lt (pe_callB call_len_seq (by rfl) G.len PySem.boot_len (pa_cons (pv 1) pa_nil)) pe_int (nomark _)) (pw_or1 (pt_cmpR (op_neD hr.units)
          (pe_lst (pa_cons (pe_ix ix_list (pv 1) pe_int (fun _ _ => rfl)) (pa_cons (pe_ix ix_list (pv 1) (pe_un un_neg pe_int) (fun _ _ => rfl)) (pa_cons (pe_ix ix_list (pv 1) (pe_un un_neg pe_int) (fun _ _ => rfl)) (pa_cons (pe_ix ix_list (pv 1) (pe_un un_neg pe_int) (fun _ _ => rfl)) pa_nil)))))
          (pe_lst (pa_cons pe_str (pa_cons pe_str (pa_cons pe_str (pa_cons pe_str pa_nil))))) (nomark _))))) (pss_one ps_never) pss_nil)
      (pss_cons (ps_set (i := 2) scRHead.nd rfl (Or.inl rfl) (pe_call GP hr rfl mP kP bP .nil pass0 (pa_cons (pe_slice sl_list (pv 1) (po_some pe_int) (po_some (pe_un un_neg pe_int))) pa_nil)))
      (pss_one (ps_ret (pe_op op_catA (pe_tup (pa_cons (pv 2) pa_nil)) (pe_call GN hr rfl mN kN bN .nil pass0 (pa_cons (pe_lst (pa_cons (pe_ix ix_list (pv 1) (pe_un un_neg pe_int) (fun _ _ => rfl)) (pa_cons (pe_ix ix_list (pv 1) (pe_un un_neg pe_int) (fun _ _ => rfl)) (pa_cons (pe_ix ix_list (pv 1) (pe_un un_neg pe_int) (fun _ _ => rfl)) pa_nil)))) pa_nil))))))), ?_⟩
    have sl : sizeLine = 16777216 := sizeLine_eq
    have ok := head_ok hb ha hb' hc
    have hlen : (headV ps a b c).length = 2 * ps.length + 7 := by
      unfold headV
      rw [List.length_append, List.length_cons, flat_len]
      rfl
    have hrl := rowS_len ok
    rw [hlen] at hrl
    refine ⟨_, rfl, _, (headV ps a b c).map partT, rfl, rfl, by unfold headV; simp, fun y hy => ?_, by omega, by rw [List.length_map]; omega, fun l H1 s1 e1 => ?_⟩
    · obtain ⟨v, hv, rfl⟩ := List.mem_map.mp hy
      exact part_wd (ok v hv)
    rw [head_words] at e1
    have ll : ((V.str "work" :: (nums ps).map numV) ++ [.str "span", numV a, .str "every", numV b, .str "least", numV c]).length = 2 * ps.length + 7 := by
      rw [List.length_append, List.length_cons, List.length_map, nums_len]
      rfl
    have bk : ∀ (k : Nat) (v : V), 1 ≤ k → k ≤ 6 → [V.str "span", numV a, .str "every", numV b, .str "least", numV c][6 - k]? = some v → atI ((V.str "work" :: (nums ps).map numV) ++ [.str "span", numV a, .str "every", numV b, .str "least", numV c]) (-(k : Int)) = some v := fun k v h1 h2 e => atI_back h1 h2 e
    refine ⟨_, rfl, l, _, rfl, .inl (SqL.of e1), _, _, rfl, rfl, _, rfl, ite_no (decide_eq_false (by rw [ll]; omega)) ?_⟩
    refine ⟨_, rfl, l, _, _, _, rfl, rfl, SqL.of e1, atI_nat (j := 0) rfl, _, rfl, 6, rfl, l, _, _, _, rfl, rfl, SqL.of e1, bk 6 _ (by decide) (by decide) rfl, _, rfl, 4, rfl, l, _, _, _, rfl, rfl, SqL.of e1, bk 4 _ (by decide) (by decide) rfl, _, rfl, 2, rfl, l, _, _, _, rfl, rfl, SqL.of e1, bk 2 _ (by decide) (by decide) rfl, by show 4 ≤ sizeLine; decide, fun l2 h2 => ?_⟩
    refine ⟨by show 4 ≤ sizeLine; decide, fun l3 h3 => ?_⟩
    have s2 : Same H1 (upd H1 l2 (.lst [.str "work", .str "span", .str "every", .str "least"])) := same_upd h2
    have e2 : (upd H1 l2 (.lst [.str "work", .str "span", .str "every", .str "least"])) l2 = some (.lst [.str "work", .str "span", .str "every", .str "least"]) := upd_same
    have s3 := same_upd (o := .lst [.str "work", .str "span", .str "every", .str "least"]) h3
    refine ⟨.list [.str "work", .str "span", .str "every", .str "least"], .list [.str "work", .str "span", .str "every", .str "least"], .lst (SqL.of (s3 _ _ e2)) (.cons (.str _) (.cons (.str _) (.cons (.str _) (.cons (.str _) .nil)))), .lst (SqL.of upd_same) (.cons (.str _) (.cons (.str _) (.cons (.str _) (.cons (.str _) .nil)))), sh4, sh4, _, rfl, ?_⟩
    rw [eqv4]
    refine iteF ?_
    have s13 : Same H1 _ := s2.trans s3
    generalize upd (upd H1 l2 (.lst [.str "work", .str "span", .str "every", .str "least"])) l3 (.lst [.str "work", .str "span", .str "every", .str "least"]) = H3 at s13 ⊢
    have e3 := s13 _ _ e1
    refine ⟨_, rfl, _, rfl, 6, rfl, _, rfl, l, _, rfl, SqL.of e3, fun l4 h4 => ?_⟩
    rw [cut_mid rfl]
    refine ⟨l4, ps, rfl, upd_same, ln, hb, fun pw H5 s5 hw => ?_⟩
    have e5 := s5 _ _ (same_upd h4 _ _ e3)
    refine ⟨_, rfl, by show 1 ≤ sizeLine; decide, fun t ht => ?_⟩
    have s6 : Same H5 (upd H5 t (.tup [.ref pw])) := same_upd ht
    have e6 : (upd H5 t (.tup [.ref pw])) t = some (.tup [.ref pw]) := upd_same
    generalize upd H5 t (.tup [.ref pw]) = H6 at s6 e6 ⊢
    have e1' := s6 _ _ e5
    refine ⟨_, rfl, 5, rfl, l, _, _, _, rfl, rfl, SqL.of e1', bk 5 _ (by decide) (by decide) rfl, _, rfl, 3, rfl, l, _, _, _, rfl, rfl, SqL.of e1', bk 3 _ (by decide) (by decide) rfl, _, rfl, 1, rfl, l, _, _, _, rfl, rfl, SqL.of e1', bk 1 _ (by decide) (by decide) rfl, by show 3 ≤ sizeLine; decide, fun l7 h7 => ?_⟩
    refine ⟨l7, [a, b, c], rfl, upd_same, by show 3 ≤ 1000; decide, fun n hn => ?_, fun r8 H8 s8 e8 => ?_⟩
    · simp only [List.mem_cons, List.not_mem_nil, or_false] at hn
      rcases hn with rfl | rfl | rfl
      · exact ha
      · exact hb'
      · exact hc
    have s68 : Same H6 H8 := (same_upd h7).trans s8
    refine ⟨t, r8, _, _, rfl, rfl, s68 _ _ e6, e8, by show 1 + 3 ≤ sizeLine; decide, fun r9 H9 s9 e9 => ?_⟩
    have s59 := s6.trans (s68.trans s9)
    exact q r9 pw H9 (s1.trans (s13.trans ((same_upd h4).trans (s5.trans s59)))) e9 (hw.same s59)
end
end Lt

set_option maxHeartbeats 4000000
namespace Lt
open PySem L2 PySem.W
def spRLine : Sp := fun vs H Q _ => ∃ l : Ln, vs = [.str (rowS l.vs)] ∧ l.Ok ∧ ∀ r H', Same H H' → LnAt H' r l → Q (.ref r) H'
def plain : List (Str × Int) := [("back", 3), ("cut", 3), ("join", 2)]
theorem vs_len : ∀ {l : Ln}, l.Ok → l.vs.length ≤ 44 := fun {l} h => by
  cases l with
  | told a b c ns =>
    show ([V.str "told", .int a, .int b, .int c] ++ ns.map V.int).length ≤ 44
    rw [List.length_append, List.length_map]
    have := h.2.2.2.1
    show 4 + ns.length ≤ 44
    omega
  | lent a x b c => show 5 ≤ 44; decide
  | back a b => show 3 ≤ 44; decide
  | cut a b => show 3 ≤ 44; decide
  | join a => show 2 ≤ 44; decide
theorem ints_num : ∀ ns : List Int, ((ns.map V.int).map partT).map V.str = ns.map numV
  | [] => rfl
  | n :: ns => by
    show V.str _ :: ((ns.map V.int).map partT).map V.str = numV n :: ns.map numV
    rw [ints_num ns]
    rfl
theorem cut_14 {x a b c : V} {xs : List V} : cutV (x :: a :: b :: c :: xs) (some 1) (some 4) = [a, b, c] := by
  unfold cutV
  have e1 : HT.sIx (x :: a :: b :: c :: xs).length 0 (some 1) = 1 := by
    simp only [HT.sIx]
    rw [if_neg (by decide), List.length_cons]
    show min 1 _ = 1
    omega
  have e2 : HT.sIx (x :: a :: b :: c :: xs).length (x :: a :: b :: c :: xs).length (some 4) = 4 := by
    simp only [HT.sIx]
    rw [if_neg (by decide)]
    show min 4 (xs.length + 1 + 1 + 1 + 1) = 4
    omega
  rw [e1, e2]
  rfl
theorem cut_4 {x a b c : V} {xs : List V} : cutV (x :: a :: b :: c :: xs) (some 4) none = xs := by
  unfold cutV
  have e1 : HT.sIx (x :: a :: b :: c :: xs).length 0 (some 4) = 4 := by
    simp only [HT.sIx]
    rw [if_neg (by decide)]
    show min 4 (xs.length + 1 + 1 + 1 + 1) = 4
    omega
  rw [e1]
  show xs.take ((x :: a :: b :: c :: xs).length - 4) = xs
  exact List.take_of_length_le (by show xs.length ≤ xs.length + 1 + 1 + 1 + 1 - 4; omega)
theorem cut_3 {x a b c d : V} : cutV [x, a, b, c, d] (some 3) none = [c, d] := rfl
theorem str_ne {x y : Str} (h : x ≠ y) : decide (V.str x = V.str y) = false := decide_eq_false fun z => h (V.str.inj z)
section
variable {P : Program} {w : World} {K : PySem.W.Frag} {mg : Str → Option Value} {base : Heap}
theorem scRLine : FnScope ["row", "words"] ["row"] (defScope sRLine) := ⟨rfl, rfl, rfl, by decide +kernel, rfl, by decide +kernel, by decide +kernel⟩
theorem ok_rline {f fW fR fN d : Addr} {fd fdW fdR fdN : FuncData} (F : Fun K "read_line" "read_line" sRLine f fd) (G : Gb mg) (T : TabK P w K d plain) (mT : mg "PLAIN_WORDS" = some (.ref d))
    (GW : FnOk P w K mg base CX0 4 fW fdW ["row"] spWords) (kW : keepIn K (.ref fW) = true) (bW : Binds K fdW ["row"] []) (mW : mg "read_words" = some (.ref fW))
    (GR : FnOk P w K mg base CX0 4 fR fdR ["word"] spNum) (kR : keepIn K (.ref fR) = true) (bR : Binds K fdR ["word"] []) (mR : mg "read_number" = some (.ref fR))
    (GN : FnOk P w K mg base CX0 4 fN fdN ["words"] spNums) (kN : keepIn K (.ref fN) = true) (bN : Binds K fdN ["words"] []) (mN : mg "read_numbers" = some (.ref fN)) : FnOk P w K mg base CX0 5 f fd ["row"] spRLine := by
  refine F.ok scRLine (fun vs H Q E h => ?_) (fun cdv A outer s H vs Q E hr h => ?_)
  · obtain ⟨l, rfl, _⟩ := h
    rfl
  · obtain ⟨l, rfl, ok, q⟩ := h
    have hu := hu_of hr
    refine ⟨_, pss_cons (ps_set (i := 1) scRLine.nd rfl (Or.inl rfl) (pe_call GW hr rfl mW kW bW .nil pass0 (pa_cons (pv 0) pa_nil)))
      (pss_cons (ps_if (PW.pt (pw_and (pt_cmpR op_eq (pe_ix ix_list (pv 1) pe_int (fun _ _ => rfl)) pe_str (nomark _)) (pw_and1 (pt_cmpR op_eq (pe_callB call_len_seq (by rfl) G.len PySem.boot_len (pa_cons (pv 1) pa_nil)) pe_int (nomark _)))))
          (pss_one (ps_ret (pe_op op_catA (pe_tup (pa_cons pe_str (pa_cons (pe_call GR hr rfl mR kR bR .nil pass0 (pa_cons (pe_ix ix_list (pv 1) pe_int (fun _ _ => rfl)) pa_nil)) (pa_cons (pe_ix ix_list (pv 1) pe_int (fun _ _ => rfl)) pa_nil)))) (pe_call GN hr rfl mN kN bN .nil pass0 (pa_cons (pe_slice sl_list (pv 1) (po_some pe_int) po_none) pa_nil))))) pss_nil)
      (pss_cons (ps_if (PW.pt (pw_and (pt_cmpR op_eq (pe_ix ix_list (pv 1) pe_int (fun _ _ => rfl)) pe_str (nomark _)) (pw_and1 (pt_cmpR op_ge (pe_callB call_len_seq (by rfl) G.len PySem.boot_len (pa_cons (pv 1) pa_nil)) pe_int (nomark _)))))
          (pss_one (ps_ret (pe_op op_catA (pe_op op_catA (pe_tup (pa_cons pe_str pa_nil)) (pe_call GN hr rfl mN kN bN .nil pass0 (pa_cons (pe_slice sl_list (pv 1) (po_some pe_int) (po_some pe_int)) pa_nil))) (pe_tup (pa_cons (pe_call GN hr rfl mN kN bN .nil pass0 (pa_cons (pe_slice sl_list (pv 1) (po_some pe_int) po_none) pa_nil)) pa_nil))))) pss_nil)
      (pss_cons (ps_if (pt_cmpR op_eq (pe_tget T rfl mT (pe_ix ix_list (pv 1) pe_int (fun _ _ => rfl)) (by constructor <;> rfl)) (pe_callB call_len_seq (by rfl) G.len PySem.boot_len (pa_cons (pv 1) pa_nil)) (nomark _))
          (pss_one (ps_ret (pe_op op_catA (pe_tup (pa_cons (pe_ix ix_list (pv 1) pe_int (fun _ _ => rfl)) pa_nil)) (pe_call GN hr rfl mN kN bN .nil pass0 (pa_cons (pe_slice sl_list (pv 1) (po_some pe_int) po_none) pa_nil))))) pss_nil)
      (pss_one ps_never)))), ?_⟩
    have sl : sizeLine = 16777216 := sizeLine_eq
    have okp := Ln.parts ok
    have hlen := vs_len ok
    have hrl := rowS_len okp
    refine ⟨_, rfl, _, l.vs.map partT, rfl, rfl, by cases l <;> simp [Ln.vs], fun y hy => ?_, by omega, by rw [List.length_map]; omega, fun lw H1 s1 e1 => ?_⟩
    · obtain ⟨v, hv, rfl⟩ := List.mem_map.mp hy
      exact part_wd (okp v hv)
    cases l with
    | lent a x b c =>
      have e1 : H1 lw = some (.lst [.str "lent", numV a, .str x, numV b, numV c]) := e1
      refine ⟨_, rfl, lw, _, _, _, rfl, rfl, SqL.of e1, atI_nat (j := 0) rfl, rfl, _, rfl, ite_of (decide_eq_true rfl) ?_⟩
      refine ⟨_, rfl, lw, _, rfl, .inl (SqL.of e1), rfl, _, rfl, ite_of (decide_eq_true rfl) ?_⟩
      refine ⟨_, rfl, lw, _, _, _, rfl, rfl, SqL.of e1, atI_nat (j := 1) rfl, a, rfl, ok.1, fun H2 s2 => ?_⟩
      have e2 := s2 _ _ e1
      refine ⟨_, rfl, lw, _, _, _, rfl, rfl, SqL.of e2, atI_nat (j := 2) rfl, by show 3 ≤ sizeLine; decide, fun t ht => ?_⟩
      have s3 : Same H2 (upd H2 t (.tup [.str "lent", .int a, .str x])) := same_upd ht
      have e3 : (upd H2 t (.tup [.str "lent", .int a, .str x])) t = some (.tup [.str "lent", .int a, .str x]) := upd_same
      generalize upd H2 t (.tup [.str "lent", .int a, .str x]) = H3 at s3 e3 ⊢
      refine ⟨_, rfl, _, rfl, lw, _, rfl, SqL.of (s3 _ _ e2), fun l4 h4 => ?_⟩
      rw [cut_3]
      refine ⟨l4, [b, c], rfl, upd_same, by show 2 ≤ 1000; decide, fun n hn => ?_, fun r5 H5 s5 e5 => ?_⟩
      · simp only [List.mem_cons, List.not_mem_nil, or_false] at hn
        rcases hn with rfl | rfl
        · exact ok.2.2.1
        · exact ok.2.2.2
      have s35 : Same H3 H5 := (same_upd h4).trans s5
      exact ⟨t, r5, _, _, rfl, rfl, s35 _ _ e3, e5, by show 3 + 2 ≤ sizeLine; decide, fun r6 H6 s6 e6 => q r6 H6 (s1.trans (s2.trans (s3.trans (s35.trans s6)))) e6⟩
    | told a b c ns =>
      have e1 : H1 lw = some (.lst (.str "told" :: numV a :: numV b :: numV c :: ns.map numV)) := by
        rw [← ints_num]
        exact e1
      refine ⟨_, rfl, lw, _, _, _, rfl, rfl, SqL.of e1, atI_nat (j := 0) rfl, rfl, _, rfl, ite_no (str_ne (by decide +kernel)) ?_⟩
      refine iteF ?_
      refine ⟨_, rfl, lw, _, _, _, rfl, rfl, SqL.of e1, atI_nat (j := 0) rfl, rfl, _, rfl, ite_of (decide_eq_true rfl) ?_⟩
      refine ⟨_, rfl, lw, _, rfl, .inl (SqL.of e1), _, _, rfl, rfl, _, rfl, ite_of (decide_eq_true (by show (4 : Int) ≤ ((ns.map numV).length + 1 + 1 + 1 + 1 : Nat); omega)) ?_⟩
      refine ⟨by show 1 ≤ sizeLine; decide, fun t ht => ?_⟩
      have s2 : Same H1 (upd H1 t (.tup [.str "told"])) := same_upd ht
      have e2 : (upd H1 t (.tup [.str "told"])) t = some (.tup [.str "told"]) := upd_same
      generalize upd H1 t (.tup [.str "told"]) = H2 at s2 e2 ⊢
      have e12 := s2 _ _ e1
      refine ⟨_, rfl, _, rfl, _, rfl, lw, _, rfl, SqL.of e12, fun l3 h3 => ?_⟩
      rw [cut_14]
      refine ⟨l3, [a, b, c], rfl, upd_same, by show 3 ≤ 1000; decide, fun n hn => ?_, fun r4 H4 s4 e4 => ?_⟩
      · simp only [List.mem_cons, List.not_mem_nil, or_false] at hn
        rcases hn with rfl | rfl | rfl
        · exact ok.1
        · exact ok.2.1
        · exact ok.2.2.1
      have s24 : Same H2 H4 := (same_upd h3).trans s4
      refine ⟨t, r4, _, _, rfl, rfl, s24 _ _ e2, e4, by show 1 + 3 ≤ sizeLine; decide, fun r5 H5 s5 e5 => ?_⟩
      have e15 := s5 _ _ (s24 _ _ e12)
      refine ⟨_, rfl, _, rfl, lw, _, rfl, SqL.of e15, fun l6 h6 => ?_⟩
      rw [cut_4]
      refine ⟨l6, ns, rfl, upd_same, by have := ok.2.2.2.1; omega, ok.2.2.2.2, fun r7 H7 s7 e7 => ?_⟩
      have s57 : Same H5 H7 := (same_upd h6).trans s7
      refine ⟨by show 1 ≤ sizeLine; decide, fun t8 h8 => ?_⟩
      have s8 : Same H7 (upd H7 t8 (.tup [.ref r7])) := same_upd h8
      refine ⟨r5, t8, _, _, rfl, rfl, s8 _ _ (s57 _ _ e5), upd_same, by show 4 + 1 ≤ sizeLine; decide, fun r9 H9 s9 e9 => q r9 H9 (s1.trans (s2.trans (s24.trans (s5.trans (s57.trans (s8.trans s9)))))) ⟨r7, e9, s9 _ _ (s8 _ _ e7)⟩⟩
    | back a b =>
      have e1 : H1 lw = some (.lst (.str "back" :: [a, b].map numV)) := e1
      refine ⟨_, rfl, lw, _, _, _, rfl, rfl, SqL.of e1, atI_nat (j := 0) rfl, rfl, _, rfl, ite_no (str_ne (by decide +kernel)) ?_⟩
      refine iteF ?_
      refine ⟨_, rfl, lw, _, _, _, rfl, rfl, SqL.of e1, atI_nat (j := 0) rfl, rfl, _, rfl, ite_no (str_ne (by decide +kernel)) ?_⟩
      refine iteF ?_
      refine ⟨_, rfl, lw, _, _, _, rfl, rfl, SqL.of e1, atI_nat (j := 0) rfl, _, rfl, fun _ => ?_, fun hk => absurd hk (by decide +kernel)⟩
      refine ⟨_, rfl, lw, _, rfl, .inl (SqL.of e1), rfl, _, rfl, ite_of (decide_eq_true (by rw [show kdpLook plain "back" 0 = 3 from by decide +kernel]; rfl)) ?_⟩
      refine ⟨_, rfl, lw, _, _, _, rfl, rfl, SqL.of e1, atI_nat (j := 0) rfl, by show 1 ≤ sizeLine; decide, fun t ht => ?_⟩
      have s2 : Same H1 (upd H1 t (.tup [.str "back"])) := same_upd ht
      have e2 : (upd H1 t (.tup [.str "back"])) t = some (.tup [.str "back"]) := upd_same
      generalize upd H1 t (.tup [.str "back"]) = H2 at s2 e2 ⊢
      refine ⟨_, rfl, _, rfl, lw, _, rfl, SqL.of (s2 _ _ e1), fun l3 h3 => ?_⟩
      rw [cut_tail]
      refine ⟨l3, [a, b], rfl, upd_same, by show 2 ≤ 1000; decide, fun n hn => ?_, fun r4 H4 s4 e4 => ?_⟩
      · simp only [List.mem_cons, List.not_mem_nil, or_false] at hn
        rcases hn with rfl | rfl
        · exact ok.1
        · exact ok.2
      have s24 : Same H2 H4 := (same_upd h3).trans s4
      exact ⟨t, r4, _, _, rfl, rfl, s24 _ _ e2, e4, by show 1 + 2 ≤ sizeLine; decide, fun r5 H5 s5 e5 => q r5 H5 (s1.trans (s2.trans (s24.trans s5))) e5⟩
    | cut a b =>
      have e1 : H1 lw = some (.lst (.str "cut" :: [a, b].map numV)) := e1
      refine ⟨_, rfl, lw, _, _, _, rfl, rfl, SqL.of e1, atI_nat (j := 0) rfl, rfl, _, rfl, ite_no (str_ne (by decide +kernel)) ?_⟩
      refine iteF ?_
      refine ⟨_, rfl, lw, _, _, _, rfl, rfl, SqL.of e1, atI_nat (j := 0) rfl, rfl, _, rfl, ite_no (str_ne (by decide +kernel)) ?_⟩
      refine iteF ?_
      refine ⟨_, rfl, lw, _, _, _, rfl, rfl, SqL.of e1, atI_nat (j := 0) rfl, _, rfl, fun _ => ?_, fun hk => absurd hk (by decide +kernel)⟩
      refine ⟨_, rfl, lw, _, rfl, .inl (SqL.of e1), rfl, _, rfl, ite_of (decide_eq_true (by rw [show kdpLook plain "cut" 0 = 3 from by decide +kernel]; rfl)) ?_⟩
      refine ⟨_, rfl, lw, _, _, _, rfl, rfl, SqL.of e1, atI_nat (j := 0) rfl, by show 1 ≤ sizeLine; decide, fun t ht => ?_⟩
      have s2 : Same H1 (upd H1 t (.tup [.str "cut"])) := same_upd ht
      have e2 : (upd H1 t (.tup [.str "cut"])) t = some (.tup [.str "cut"]) := upd_same
      generalize upd H1 t (.tup [.str "cut"]) = H2 at s2 e2 ⊢
      refine ⟨_, rfl, _, rfl, lw, _, rfl, SqL.of (s2 _ _ e1), fun l3 h3 => ?_⟩
      rw [cut_tail]
      refine ⟨l3, [a, b], rfl, upd_same, by show 2 ≤ 1000; decide, fun n hn => ?_, fun r4 H4 s4 e4 => ?_⟩
      · simp only [List.mem_cons, List.not_mem_nil, or_false] at hn
        rcases hn with rfl | rfl
        · exact ok.1
        · exact ok.2
      have s24 : Same H2 H4 := (same_upd h3).trans s4
      exact ⟨t, r4, _, _, rfl, rfl, s24 _ _ e2, e4, by show 1 + 2 ≤ sizeLine; decide, fun r5 H5 s5 e5 => q r5 H5 (s1.trans (s2.trans (s24.trans s5))) e5⟩
    | join a =>
      have e1 : H1 lw = some (.lst (.str "join" :: [a].map numV)) := e1
      refine ⟨_, rfl, lw, _, _, _, rfl, rfl, SqL.of e1, atI_nat (j := 0) rfl, rfl, _, rfl, ite_no (str_ne (by decide +kernel)) ?_⟩
      refine iteF ?_
      refine ⟨_, rfl, lw, _, _, _, rfl, rfl, SqL.of e1, atI_nat (j := 0) rfl, rfl, _, rfl, ite_no (str_ne (by decide +kernel)) ?_⟩
      refine iteF ?_
      refine ⟨_, rfl, lw, _, _, _, rfl, rfl, SqL.of e1, atI_nat (j := 0) rfl, _, rfl, fun _ => ?_, fun hk => absurd hk (by decide +kernel)⟩
      refine ⟨_, rfl, lw, _, rfl, .inl (SqL.of e1), rfl, _, rfl, ite_of (decide_eq_true (by rw [show kdpLook plain "join" 0 = 2 from by decide +kernel]; rfl)) ?_⟩
      refine ⟨_, rfl, lw, _, _, _, rfl, rfl, SqL.of e1, atI_nat (j := 0) rfl, by show 1 ≤ sizeLine; decide, fun t ht => ?_⟩
      have s2 : Same H1 (upd H1 t (.tup [.str "join"])) := same_upd ht
      have e2 : (upd H1 t (.tup [.str "join"])) t = some (.tup [.str "join"]) := upd_same
      generalize upd H1 t (.tup [.str "join"]) = H2 at s2 e2 ⊢
      refine ⟨_, rfl, _, rfl, lw, _, rfl, SqL.of (s2 _ _ e1), fun l3 h3 => ?_⟩
      rw [cut_tail]
      refine ⟨l3, [a], rfl, upd_same, by show 1 ≤ 1000; decide, fun n hn => ?_, fun r4 H4 s4 e4 => ?_⟩
      · simp only [List.mem_cons, List.not_mem_nil, or_false] at hn
        rw [hn]
        exact ok
      have s24 : Same H2 H4 := (same_upd h3).trans s4
      exact ⟨t, r4, _, _, rfl, rfl, s24 _ _ e2, e4, by show 1 + 1 ≤ sizeLine; decide, fun r5 H5 s5 e5 => q r5 H5 (s1.trans (s2.trans (s24.trans s5))) e5⟩
end
end Lt

set_option maxHeartbeats 4000000
namespace Lt
open PySem L2 PySem.W
theorem join_free {c : Nat} (hc : c ≠ 32) : ∀ {ws : List Str}, (∀ y ∈ ws, c ∉ Tm.sg y) → c ∉ Tm.sg (Str.join ⟨#[32]⟩ ws)
  | [], _ => by
    intro z
    cases z
  | [y], h => h y List.mem_cons_self
  | y :: x :: r, h => by
    rw [Tm.join_two, Tm.sg_app, Tm.sg_app, Tm.sg_one]
    intro z
    rcases List.mem_append.mp z with z | z
    · rcases List.mem_append.mp z with z | z
      · exact h y List.mem_cons_self z
      · exact hc (List.mem_singleton.mp z)
    · exact join_free hc (fun w hw => h w (List.mem_cons_of_mem _ hw)) z
theorem row_free {xs : List V} (h : ∀ v ∈ xs, PartOk v) : 10 ∉ Tm.sg (rowS xs) := join_free (by decide) fun y hy => by
  obtain ⟨v, hv, rfl⟩ := List.mem_map.mp hy
  exact (part_wd (h v hv)).free (by decide)
theorem cat_len {B : Nat} : ∀ {rs : List Str}, (∀ r ∈ rs, r.length ≤ B) → (Tm.cat rs).length ≤ rs.length * (B + 1)
  | [], _ => Nat.zero_le _
  | r :: t, h => by
    have h1 := h r List.mem_cons_self
    have h2 := cat_len fun x hx => h x (List.mem_cons_of_mem _ hx)
    show (r ++ ⟨#[10]⟩ ++ Tm.cat t).length ≤ (t.length + 1) * (B + 1)
    rw [Str.length_append, Str.length_append, Nat.succ_mul]
    show r.length + 1 + _ ≤ _
    omega
def spRows : Sp := fun vs H Q _ => ∃ (rs : List Str) (z : Str), vs = [.str (Tm.cat rs ++ z)] ∧ (∀ r ∈ rs, 10 ∉ Tm.sg r) ∧ 10 ∉ Tm.sg z ∧ (Tm.cat rs ++ z).length + 2 ≤ sizeLine ∧ ∀ r H', Same H H' → H' r = some (.lst (rs.map V.str)) → Q (.ref r) H'
structure Hd (ps : List (Int × Int)) (a b c : Int) : Prop where
  len : ps.length ≤ 6
  bd : ∀ q ∈ ps, Bd q.1 ∧ Bd q.2
  wk : Lm.Wk ps
  ba : Bd a
  bb : Bd b
  bc : Bd c
  a1 : 1 ≤ a
  b1 : 1 ≤ b
  le : b ≤ c
def LnV (H : Hp) (v : V) (l : Ln) : Prop := ∃ b, v = .ref b ∧ LnAt H b l
theorem LnV.same {H H' : Hp} {v : V} {l : Ln} (e : Same H H') (h : LnV H v l) : LnV H' v l := by
  obtain ⟨b, h1, h2⟩ := h
  exact ⟨b, h1, h2.same e⟩
def theRows (ps : List (Int × Int)) (a b c : Int) (ls : List Ln) : List Str := rowS (headV ps a b c) :: ls.map fun l => rowS l.vs
/-- what is read -/
def Read (H : Hp) (r : Addr) (ps : List (Int × Int)) (a b c : Int) (ls : List Ln) : Prop := ∃ (pw pl : Addr) (xs : List V), H r = some (.tup [.ref pw, .int a, .int b, .int c, .ref pl]) ∧ WorkT H pw ps ∧ H pl = some (.tup xs) ∧ Paired (LnV H) xs ls
theorem Read.same {H H' : Hp} {r : Addr} {ps : List (Int × Int)} {a b c : Int} {ls : List Ln} (e : Same H H') (h : Read H r ps a b c ls) : Read H' r ps a b c ls := by
  obtain ⟨pw, pl, xs, h1, h2, h3, h4⟩ := h
  exact ⟨pw, pl, xs, e _ _ h1, h2.same e, e _ _ h3, paired_map (fun _ _ z => z.same e) h4⟩
def spText : Sp := fun vs H Q _ => ∃ (ps : List (Int × Int)) (a b c : Int) (ls : List Ln) (z : Str), vs = [.str (Tm.cat (theRows ps a b c ls) ++ z)] ∧ Hd ps a b c ∧ 10 ∉ Tm.sg z ∧ z.length ≤ 5000 ∧ ls.length ≤ 63 ∧ (∀ l ∈ ls, l.Ok) ∧
  ∀ r H', Same H H' → Read H' r ps a b c ls → Q (.ref r) H'
theorem rows_free {ps : List (Int × Int)} {a b c : Int} {ls : List Ln} (hd : Hd ps a b c) (ok : ∀ l ∈ ls, l.Ok) : ∀ r ∈ theRows ps a b c ls, 10 ∉ Tm.sg r := fun r hr => by
  rcases List.mem_cons.mp hr with rfl | hr
  · exact row_free (head_ok hd.bd hd.ba hd.bb hd.bc)
  · obtain ⟨l, hl, rfl⟩ := List.mem_map.mp hr
    exact row_free (Ln.parts (ok l hl))
theorem rows_len {ps : List (Int × Int)} {a b c : Int} {ls : List Ln} (hd : Hd ps a b c) (ok : ∀ l ∈ ls, l.Ok) : ∀ r ∈ theRows ps a b c ls, r.length ≤ 1400 := fun r hr => by
  rcases List.mem_cons.mp hr with rfl | hr
  · have h1 := rowS_len (head_ok hd.bd hd.ba hd.bb hd.bc)
    have h2 := hd.len
    have hlen : (headV ps a b c).length = 2 * ps.length + 7 := by
      unfold headV
      rw [List.length_append, List.length_cons, flat_len]
      rfl
    omega
  · obtain ⟨l, hl, rfl⟩ := List.mem_map.mp hr
    have h1 := rowS_len (Ln.parts (ok l hl))
    have h2 := vs_len (ok l hl)
    omega
theorem text_len {ps : List (Int × Int)} {a b c : Int} {ls : List Ln} (hd : Hd ps a b c) (ok : ∀ l ∈ ls, l.Ok) (ll : ls.length ≤ 63) : (Tm.cat (theRows ps a b c ls)).length ≤ 100000 := by
  have h := cat_len (rows_len hd ok)
  have e : (theRows ps a b c ls).length = ls.length + 1 := by
    show (ls.map _).length + 1 = _
    rw [List.length_map]
  rw [e] at h
  have : (ls.length + 1) * (1400 + 1) ≤ 64 * 1401 := Nat.mul_le_mul (by omega) (by omega)
  omega
theorem ans_str {K : Frag} {H : Hp} (x : Str) : ∃ t, TyOf K H (.str x) t ∧ kitOne K t (.type "str") = some true := ⟨_, .str x, by rfl⟩
theorem ndRo : (["row"] : List Str).Nodup := by decide +kernel
section
variable {P : Program} {w : World} {K : PySem.W.Frag} {mg : Str → Option Value} {base : Heap}
theorem scRows : FnScope ["text"] ["text"] (defScope sRows) := ⟨rfl, rfl, rfl, by decide +kernel, rfl, by decide +kernel, by decide +kernel⟩
theorem ok_rows {f : Addr} {fd : FuncData} (F : Fun K "whole_rows" "whole_rows" sRows f fd) : FnOk P w K mg base CX0 1 f fd ["text"] spRows := by
  refine F.ok scRows (fun vs H Q E h => ?_) (fun cdv A outer s H vs Q E hr h => ?_)
  · obtain ⟨rs, z, rfl, _⟩ := h
    rfl
  · obtain ⟨rs, z, rfl, hr', hz, hl, q⟩ := h
    refine ⟨_, pss_one (ps_ret (pe_slice sl_list (pe_bm PySem.F.plainAttrs_str PySem.F.slot_str_split PySem.F.type_str_split mt_split (pv 0) (pa_cons pe_str pa_nil)) po_none (po_some (pe_un un_neg pe_int)))), ?_⟩
    refine ⟨_, rfl, rfl, _, _, rfl, rfl, by decide +kernel, hl, fun l h1 => ?_⟩
    rw [c10, Tm.split_rows hr' hz, List.map_append]
    refine ⟨1, rfl, _, rfl, l, _, rfl, SqL.of upd_same, fun l2 h2 => ?_⟩
    refine q l2 _ ((same_upd h1).trans (same_upd h2)) ?_
    rw [upd_same]
    show some (HO.lst (cutV (rs.map V.str ++ [V.str z]) none (some (-1)))) = _
    rw [cut_last]
theorem scText : FnScope ["text", "rows", "head", "lines"] ["text"] (defScope sText) := ⟨rfl, rfl, rfl, by decide +kernel, rfl, by decide +kernel, by decide +kernel⟩
theorem ok_text {f fR fH fL fC fB : Addr} {fd fdR fdH fdL fdC fdB : FuncData} (F : Fun K "read_text" "read_text" sText f fd) (G : Gb mg)
    (GR : FnOk P w K mg base CX0 5 fR fdR ["text"] spRows) (kR : keepIn K (.ref fR) = true) (bR : Binds K fdR ["text"] []) (mR : mg "whole_rows" = some (.ref fR))
    (GH : FnOk P w K mg base CX0 5 fH fdH ["row"] spRHead) (kH : keepIn K (.ref fH) = true) (bH : Binds K fdH ["row"] []) (mH : mg "read_head" = some (.ref fH))
    (GL : FnOk P w K mg base CX0 5 fL fdL ["row"] spRLine) (kL : keepIn K (.ref fL) = true) (bL : Binds K fdL ["row"] []) (mL : mg "read_line" = some (.ref fL))
    (GC : FnOk P w K mg base CX0 5 fC fdC ["work"] Ls.spCheck) (kC : keepIn K (.ref fC) = true) (bC : Binds K fdC ["work"] []) (mC : mg "check_work" = some (.ref fC))
    (GB : FnOk P w K mg base CX0 5 fB fdB ["span", "every", "least"] spBounds) (kB : keepIn K (.ref fB) = true) (bB : Binds K fdB ["span", "every", "least"] []) (mB : mg "check_bounds" = some (.ref fB)) : FnOk P w K mg base CX0 6 f fd ["text"] spText := by
  refine F.ok scText (fun vs H Q E h => ?_) (fun cdv A outer s H vs Q E hr h => ?_)
  · obtain ⟨ps, a, b, c, ls, z, rfl, _⟩ := h
    rfl
  · obtain ⟨ps, a, b, c, ls, z, rfl, hd, hz, lz, ll, ok, q⟩ := h
    refine ⟨_, pss_cons (ps_if (pt_not (pt_val (pe_callB call_isinst (by rfl) G.isi Ls.boot_isi (pa_cons (pv 0) (pa_cons (pe_bltn (v := .ty "str") (by rfl) G.str boot_s rfl) pa_nil))))) (pss_one ps_never) pss_nil)
      (pss_cons (ps_set (i := 1) scText.nd rfl (Or.inl rfl) (pe_call GR hr rfl mR kR bR .nil pass0 (pa_cons (pv 0) pa_nil)))
      (pss_cons (ps_if (pt_not (pt_truth (pv 1) (fun _ => rfl))) (pss_one ps_never) pss_nil)
      (pss_cons (ps_set (i := 2) scText.nd rfl (Or.inl rfl) (pe_call GH hr rfl mH kH bH .nil pass0 (pa_cons (pe_ix ix_list (pv 1) pe_int (fun _ _ => rfl)) pa_nil)))
      (pss_cons (ps_set (i := 3) scText.nd rfl (Or.inl rfl) (pe_callTy call_tuple_of (by rfl) G.tuple boot_t (pa_cons (pe_comp (NB := ["row"]) (g := gName 0) rfl (by decide +kernel) (by decide +kernel) (by decide +kernel) rfl (pi_list (pe_slice sl_list (pv 1) (po_some pe_int) po_none)) (fun C s H fp pn => pg_name (i := 0) ndRo rfl (Or.inl rfl) (.inr rfl)) (fun C s H fp pn => pts_nil)
        (fun C s H fp pn => pe_call GL hr rfl mL kL bL .nil pass0 (pa_cons (pv 0) pa_nil))) pa_nil)))
      (pss_cons (ps_expr (pe_call GC hr rfl mC kC bC .nil pass0 (pa_cons (pe_ix ix_tup (pv 2) pe_int (fun _ _ => rfl)) pa_nil)))
      (pss_cons (ps_expr (pe_call GB hr rfl mB kB bB .nil pass0 (pa_cons (pe_ix ix_tup (pv 2) pe_int (fun _ _ => rfl)) (pa_cons (pe_ix ix_tup (pv 2) pe_int (fun _ _ => rfl)) (pa_cons (pe_ix ix_tup (pv 2) pe_int (fun _ _ => rfl)) pa_nil)))))
      (pss_one (ps_ret (pe_op op_catA (pv 2) (pe_tup (pa_cons (pv 3) pa_nil)))))))))))  , ?_⟩
    have sl : sizeLine = 16777216 := sizeLine_eq
    obtain ⟨ty, hty, e⟩ := ans_str (K := K) (H := H) (Tm.cat (theRows ps a b c ls) ++ z)
    refine ⟨_, rfl, _, _, _, _, rfl, .ty "str", .inl ⟨ty, hty, e⟩, _, rfl, iteF ?_⟩
    have tl := text_len hd ok ll
    refine ⟨_, rfl, theRows ps a b c ls, z, rfl, rows_free hd ok, hz, by rw [Str.length_append]; omega, fun lr H1 s1 e1 => ?_⟩
    refine ⟨_, rfl, true, .inl ⟨_, SqL.of e1, rfl⟩, iteF ?_⟩
    refine ⟨_, rfl, lr, _, _, _, rfl, rfl, SqL.of e1, atI_nat (j := 0) rfl, ps, a, b, c, rfl, hd.len, hd.bd, hd.ba, hd.bb, hd.bc, fun rh pw H2 s2 eh hw => ?_⟩
    refine ⟨_, rfl, _, rfl, lr, _, rfl, SqL.of (s2 _ _ e1), fun l3 h3 => ?_⟩
    have s3 : Same H2 (upd H2 l3 (.lst (cutV ((theRows ps a b c ls).map V.str) (some 1) none))) := same_upd h3
    have e3 : (upd H2 l3 (.lst (cutV ((theRows ps a b c ls).map V.str) (some 1) none))) l3 = some (.lst (ls.map fun l => V.str (rowS l.vs))) := by
      rw [upd_same]
      unfold theRows
      rw [List.map_cons, cut_tail, List.map_map]
      rfl
    generalize upd H2 l3 (.lst (cutV ((theRows ps a b c ls).map V.str) (some 1) none)) = H3 at s3 e3 ⊢
    have lm : (ls.map fun l => V.str (rowS l.vs)).length = ls.length := List.length_map ..
    refine ⟨l3, rfl, ⟨_, SqL.of e3⟩, fun acc hacc => ?_⟩
    refine ⟨fun i m ys H' => m = ls.length - i ∧ i ≤ ls.length ∧ Paired (LnV H') ys (ls.take i) ∧ Same H3 H' ∧ H' acc = some (.lst ys), ⟨_, rfl, Nat.zero_le _, .nil, same_upd hacc, upd_same⟩, ?_⟩
    rintro i m ys H' ⟨rfl, hi, hP, sm, hA⟩
    refine ⟨hA, ?_⟩
    have ly : ys.length = i := by
      have := hP.length
      rw [List.length_take] at this
      omega
    by_cases hlt : i < ls.length
    · refine .inr ⟨⟨_, _, SqL.of (sm _ _ e3), List.getElem?_eq_getElem (by omega)⟩, ?_⟩
      rintro y H'' ⟨rfl, hy⟩
      have ey := hy _ (SqL.of (sm _ _ e3))
      have ez : y = V.str (rowS ls[i].vs) := by
        rw [List.getElem?_map, List.getElem?_eq_getElem hlt] at ey
        exact (Option.some.inj ey).symm
      subst ez
      refine gName_in ?_
      refine tYes_in ?_
      refine iteT ?_
      refine ⟨_, rfl, ls[i], rfl, ok _ (List.getElem_mem hlt), fun r4 H4 s4 h4 => ?_⟩
      have hA4 := s4 _ _ hA
      have kt : ∀ b zs, H4 b = some (.tup zs) → (upd H4 acc (.lst (ys ++ [.ref r4]))) b = some (.tup zs) := fun b zs e => by
        rw [upd_ne (ne_of e hA4 (by intro z; cases z))]
        exact e
      refine ⟨hA4, by omega, _, ?_, rfl, hlt, ?_, fun b o z => ?_, upd_same⟩
      · omega
      · rw [List.take_add_one, List.getElem?_eq_getElem hlt]
        exact paired_snoc (paired_map (fun v l ⟨b, z1, z2⟩ => ⟨b, z1, (z2.same s4).tups kt⟩) hP) ⟨r4, rfl, h4.tups kt⟩
      · rw [upd_ne (ne_of_none z hacc)]
        exact s4 _ _ (sm _ _ z)
    refine .inl ⟨⟨_, SqL.of (sm _ _ e3), by omega⟩, ?_⟩
    have ei : ls.take i = ls := List.take_of_length_le (by omega)
    rw [ei] at hP
    refine ⟨acc, _, rfl, .inl ⟨SqL.of hA, fun pl hpl => ?_⟩⟩
    have s5 : Same H' (upd H' pl (.tup ys)) := same_upd hpl
    have e5 : (upd H' pl (.tup ys)) pl = some (.tup ys) := upd_same
    generalize upd H' pl (.tup ys) = H5 at s5 e5 ⊢
    have s25 : Same H2 H5 := s3.trans (sm.trans s5)
    have eh5 := s25 _ _ eh
    have hw5 := hw.same s25
    refine ⟨_, rfl, rh, _, _, _, rfl, rfl, SqT.of eh5, atI_nat (j := 0) rfl, pw, ps, rfl, ?_, hd.wk, by have := hd.len; omega, ?_⟩
    · obtain ⟨xs, x1, x2, _⟩ := hw5
      exact ⟨xs, x1, x2⟩
    refine ⟨_, rfl, rh, _, _, _, rfl, rfl, SqT.of eh5, atI_nat (j := 1) rfl, _, rfl, rh, _, _, _, rfl, rfl, SqT.of eh5, atI_nat (j := 2) rfl, _, rfl, rh, _, _, _, rfl, rfl, SqT.of eh5, atI_nat (j := 3) rfl, a, b, c, rfl, hd.a1, hd.b1, hd.le, fun H6 s6 => ?_⟩
    refine ⟨_, rfl, _, rfl, by show 1 ≤ sizeLine; decide, fun t7 h7 => ?_⟩
    have s7 : Same H6 (upd H6 t7 (.tup [.ref pl])) := same_upd h7
    refine ⟨rh, t7, _, _, rfl, rfl, s7 _ _ (s6 _ _ eh5), upd_same, by show 4 + 1 ≤ sizeLine; decide, fun r8 H8 s8 e8 => ?_⟩
    have s58 := s6.trans (s7.trans s8)
    exact q r8 H8 (s1.trans (s2.trans (s25.trans s58))) ⟨pw, pl, ys, e8, hw5.same s58, s58 _ _ e5, paired_map (fun _ _ z => z.same (s5.trans s58)) hP⟩
end
end Lt

set_option maxHeartbeats 4000000
namespace Lt
open PySem L2 PySem.W
/-- ints, texts and tuples of such, n deep -/
def Wt (H : Hp) : Nat → V → Prop
  | 0, x => (∃ i, x = .int i) ∨ ∃ y, x = .str y
  | n + 1, x => ((∃ i, x = .int i) ∨ ∃ y, x = .str y) ∨ ∃ a xs, x = .ref a ∧ H a = some (.tup xs) ∧ xs.length ≤ 1000 ∧ ∀ y ∈ xs, Wt H n y
theorem Wt.same {H H' : Hp} (e : Same H H') : ∀ {n : Nat} {x : V}, Wt H n x → Wt H' n x
  | 0, _, h => h
  | n + 1, _, h => h.elim .inl fun ⟨a, xs, h1, h2, h3, h4⟩ => .inr ⟨a, xs, h1, e _ _ h2, h3, fun y hy => Wt.same e (h4 y hy)⟩
theorem Wt.flat {H : Hp} {n : Nat} {x : V} (h : (∃ i, x = .int i) ∨ ∃ y, x = .str y) : Wt H n x := by
  cases n with
  | zero => exact h
  | succ n => exact .inl h
def spThrough (n : Nat) : Sp := fun vs H Q _ => ∃ x, vs = [x] ∧ Wt H n x ∧ ∀ H', Same H H' → Q (.bl true) H'
/-- one turn: its parts by sp -/
def spTurn (sp : Sp) : Sp := fun vs H Q E => ∃ x, vs = [x] ∧ (((∃ i, x = .int i) ∨ ∃ y, x = .str y) ∨ ∃ a xs, x = .ref a ∧ H a = some (.tup xs) ∧ xs.length ≤ 1000 ∧ ∀ y ∈ xs, ∀ H', Same H H' → ∀ Q' E', (∀ H'', Same H' H'' → Q' (.bl true) H'') → sp [y] H' Q' E') ∧ ∀ H', Same H H' → Q (.bl true) H'
def spNo : Sp := fun _ _ _ _ => False
theorem ndPa : (["_law_part"] : List Str).Nodup := by decide +kernel
theorem nil_shaped : SeqAt.shaped (.list []) = true := (Gd.lst (n := 0) gd_nil).shaped (by decide)
theorem nil_eqv : PyData.eqv (.list []) (.list []) = true := by simp [PyData.eqv, PyData.eqvAll]
section
variable {P : Program} {w : World} {K : PySem.W.Frag} {mg : Str → Option Value} {base : Heap}
theorem scThrough : FnScope ["_law_thing"] ["_law_thing"] (defScope sThrough) := ⟨rfl, rfl, rfl, by decide +kernel, rfl, by decide +kernel, by decide +kernel⟩
theorem ok_turn {f : Addr} {fd : FuncData} {k : Nat} {sp : Sp} (F : Fun K "_law_whole_through" "_law_whole_through" sThrough f fd) (G : Gb mg) (GR : FnOk P w K mg base CX0 k f fd ["_law_thing"] sp) (kR : keepIn K (.ref f) = true) (bR : Binds K fd ["_law_thing"] []) (mR : mg "_law_whole_through" = some (.ref f)) :
    FnOk P w K mg base CX0 (k + 1) f fd ["_law_thing"] (spTurn sp) := by
  refine F.ok scThrough (fun vs H Q E h => ?_) (fun cdv A outer s H vs Q E hr h => ?_)
  · obtain ⟨x, rfl, _⟩ := h
    rfl
  · obtain ⟨x, rfl, hx, q⟩ := h
    refine ⟨_, pss_cons (ps_if (pt_val (pe_callB call_isinst (by rfl) G.isi Ls.boot_isi (pa_cons (pv 0) (pa_cons (pe_bltn (v := .ty "tuple") (by rfl) G.tuple boot_t rfl) pa_nil))))
        (pss_one (ps_ret (pe_cmpR (op_eqD hr.units) (pe_comp (NB := ["_law_part"]) (g := gName 0) rfl (by decide +kernel) (by decide +kernel) (by decide +kernel) rfl (pi_tup (pv 0)) (fun C s H fp pn => pg_name (i := 0) ndPa rfl (Or.inl rfl) (.inr rfl))
          (fun C s H fp pn => pts_one (pt_not (pt_val (pe_call GR hr rfl mR kR bR .nil pass0 (pa_cons (pv 0) pa_nil))))) (fun C s H fp pn => pv 0)) (pe_lst pa_nil) (nomark _)))) pss_nil)
      (pss_one (ps_ret (pe_and (pe_callB call_isiIS (by rfl) G.isi Ls.boot_isi (pa_cons (pv 0) (pa_cons (pe_tup (pa_cons (pe_bltn (v := .ty "int") (by rfl) G.int boot_i rfl) (pa_cons (pe_bltn (v := .ty "str") (by rfl) G.str boot_s rfl) pa_nil))) pa_nil)))
        (pe_one (pe_not (pe_callB call_isinst (by rfl) G.isi Ls.boot_isi (pa_cons (pv 0) (pa_cons (pe_bltn (v := .ty "bool") (by rfl) G.bool Ls.boot_b rfl) pa_nil)))))))), ?_⟩
    have sl : sizeLine = 16777216 := sizeLine_eq
    rcases hx with hx | ⟨a, xs, rfl, hA, lx, hx⟩
    · have kn : Ls.Kn H x := by
        rcases hx with ⟨i, rfl⟩ | ⟨y, rfl⟩
        · exact .int i
        · exact .str y
      obtain ⟨t, ty, e⟩ := Ls.ans_tupN (K := K) kn
      refine ⟨_, rfl, _, _, _, _, rfl, .ty "tuple", .inl ⟨t, ty, e⟩, _, rfl, iteF ?_⟩
      refine ⟨_, rfl, by show 2 ≤ sizeLine; decide, fun tp htp => ?_⟩
      refine ⟨x, tp, true, rfl, upd_same, ?_, _, rfl, iteT ?_⟩
      · rcases hx with ⟨i, rfl⟩ | ⟨y, rfl⟩
        · exact .inl ⟨i, rfl, by kernel_rfl⟩
        · exact .inr ⟨y, rfl, by kernel_rfl⟩
      obtain ⟨t2, ty2, e2⟩ := Ls.ans_bool (K := K) (H := upd H tp (.tup [.ty "int", .ty "str"])) (x := x) (.kn (by
        rcases hx with ⟨i, rfl⟩ | ⟨y, rfl⟩
        · exact .int i
        · exact .str y))
      refine ⟨_, rfl, _, _, _, _, rfl, .ty "bool", .inl ⟨t2, ty2, e2⟩, _, rfl, ?_⟩
      have := q _ (same_upd (o := .tup [.ty "int", .ty "str"]) htp)
      rcases hx with ⟨i, rfl⟩ | ⟨y, rfl⟩
      · exact this
      · exact this
    · obtain ⟨t, ty, e⟩ := Ls.ans_tupT (K := K) hA
      refine ⟨_, rfl, _, _, _, _, rfl, .ty "tuple", .inl ⟨t, ty, e⟩, _, rfl, iteT ?_⟩
      refine ⟨_, rfl, a, rfl, ⟨_, SqT.of hA⟩, fun acc hacc => ?_⟩
      refine ⟨fun i m ys H' => m = xs.length - i ∧ i ≤ xs.length ∧ ys = [] ∧ Same H H' ∧ H' acc = some (.lst ys), ⟨_, rfl, Nat.zero_le _, rfl, same_upd hacc, upd_same⟩, ?_⟩
      rintro i m ys H' ⟨rfl, hi, rfl, sm, hA'⟩
      refine ⟨hA', ?_⟩
      by_cases hlt : i < xs.length
      · refine .inr ⟨⟨_, _, SqT.of (sm _ _ hA), List.getElem?_eq_getElem hlt⟩, ?_⟩
        rintro y H'' ⟨rfl, hy⟩
        have ey := hy _ (SqT.of (sm _ _ hA))
        refine gName_in ?_
        refine ⟨_, rfl, hx y (List.mem_of_getElem? ey) _ sm _ _ fun H3 s3 => ⟨_, rfl, iteF ⟨_, ?_, rfl, hlt, rfl, sm.trans s3, s3 _ _ hA'⟩⟩⟩
        omega
      · refine .inl ⟨⟨_, SqT.of (sm _ _ hA), by omega⟩, ?_⟩
        refine ⟨Nat.zero_le _, fun l2 h2 => ?_⟩
        have s2 : Same H' (upd H' l2 (.lst [])) := same_upd h2
        refine ⟨.list [], .list [], .lst (SqL.of (s2 _ _ hA')) .nil, .lst (SqL.of upd_same) .nil, nil_shaped, nil_shaped, ?_⟩
        rw [nil_eqv]
        exact q _ (sm.trans s2)
theorem ok_through {f : Addr} {fd : FuncData} (F : Fun K "_law_whole_through" "_law_whole_through" sThrough f fd) (G : Gb mg) (kR : keepIn K (.ref f) = true) (bR : Binds K fd ["_law_thing"] []) (mR : mg "_law_whole_through" = some (.ref f)) :
    ∀ n : Nat, FnOk P w K mg base CX0 (n + 1) f fd ["_law_thing"] (spThrough n)
  | 0 => (ok_turn (k := 0) (sp := spNo) F G ⟨fun _ _ _ _ h => h.elim, fun _ _ _ _ _ _ _ _ _ _ _ _ _ h => h.elim⟩ kR bR mR).imp fun vs H Q E ⟨x, h1, h2, h3⟩ => ⟨x, h1, .inl h2, h3⟩
  | n + 1 => (ok_turn F G (ok_through F G kR bR mR n) kR bR mR).imp fun vs H Q E ⟨x, h1, h2, h3⟩ => ⟨x, h1, h2.elim .inl fun ⟨a, xs, z1, z2, z3, z4⟩ => .inr ⟨a, xs, z1, z2, z3, fun y hy H' e Q' E' q => ⟨y, rfl, (z4 y hy).same e, q⟩⟩, h3⟩
end
end Lt

set_option maxHeartbeats 4000000
namespace Lt
open PySem L2 PySem.W
theorem text_eq (ps : List (Int × Int)) (a b c : Int) (ls : List Ln) : rowT (headV ps a b c) ++ Txt.join "" (ls.map fun l => rowT l.vs) = Tm.cat (theRows ps a b c ls) := by
  have e1 : Txt.join "" (ls.map fun l => rowT l.vs) = Str.join Str.empty (ls.map fun l => rowT l.vs) := StrLaws.glued_eq_join _ _
  have e2 : (ls.map fun l => rowT l.vs) = (ls.map fun l => rowS l.vs).map fun r => r ++ ⟨#[10]⟩ := by
    rw [List.map_map]
    exact List.map_congr_left fun l _ => rowT_eq l.vs
  rw [e1, e2, Tm.join_empty, rowT_eq]
  rfl
theorem cut_take {xs : List V} {k : Nat} (h : k ≤ xs.length) : cutV xs none (some (k : Int)) = xs.take k := by
  unfold cutV
  rw [HT.sIx_nat, HT.sIx_none, List.drop_zero, Nat.min_eq_left h, Nat.sub_zero]
theorem slice_last {y : Str} : Txt.slice (y ++ ⟨#[10]⟩) none (some (-1)) = y := by
  have hl : (y ++ ⟨#[10]⟩ : Str).length = y.length + 1 := by rw [Str.length_append]; rfl
  have s := StrLaws.sliceText_to_neg (x := y ++ ⟨#[10]⟩) (j := -1) (by decide) (by rw [hl]; omega)
  refine (show Txt.slice (y ++ ⟨#[10]⟩) none (some (-1)) = _ from s).trans (Tm.sg_ext ?_)
  show ((y ++ ⟨#[10]⟩ : Str).cps.toList.drop 0).take (-1 + ((y ++ ⟨#[10]⟩ : Str).length : Int) - 0).toNat = Tm.sg y
  rw [hl, List.drop_zero]
  have e : (y ++ ⟨#[10]⟩ : Str).cps.toList = Tm.sg y ++ [10] := Tm.sg_app y ⟨#[10]⟩
  have l := Tm.sg_len y
  rw [e, show (-1 + ((y.length + 1 : Nat) : Int) - 0).toNat = (Tm.sg y).length by omega]
  exact List.take_left ..
theorem slice_part {y : Str} {r : Int} (h0 : 0 ≤ r) (h1 : r < ((y ++ ⟨#[10]⟩ : Str).length : Int)) : (∀ c, c ∈ Tm.sg (Txt.slice (y ++ ⟨#[10]⟩) none (some r)) → c ∈ Tm.sg y) ∧ (Txt.slice (y ++ ⟨#[10]⟩) none (some r)).length ≤ y.length := by
  have hl : (y ++ ⟨#[10]⟩ : Str).length = y.length + 1 := by rw [Str.length_append]; rfl
  rw [hl] at h1
  have e : (y ++ ⟨#[10]⟩ : Str).cps.toList = Tm.sg y ++ [10] := Tm.sg_app y ⟨#[10]⟩
  have l := Tm.sg_len y
  have s := StrLaws.sliceText_to (x := y ++ ⟨#[10]⟩) (j := r) ⟨h0, by rw [e, List.length_append]; show r ≤ (((Tm.sg y).length + 1 : Nat) : Int); omega⟩
  have e2 : Tm.sg (Txt.slice (y ++ ⟨#[10]⟩) none (some r)) = (Tm.sg y).take r.toNat := by
    rw [show Txt.slice (y ++ ⟨#[10]⟩) none (some r) = _ from s]
    show ((y ++ ⟨#[10]⟩ : Str).cps.toList.drop 0).take (r - 0).toNat = _
    rw [e, List.drop_zero, show (r - 0).toNat = r.toNat by omega]
    exact List.take_append_of_le_length (by omega)
  refine ⟨fun c hc => ?_, ?_⟩
  · rw [e2] at hc
    exact List.mem_of_mem_take hc
  · rw [← Tm.sg_len, e2, List.length_take]
    omega
/-! ### what is compared -/
def pairD (p : Int × Int) : PyData := .tuple [.int p.1, .int p.2]
def workD (ps : List (Int × Int)) : PyData := .tuple (ps.map pairD)
def lnD : Ln → PyData
  | .lent a x b c => .tuple [.str "lent", .int a, .str x, .int b, .int c]
  | .told a b c ns => .tuple [.str "told", .int a, .int b, .int c, .tuple (ns.map PyData.int)]
  | .back a b => .tuple [.str "back", .int a, .int b]
  | .cut a b => .tuple [.str "cut", .int a, .int b]
  | .join a => .tuple [.str "join", .int a]
def readD (ps : List (Int × Int)) (a b c : Int) (ls : List Ln) : PyData := .tuple [workD ps, .int a, .int b, .int c, .tuple (ls.map lnD)]
theorem rdv_pairs {K : Frag} {H : Hp} : ∀ {xs : List V} {ps : List (Int × Int)}, Paired (PairAt H) xs ps → RdVs K H xs (ps.map pairD)
  | _, _, .nil => .nil
  | _, _, .cons ⟨b, e, q⟩ t => by
    subst e
    exact .cons (.tup (SqT.of q) (.cons (.int _) (.cons (.int _) .nil))) (rdv_pairs t)
theorem rdv_ints {K : Frag} {H : Hp} : ∀ ns : List Int, RdVs K H (ns.map V.int) (ns.map PyData.int)
  | [] => .nil
  | n :: ns => .cons (.int n) (rdv_ints ns)
theorem rdv_ln {K : Frag} {H : Hp} {p : Addr} {l : Ln} (h : LnAt H p l) : RdV K H (.ref p) (lnD l) := by
  cases l with
  | lent a x b c => exact .tup (SqT.of h) (.cons (.str _) (.cons (.int _) (.cons (.str _) (.cons (.int _) (.cons (.int _) .nil)))))
  | told a b c ns =>
    obtain ⟨t, h1, h2⟩ := h
    exact .tup (SqT.of h1) (.cons (.str _) (.cons (.int _) (.cons (.int _) (.cons (.int _) (.cons (.tup (SqT.of h2) (rdv_ints ns)) .nil)))))
  | back a b => exact .tup (SqT.of h) (.cons (.str _) (.cons (.int _) (.cons (.int _) .nil)))
  | cut a b => exact .tup (SqT.of h) (.cons (.str _) (.cons (.int _) (.cons (.int _) .nil)))
  | join a => exact .tup (SqT.of h) (.cons (.str _) (.cons (.int _) .nil))
theorem rdv_lns {K : Frag} {H : Hp} : ∀ {xs : List V} {ls : List Ln}, Paired (LnV H) xs ls → RdVs K H xs (ls.map lnD)
  | _, _, .nil => .nil
  | _, _, .cons ⟨b, e, q⟩ t => by
    subst e
    exact .cons (rdv_ln q) (rdv_lns t)
theorem read_rdv {K : Frag} {H : Hp} {r : Addr} {ps : List (Int × Int)} {a b c : Int} {ls : List Ln} (h : Read H r ps a b c ls) : RdV K H (.ref r) (readD ps a b c ls) := by
  obtain ⟨pw, pl, xs, h1, ⟨ys, y1, y2, _⟩, h3, h4⟩ := h
  exact .tup (SqT.of h1) (.cons (.tup (SqT.of y1) (rdv_pairs y2)) (.cons (.int _) (.cons (.int _) (.cons (.int _) (.cons (.tup (SqT.of h3) (rdv_lns h4)) .nil)))))
theorem eqvAll_map {α : Type} (f : α → PyData) (h : ∀ x, PyData.eqv (f x) (f x) = true) : ∀ xs : List α, PyData.eqvAll (xs.map f) (xs.map f) = true
  | [] => by simp [PyData.eqvAll]
  | x :: xs => by
    rw [List.map_cons, PyData.eqvAll, h x, eqvAll_map f h xs]
    rfl
theorem eqv_int (i : Int) : PyData.eqv (.int i) (.int i) = true := by simp [PyData.eqv]
theorem eqv_lnD (l : Ln) : PyData.eqv (lnD l) (lnD l) = true := by
  cases l with
  | told a b c ns =>
    have := eqvAll_map PyData.int eqv_int ns
    simp [lnD, PyData.eqv, PyData.eqvAll, this]
  | lent a x b c => simp [lnD, PyData.eqv, PyData.eqvAll]
  | back a b => simp [lnD, PyData.eqv, PyData.eqvAll]
  | cut a b => simp [lnD, PyData.eqv, PyData.eqvAll]
  | join a => simp [lnD, PyData.eqv, PyData.eqvAll]
theorem read_eqv (ps : List (Int × Int)) (a b c : Int) (ls : List Ln) : PyData.eqv (readD ps a b c ls) (readD ps a b c ls) = true := by
  have h1 := eqvAll_map pairD (fun p => by simp [pairD, PyData.eqv, PyData.eqvAll]) ps
  have h2 := eqvAll_map lnD eqv_lnD ls
  simp [readD, workD, PyData.eqv, PyData.eqvAll, h1, h2]
theorem wd_ok {x : Str} (h : Tm.wdB x = true) : PyData.strOk x = true := by
  unfold PyData.strOk
  rw [← Array.all_toList, List.all_eq_true]
  intro c hc
  have := (Tm.wd_iff.mp h).all c hc
  exact decide_eq_true (by omega)
theorem gd_lnD {l : Ln} (ok : l.Ok) : Gd 2 (lnD l) := by
  cases l with
  | lent a x b c => exact Gd.tup (gd_cons (Gd.str (by decide +kernel)) (gd_cons (Gd.int _) (gd_cons (Gd.str (wd_ok ok.2.1)) (gd_cons (Gd.int _) (gd_cons (Gd.int _) gd_nil)))))
  | told a b c ns =>
    refine Gd.tup (gd_cons (Gd.str (by decide +kernel)) (gd_cons (Gd.int _) (gd_cons (Gd.int _) (gd_cons (Gd.int _) (gd_cons (Gd.tup fun d hd => ?_) gd_nil)))))
    obtain ⟨n, _, rfl⟩ := List.mem_map.mp hd
    exact Gd.int n
  | back a b => exact Gd.tup (gd_cons (Gd.str (by decide +kernel)) (gd_cons (Gd.int _) (gd_cons (Gd.int _) gd_nil)))
  | cut a b => exact Gd.tup (gd_cons (Gd.str (by decide +kernel)) (gd_cons (Gd.int _) (gd_cons (Gd.int _) gd_nil)))
  | join a => exact Gd.tup (gd_cons (Gd.str (by decide +kernel)) (gd_cons (Gd.int _) gd_nil))
theorem read_shaped {ps : List (Int × Int)} {a b c : Int} {ls : List Ln} (ok : ∀ l ∈ ls, l.Ok) : SeqAt.shaped (readD ps a b c ls) = true := by
  refine (Gd.tup (n := 3) (gd_cons ((Gd.tup (n := 1) fun d hd => ?_).mono (by decide)) (gd_cons (Gd.int _) (gd_cons (Gd.int _) (gd_cons (Gd.int _) (gd_cons (Gd.tup (n := 2) fun d hd => ?_) gd_nil)))))).shaped (by decide)
  · obtain ⟨p, _, rfl⟩ := List.mem_map.mp hd
    exact Gd.tup (gd_cons (Gd.int _) (gd_cons (Gd.int _) gd_nil))
  · obtain ⟨l, hl, rfl⟩ := List.mem_map.mp hd
    exact gd_lnD (ok l hl)
/-! ### whole through -/
theorem wt_ints {H : Hp} {n : Nat} (ns : List Int) : ∀ y ∈ ns.map V.int, Wt H n y := fun y hy => by
  obtain ⟨i, _, rfl⟩ := List.mem_map.mp hy
  exact Wt.flat (.inl ⟨i, rfl⟩)
theorem wt_cons {H : Hp} {n : Nat} {x : V} {xs : List V} (h : Wt H n x) (hs : ∀ y ∈ xs, Wt H n y) : ∀ y ∈ x :: xs, Wt H n y := fun y hy => by
  rcases List.mem_cons.mp hy with rfl | hy
  · exact h
  · exact hs y hy
theorem wt_nil {H : Hp} {n : Nat} : ∀ y ∈ ([] : List V), Wt H n y := fun y hy => absurd hy (by simp)
theorem wt_i {H : Hp} {n : Nat} (i : Int) : Wt H n (.int i) := Wt.flat (.inl ⟨i, rfl⟩)
theorem wt_s {H : Hp} {n : Nat} (x : Str) : Wt H n (.str x) := Wt.flat (.inr ⟨x, rfl⟩)
theorem wt_ln {H : Hp} {p : Addr} {l : Ln} (h : LnAt H p l) (ok : l.Ok) : Wt H 2 (.ref p) := by
  cases l with
  | lent a x b c => exact .inr ⟨p, _, rfl, h, by show 5 ≤ 1000; decide, wt_cons (wt_s _) (wt_cons (wt_i _) (wt_cons (wt_s _) (wt_cons (wt_i _) (wt_cons (wt_i _) wt_nil))))⟩
  | told a b c ns =>
    obtain ⟨t, h1, h2⟩ := h
    exact .inr ⟨p, _, rfl, h1, by show 5 ≤ 1000; decide, wt_cons (wt_s _) (wt_cons (wt_i _) (wt_cons (wt_i _) (wt_cons (wt_i _) (wt_cons (.inr ⟨t, _, rfl, h2, by rw [List.length_map]; have := ok.2.2.2.1; omega, wt_ints ns⟩) wt_nil))))⟩
  | back a b => exact .inr ⟨p, _, rfl, h, by show 3 ≤ 1000; decide, wt_cons (wt_s _) (wt_cons (wt_i _) (wt_cons (wt_i _) wt_nil))⟩
  | cut a b => exact .inr ⟨p, _, rfl, h, by show 3 ≤ 1000; decide, wt_cons (wt_s _) (wt_cons (wt_i _) (wt_cons (wt_i _) wt_nil))⟩
  | join a => exact .inr ⟨p, _, rfl, h, by show 2 ≤ 1000; decide, wt_cons (wt_s _) (wt_cons (wt_i _) wt_nil)⟩
theorem wt_lns {H : Hp} : ∀ {xs : List V} {ls : List Ln}, Paired (LnV H) xs ls → (∀ l ∈ ls, l.Ok) → ∀ y ∈ xs, Wt H 2 y
  | _, _, .nil, _ => wt_nil
  | _, _, .cons ⟨b, e, q⟩ t, ok => by
    subst e
    exact wt_cons (wt_ln q (ok _ List.mem_cons_self)) (wt_lns t fun l hl => ok l (List.mem_cons_of_mem _ hl))
theorem wt_pairs {H : Hp} {n : Nat} : ∀ {xs : List V} {ps : List (Int × Int)}, Paired (PairAt H) xs ps → ∀ y ∈ xs, Wt H (n + 1) y
  | _, _, .nil => wt_nil
  | _, _, .cons ⟨b, e, q⟩ t => by
    subst e
    exact wt_cons (.inr ⟨b, _, rfl, q, by show 2 ≤ 1000; decide, wt_cons (wt_i _) (wt_cons (wt_i _) wt_nil)⟩) (wt_pairs t)
theorem read_wt {H : Hp} {r : Addr} {ps : List (Int × Int)} {a b c : Int} {ls : List Ln} (h : Read H r ps a b c ls) (ok : ∀ l ∈ ls, l.Ok) (ll : ls.length ≤ 63) : Wt H 4 (.ref r) := by
  obtain ⟨pw, pl, xs, h1, ⟨ys, y1, y2, y3, _⟩, h3, h4⟩ := h
  have l1 := y2.length
  have l2 := h4.length
  exact .inr ⟨r, _, rfl, h1, by show 5 ≤ 1000; decide, wt_cons (.inr ⟨pw, ys, rfl, y1, by omega, wt_pairs y2⟩) (wt_cons (wt_i _) (wt_cons (wt_i _) (wt_cons (wt_i _) (wt_cons (.inr ⟨pl, xs, rfl, h3, by omega, wt_lns h4 ok⟩) wt_nil))))⟩
/-! ### what stands while the texts are read -/
structure Stt (w' pw pl ll lr : Addr) (ps : List (Int × Int)) (a b c : Int) (ls : List Ln) (G : Hp) : Prop where
  wl : Wl G w'
  wk : WorkT G pw ps
  lm : G pl = some (.tup [.int a, .int b, .int c])
  li : ∃ vs, G ll = some (.lst vs) ∧ Paired (LnV G) vs ls
  ro : G lr = some (.lst (ls.map fun l => V.str (rowT l.vs)))
section
variable {w' pw pl ll lr : Addr} {ps : List (Int × Int)} {a b c : Int} {ls : List Ln} {G G' : Hp}
theorem Stt.same (h : Stt w' pw pl ll lr ps a b c ls G) (e : Same G G') : Stt w' pw pl ll lr ps a b c ls G' := by
  obtain ⟨vs, h1, h2⟩ := h.li
  exact ⟨h.wl.same e, h.wk.same e, e _ _ h.lm, ⟨vs, e _ _ h1, paired_map (fun _ _ z => z.same e) h2⟩, e _ _ h.ro⟩
theorem WorkT.kp {p : Addr} (k : Kp w' G G') (hw : Wl G w') (h : WorkT G p ps) : WorkT G' p ps := by
  obtain ⟨xs, h1, h2, h3⟩ := h
  exact ⟨xs, k.tup hw h1, pairs_kept k hw h2, h3⟩
theorem Stt.kp (h : Stt w' pw pl ll lr ps a b c ls G) (n1 : ll ≠ w') (n2 : lr ≠ w') (k : Kp w' G G') : Stt w' pw pl ll lr ps a b c ls G' := by
  obtain ⟨vs, h1, h2⟩ := h.li
  exact ⟨k.wl, h.wk.kp k h.wl, k.tup h.wl h.lm, ⟨vs, k.at_ _ _ n1 h1, paired_map (fun _ _ ⟨b, z1, z2⟩ => ⟨b, z1, z2.tups fun _ _ e => k.tup h.wl e⟩) h2⟩, k.at_ _ _ n2 h.ro⟩
end
theorem kp_of {w' : Addr} {G G1 G2 : Hp} (s : Same G G1) (k : Kp w' G1 G2) : Kp w' G G2 := ⟨fun x o n e => k.at_ x o n (s _ _ e), k.wl⟩
theorem take_paired {α β : Type} {F : α → β → Prop} : ∀ {xs : List α} {ys : List β} (k : Nat), Paired F xs ys → Paired F (xs.take k) (ys.take k)
  | _, _, 0, _ => .nil
  | _, _, k + 1, .nil => .nil
  | _, _, k + 1, .cons r t => .cons r (take_paired k t)
end Lt

set_option maxHeartbeats 8000000
namespace Lt
open PySem L2 PySem.W
theorem ndLi : (["_law_line"] : List Str).Nodup := by decide +kernel
section
variable {P : Program} {w : World} {K : PySem.W.Frag} {mg : Str → Option Value} {base : Heap}
theorem scLaw : FnScope ["_law_script", "_law_well_here", "_law_work", "_law_limits", "_law_lines", "_law_rows", "_law_k", "_law_text", "_law_row_here", "_law_rest", "_law_found", "_law_again"] ["_law_script"] (defScope sLaw) := ⟨rfl, rfl, rfl, by decide +kernel, rfl, by decide +kernel, by decide +kernel⟩
def forBody : Stmt → List Stmt
  | .For _ _ b _ _ => b
  | _ => []
abbrev lawRest : List Stmt := forBody ((defBody sLaw).getD 5 (.Pass ⟨0, 0, 0, 0⟩))
theorem ok_rest {f : Addr} (G : Gb mg)
    {fWl : Addr} {fdWl : FuncData} (GWl : FnOk P w K mg base CX0 6 fWl fdWl ["_law_script", "_law_k"] (spWell K)) (kWl : keepIn K (.ref fWl) = true) (bWl : Binds K fdWl ["_law_script", "_law_k"] []) (mWl : mg "_law_well" = some (.ref fWl))
    {fD : Addr} {fdD : FuncData} (GD : FnOk P w K mg base CX0 6 fD fdD ["_law_well_here", "_law_most"] spDraw) (kD : keepIn K (.ref fD) = true) (bD : Binds K fdD ["_law_well_here", "_law_most"] []) (mD : mg "_law_draw" = some (.ref fD))
    {fM : Addr} {fdM : FuncData} (GM : FnOk P w K mg base CX0 6 fM fdM ["_law_well_here"] spMake) (kM : keepIn K (.ref fM) = true) (bM : Binds K fdM ["_law_well_here"] []) (mM : mg "_law_free_work" = some (.ref fM))
    {fL : Addr} {fdL : FuncData} (GL : FnOk P w K mg base CX0 6 fL fdL ["_law_well_here"] spLims) (kL : keepIn K (.ref fL) = true) (bL : Binds K fdL ["_law_well_here"] []) (mL : mg "_law_free_limits" = some (.ref fL))
    {fF : Addr} {fdF : FuncData} (GF : FnOk P w K mg base CX0 6 fF fdF ["_law_well_here"] spFree) (kF : keepIn K (.ref fF) = true) (bF : Binds K fdF ["_law_well_here"] []) (mF : mg "_law_free_line" = some (.ref fF))
    {fH : Addr} {fdH : FuncData} (GH : FnOk P w K mg base CX0 6 fH fdH ["work", "span", "every", "least"] spHead) (kH : keepIn K (.ref fH) = true) (bH : Binds K fdH ["work", "span", "every", "least"] []) (mH : mg "head_text" = some (.ref fH))
    {fH2 : Addr} {fdH2 : FuncData} (GH2 : FnOk P w K mg base CX0 6 fH2 fdH2 ["_law_work", "_law_limits"] spHead2) (kH2 : keepIn K (.ref fH2) = true) (bH2 : Binds K fdH2 ["_law_work", "_law_limits"] []) (mH2 : mg "_law_head" = some (.ref fH2))
    {fN : Addr} {fdN : FuncData} (GN : FnOk P w K mg base CX0 6 fN fdN ["line"] spLine) (kN : keepIn K (.ref fN) = true) (bN : Binds K fdN ["line"] []) (mN : mg "line_text" = some (.ref fN))
    {fN2 : Addr} {fdN2 : FuncData} (GN2 : FnOk P w K mg base CX0 6 fN2 fdN2 ["_law_line"] spLine) (kN2 : keepIn K (.ref fN2) = true) (bN2 : Binds K fdN2 ["_law_line"] []) (mN2 : mg "_law_line_text" = some (.ref fN2))
    {fT : Addr} {fdT : FuncData} (GT : FnOk P w K mg base CX0 6 fT fdT ["text"] spText) (kT : keepIn K (.ref fT) = true) (bT : Binds K fdT ["text"] []) (mT : mg "read_text" = some (.ref fT))
    {fW : Addr} {fdW : FuncData} (GW : FnOk P w K mg base CX0 6 fW fdW ["_law_thing"] (spThrough 4)) (kW : keepIn K (.ref fW) = true) (bW : Binds K fdW ["_law_thing"] []) (mW : mg "_law_whole_through" = some (.ref fW))
    {cdv : Value} {A : Around} {outer : List Env} {s : Shared} {H : Hp} {E : XK} (hr : Room 6 (A.deeper (PyProof.Rows.envOfC "law" (defScope sLaw) s.heap.objs.size f cdv))) :
    ∃ t, PSs (cxOf CX0 P w K mg base ["_law_script", "_law_well_here", "_law_work", "_law_limits", "_law_lines", "_law_rows", "_law_k", "_law_text", "_law_row_here", "_law_rest", "_law_found", "_law_again"] "law" (defScope sLaw) f cdv A outer s H E).nox lawRest t ∧ ∀ (D : Ends) (a w' pw pl ll lr : Addr) (o7 o8 o9 o10 o11 : Option V) (ps : List (Int × Int)) (x y z : Int) (ls : List Ln) (k : Nat) (G0 : Hp), Stt w' pw pl ll lr ps x y z ls G0 → Hd ps x y z → (∀ l ∈ ls, l.Ok) → ls.length ≤ 63 → k ≤ ls.length → ll ≠ w' → lr ≠ w' →
      (∀ (o7 o8 o9 o10 o11 : Option V) (G' : Hp), Kp w' G0 G' → D.nx [some (.ref a), some (.ref w'), some (.ref pw), some (.ref pl), some (.ref ll), some (.ref lr), some (.int k), o7, o8, o9, o10, o11] G') → t D [some (.ref a), some (.ref w'), some (.ref pw), some (.ref pl), some (.ref ll), some (.ref lr), some (.int k), o7, o8, o9, o10, o11] G0 := by
    refine ⟨_, (pss_cons (ps_set (i := 7) scLaw.nd rfl (Or.inl rfl) (pe_op op_add_str (pe_call GH2 hr rfl mH2 kH2 bH2 .nil pass0 (pa_cons (pv 2) (pa_cons (pv 3) pa_nil))) (pe_bm PySem.F.plainAttrs_str PySem.F.slot_str_join PySem.F.type_str_join mt_join pe_str (pa_cons (pe_slice sl_list (pv 5) po_none (po_some (pv 6))) pa_nil)))) (pss_cons (ps_set (i := 8) scLaw.nd rfl (Or.inl rfl) (pe_ix ix_list (pe_op op_cat (pv 5) (pe_lst (pa_cons pe_str pa_nil))) (pv 6) (fun _ _ => rfl))) (pss_cons (ps_for PassesOwn.never rfl (pi_list (pe_lst (pa_cons pe_str (pa_cons (pe_slice sl_str (pv 8) po_none (po_some (pe_un un_neg pe_int))) (pa_cons (pe_slice sl_str (pv 8) po_none (po_some (pe_call GD hr rfl mD kD bD .nil pass0 (pa_cons (pv 1) (pa_cons (pe_callB call_len_str (by rfl) G.len PySem.boot_len (pa_cons (pv 8) pa_nil)) pa_nil))))) (pa_cons pe_str (pa_cons pe_str (pa_cons pe_str (pa_cons pe_str pa_nil))))))))) (pg_name (i := 9) scLaw.nd rfl (Or.inl rfl)) (pss_cons (ps_set (i := 10) scLaw.nd rfl (Or.inl rfl) (pe_call GT hr rfl mT kT bT .nil pass0 (pa_cons (pe_op op_add_str (pv 7) (pv 9)) pa_nil))) (pss_one (ps_if (PW.pt (pw_or (pt_cmpR (op_neD hr.units) (pv 10) (pe_op op_catA (pe_op op_catA (pe_tup (pa_cons (pv 2) pa_nil)) (pv 3)) (pe_tup (pa_cons (pe_callTy call_tuple_of (by rfl) G.tuple boot_t (pa_cons (pe_slice sl_list (pv 4) po_none (po_some (pv 6))) pa_nil)) pa_nil))) (nomark _)) (pw_or1 (pt_not (pt_val (pe_call GW hr rfl mW kW bW .nil pass0 (pa_cons (pv 10) pa_nil))))))) (pss_one (ps_ret pe_bl)) pss_nil)))) (pss_cons (ps_if (pt_cmpR (op_neD hr.units) (pe_call GT hr rfl mT kT bT .nil pass0 (pa_cons (pv 7) pa_nil)) (pv 10) (nomark _)) (pss_one (ps_ret pe_bl)) pss_nil) (pss_cons (ps_set (i := 11) scLaw.nd rfl (Or.inl rfl) (pe_call GH hr rfl mH kH bH .nil pass0 (pa_cons (pe_ix ix_tup (pv 10) pe_int (fun _ _ => rfl)) (pa_cons (pe_ix ix_tup (pv 10) pe_int (fun _ _ => rfl)) (pa_cons (pe_ix ix_tup (pv 10) pe_int (fun _ _ => rfl)) (pa_cons (pe_ix ix_tup (pv 10) pe_int (fun _ _ => rfl)) pa_nil)))))) (pss_one (ps_if (pt_cmpR op_ne (pe_op op_add_str (pv 11) (pe_bm PySem.F.plainAttrs_str PySem.F.slot_str_join PySem.F.type_str_join mt_join pe_str (pa_cons (pe_comp (NB := ["_law_line"]) (g := gName 0) rfl (by decide +kernel) (by decide +kernel) (by decide +kernel) rfl (pi_tup (pe_ix ix_tup (pv 10) pe_int (fun _ _ => rfl))) (fun C s H fp pn => pg_name (i := 0) ndLi rfl (Or.inl rfl) (.inr rfl)) (fun C s H fp pn => pts_nil) (fun C s H fp pn => (pe_call GN hr rfl mN kN bN .nil pass0 (pa_cons (pv 0) pa_nil)))) pa_nil))) (pv 7) (nomark _)) (pss_one (ps_ret pe_bl)) pss_nil))))))), ?_⟩
    intro D a w' pw pl ll lr o7 o8 o9 o10 o11 ps x y z ls k G0 st hd ok lls hk nll nlr fin
    have sl : sizeLine = 16777216 := sizeLine_eq
    have okT : ∀ l ∈ ls.take k, l.Ok := fun l hl => ok l (List.mem_of_mem_take hl)
    have llT : (ls.take k).length ≤ 63 := by rw [List.length_take]; omega
    have tl := text_len hd okT llT
    have hT := text_eq ps x y z (ls.take k)
    have hrow : ∀ l ∈ ls, (rowT l.vs).length ≤ 1400 := fun l hl => by
      have h1 := rowS_len (Ln.parts (ok l hl))
      have h2 := vs_len (ok l hl)
      rw [rowT_eq, Str.length_append]
      show (rowS l.vs).length + 1 ≤ 1400
      omega
    have hsum : ((ls.take k).map fun l => rowT l.vs).length * 1400 ≤ 63 * 1400 := Nat.mul_le_mul (by rw [List.length_map]; exact llT) (Nat.le_refl _)
    have hsum2 : (((ls.take k).map fun l => rowT l.vs).map fun y => y.length).sum ≤ ((ls.take k).map fun l => rowT l.vs).length * 1400 := by
      refine sum_le (fun y : Str => y.length) 1400 _ fun y hy => ?_
      obtain ⟨l, hl, rfl⟩ := List.mem_map.mp hy
      exact hrow l (List.mem_of_mem_take hl)
    have l0 : (Str.ofString "").length = 0 := by decide +kernel
    have lh : (rowT (headV ps x y z)).length ≤ 1500 := by
      have h1 := rows_len hd okT (rowS (headV ps x y z)) List.mem_cons_self
      rw [rowT_eq, Str.length_append]
      show (rowS (headV ps x y z)).length + 1 ≤ 1500
      omega
    have lj : (Txt.join "" ((ls.take k).map fun l => rowT l.vs)).length ≤ 100000 := by
      have := join_len "" ((ls.take k).map fun l => rowT l.vs)
      rw [l0] at this
      omega
    -- the text
    refine ⟨_, rfl, _, rfl, pw, pl, ps, x, y, z, rfl, st.wk, st.lm, hd.ba, hd.bb, hd.bc, fun G1 s1 => ?_⟩
    have st1 := st.same s1
    refine ⟨rfl, _, rfl, _, rfl, _, rfl, lr, _, rfl, SqL.of st1.ro, fun l2 h2 => ?_⟩
    rw [cut_take (by rw [List.length_map]; exact hk), ← List.map_take]
    have s2 := same_upd (o := .lst ((ls.take k).map fun l => V.str (rowT l.vs))) h2
    have e2 : (upd G1 l2 (.lst ((ls.take k).map fun l => V.str (rowT l.vs)))) l2 = some (.lst (((ls.take k).map fun l => rowT l.vs).map V.str)) := by
      rw [upd_same, List.map_map]
      rfl
    generalize upd G1 l2 (.lst ((ls.take k).map fun l => V.str (rowT l.vs))) = G2 at s2 e2 ⊢
    refine ⟨"", l2, _, rfl, rfl, SqL.of e2, by rw [l0]; omega, _, _, rfl, rfl, by omega, ?_⟩
    rw [hT]
    have st2 := st1.same s2
    -- the row
    refine ⟨_, rfl, by show 1 ≤ sizeLine; decide, fun l3 h3 => ?_⟩
    have s3 := same_upd (o := .lst [.str "join 0\n"]) h3
    have e3 : (upd G2 l3 (.lst [.str "join 0\n"])) l3 = some (.lst [.str "join 0\n"]) := upd_same
    generalize upd G2 l3 (.lst [.str "join 0\n"]) = G3 at s3 e3 ⊢
    have st3 := st2.same s3
    refine ⟨lr, l3, _, _, rfl, rfl, st3.ro, e3, by rw [List.length_map]; show ls.length + 1 ≤ sizeLine; omega, fun l4 h4 => ?_⟩
    have s4 := same_upd (o := .lst ((ls.map fun l => V.str (rowT l.vs)) ++ [.str "join 0\n"])) h4
    obtain ⟨rw', hrw, hfree, hlen⟩ : ∃ u : Str, ((ls.map fun l => V.str (rowT l.vs)) ++ [V.str "join 0\n"])[k]? = some (.str (u ++ ⟨#[10]⟩)) ∧ 10 ∉ Tm.sg u ∧ u.length ≤ 1400 := by
      by_cases hlt : k < ls.length
      · refine ⟨rowS ls[k].vs, ?_, row_free (Ln.parts (ok _ (List.getElem_mem hlt))), ?_⟩
        · rw [List.getElem?_append_left (by rw [List.length_map]; exact hlt), List.getElem?_map, List.getElem?_eq_getElem hlt]
          show some (V.str (rowT ls[k].vs)) = _
          rw [rowT_eq]
        · have h1 := rowS_len (Ln.parts (ok _ (List.getElem_mem hlt)))
          have h2 := vs_len (ok _ (List.getElem_mem hlt))
          omega
      · refine ⟨"join 0", ?_, by decide +kernel, by decide +kernel⟩
        rw [List.getElem?_append_right (by rw [List.length_map]; omega), List.length_map, show k - ls.length = 0 by omega]
        show some (V.str "join 0\n") = some (V.str (Str.ofString "join 0" ++ ⟨#[10]⟩))
        rw [show Str.ofString "join 0\n" = Str.ofString "join 0" ++ ⟨#[10]⟩ from by decide +kernel]
    refine ⟨_, rfl, l4, _, _, _, rfl, rfl, SqL.of upd_same, atI_nat (j := k) hrw, ?_⟩
    generalize upd G3 l4 (.lst ((ls.map fun l => V.str (rowT l.vs)) ++ [.str "join 0\n"])) = G4 at s4 ⊢
    have st4 := st3.same s4
    have hrl : (rw' ++ ⟨#[10]⟩ : Str).length = rw'.length + 1 := by rw [Str.length_append]; rfl
    -- what stands behind
    refine ⟨_, rfl, 1, rfl, _, rfl, _, rfl, by omega, ?_⟩
    rw [slice_last]
    refine ⟨_, rfl, _, rfl, _, rfl, _, rfl, by omega, w', _, rfl, st4.wl, by rw [hrl]; omega, by rw [hrl]; omega, fun r G5 k5 a5 b5 => ?_⟩
    have st5 := st4.kp nll nlr k5
    obtain ⟨p1, p2⟩ := slice_part a5 b5
    refine ⟨_, rfl, _, rfl, by omega, by show 7 ≤ sizeLine; decide, fun l6 h6 => ?_⟩
    have kp5 : Kp w' G0 G5 := kp_of (s1.trans (s2.trans (s3.trans s4))) k5
    generalize hzs : Txt.slice (rw' ++ ⟨#[10]⟩) none (some r) = z2 at p1 p2 ⊢
    have s6 := same_upd (o := .lst [.str "", .str rw', .str z2, .str " ", .str "work", .str "  told 05 x", .str "-"]) h6
    have e6 : (upd G5 l6 (.lst [.str "", .str rw', .str z2, .str " ", .str "work", .str "  told 05 x", .str "-"])) l6 = some (.lst [.str "", .str rw', .str z2, .str " ", .str "work", .str "  told 05 x", .str "-"]) := upd_same
    refine ⟨l6, rfl, ⟨_, SqL.of e6⟩, for_list (K := K) (a := l6) (xs := [.str "", .str rw', .str z2, .str " ", .str "work", .str "  told 05 x", .str "-"]) (fun i σ G => Same G5 G ∧ G l6 = some (.lst [.str "", .str rw', .str z2, .str " ", .str "work", .str "  told 05 x", .str "-"]) ∧ ∃ o9 o10, σ = [some (.ref a), some (.ref w'), some (.ref pw), some (.ref pl), some (.ref ll), some (.ref lr), some (.int k), some (.str (Tm.cat (theRows ps x y z (ls.take k)))), some (.str (rw' ++ ⟨#[10]⟩)), o9, o10, o11] ∧ (i = 0 ∨ ∃ rf, o10 = some (.ref rf) ∧ Read G rf ps x y z (ls.take k)))
      ⟨s6, e6, _, _, rfl, .inl rfl⟩ (fun i σ G _ ⟨_, e, _⟩ => SqL.of e) ?_ ?_⟩
    · rintro i v σ G hi ⟨s7, e7, o9, o10, rfl, _⟩
      obtain ⟨zz, rfl, hz10, hzl⟩ : ∃ zz : Str, v = V.str zz ∧ 10 ∉ Tm.sg zz ∧ zz.length ≤ 5000 := by
        have hm := List.mem_of_getElem? hi
        simp only [List.mem_cons, List.not_mem_nil, or_false] at hm
        rcases hm with rfl | rfl | rfl | rfl | rfl | rfl | rfl
        · exact ⟨_, rfl, by decide +kernel, by decide +kernel⟩
        · exact ⟨_, rfl, hfree, by omega⟩
        · exact ⟨_, rfl, fun h => hfree (p1 _ h), by omega⟩
        · exact ⟨_, rfl, by decide +kernel, by decide +kernel⟩
        · exact ⟨_, rfl, by decide +kernel, by decide +kernel⟩
        · exact ⟨_, rfl, by decide +kernel, by decide +kernel⟩
        · exact ⟨_, rfl, by decide +kernel, by decide +kernel⟩
      have stG := st5.same s7
      refine ⟨_, rfl, _, rfl, _, _, rfl, rfl, by omega, ps, x, y, z, ls.take k, zz, rfl, hd, hz10, hzl, llT, okT, fun rf G8 s8 rd => ?_⟩
      have st8 := stG.same s8
      -- what is due
      refine ⟨_, rfl, _, rfl, by show 1 ≤ sizeLine; decide, fun t1 h1 => ?_⟩
      have s9 := same_upd (o := .tup [.ref pw]) h1
      have e9 : (upd G8 t1 (.tup [.ref pw])) t1 = some (.tup [.ref pw]) := upd_same
      generalize upd G8 t1 (.tup [.ref pw]) = G9 at s9 e9 ⊢
      have st9 := st8.same s9
      refine ⟨_, rfl, t1, pl, _, _, rfl, rfl, e9, st9.lm, by show 1 + 3 ≤ sizeLine; decide, fun t2 Ga sa ea => ?_⟩
      have sta := st9.same sa
      obtain ⟨vs, v1, v2⟩ := sta.li
      refine ⟨_, rfl, _, rfl, _, rfl, ll, vs, rfl, SqL.of v1, fun l8 h8 => ?_⟩
      rw [cut_take (by rw [v2.length]; exact hk)]
      have sb := same_upd (o := .lst (vs.take k)) h8
      have eb : (upd Ga l8 (.lst (vs.take k))) l8 = some (.lst (vs.take k)) := upd_same
      generalize upd Ga l8 (.lst (vs.take k)) = Gb at sb eb ⊢
      refine ⟨l8, _, rfl, .inl ⟨SqL.of eb, fun t9 h9 => ?_⟩⟩
      have sc := same_upd (o := .tup (vs.take k)) h9
      have ec : (upd Gb t9 (.tup (vs.take k))) t9 = some (.tup (vs.take k)) := upd_same
      generalize upd Gb t9 (.tup (vs.take k)) = Gc at sc ec ⊢
      refine ⟨by show 1 ≤ sizeLine; decide, fun t10 h10 => ?_⟩
      have sd := same_upd (o := .tup [.ref t9]) h10
      have ed : (upd Gc t10 (.tup [.ref t9])) t10 = some (.tup [.ref t9]) := upd_same
      generalize upd Gc t10 (.tup [.ref t9]) = Gd' at sd ed ⊢
      have sad : Same Ga Gd' := sb.trans (sc.trans sd)
      refine ⟨t2, t10, _, _, rfl, rfl, sad _ _ ea, ed, by show 4 + 1 ≤ sizeLine; decide, fun t11 Ge se ee => ?_⟩
      have sae : Same Ga Ge := sad.trans se
      have ste := sta.same sae
      have rde : Read Ge rf ps x y z (ls.take k) := rd.same (s9.trans (sa.trans sae))
      have due : Read Ge t11 ps x y z (ls.take k) := ⟨pw, t9, _, ee, ste.wk, se _ _ (sd _ _ ec), paired_map (fun _ _ q => q.same sae) (take_paired k v2)⟩
      refine ⟨readD ps x y z (ls.take k), readD ps x y z (ls.take k), read_rdv rde, read_rdv due, read_shaped okT, read_shaped okT, _, rfl, ?_⟩
      rw [read_eqv]
      refine iteF ?_
      refine ⟨_, rfl, _, rfl, read_wt rde okT llT, fun Gf sf => ⟨_, rfl, iteF ?_⟩⟩
      have s8f : Same G8 Gf := s9.trans (sa.trans (sae.trans sf))
      exact ⟨s7.trans (s8.trans s8f), s8f _ _ (s8 _ _ e7), _, _, rfl, .inr ⟨rf, rfl, rde.same sf⟩⟩
    · rintro σ G ⟨s7, e7, o9, o10, rfl, hfd⟩
      rcases hfd with hfd | ⟨rf, rfl, rd⟩
      · cases hfd
      have stG := st5.same s7
      -- read again
      refine ⟨_, rfl, ps, x, y, z, ls.take k, Str.empty, (by rw [Str.append_empty]; rfl), hd, by decide +kernel, by decide +kernel, llT, okT, fun r2 G8 s8 rd2 => ?_⟩
      have rd8 := rd.same s8
      refine ⟨_, rfl, readD ps x y z (ls.take k), readD ps x y z (ls.take k), read_rdv rd2, read_rdv rd8, read_shaped okT, read_shaped okT, _, rfl, ?_⟩
      rw [read_eqv]
      refine iteF ?_
      -- shown again
      obtain ⟨pw2, pl2, xs, x1, x2, x3, x4⟩ := id rd8
      refine ⟨_, rfl, rf, _, _, _, rfl, rfl, SqT.of x1, atI_nat (j := 0) rfl, _, rfl, rf, _, _, _, rfl, rfl, SqT.of x1, atI_nat (j := 1) rfl, _, rfl, rf, _, _, _, rfl, rfl, SqT.of x1, atI_nat (j := 2) rfl, _, rfl, rf, _, _, _, rfl, rfl, SqT.of x1, atI_nat (j := 3) rfl, pw2, ps, x, y, z, rfl, x2, hd.ba, hd.bb, hd.bc, fun G9 s9 => ?_⟩
      have x19 := s9 _ _ x1
      have x39 := s9 _ _ x3
      have x49 : Paired (LnV G9) xs (ls.take k) := paired_map (fun _ _ q => q.same s9) x4
      have lx := x49.length
      refine ⟨_, rfl, rfl, _, rfl, rf, _, _, _, rfl, rfl, SqT.of x19, atI_nat (j := 4) rfl, pl2, rfl, ⟨_, SqT.of x39⟩, fun acc hacc => ?_⟩
      refine ⟨fun i m ys H' => m = xs.length - i ∧ i ≤ xs.length ∧ ys = (((ls.take k).map fun l => rowT l.vs).take i).map V.str ∧ Same G9 H' ∧ H' acc = some (.lst ys), ⟨_, rfl, Nat.zero_le _, rfl, same_upd hacc, upd_same⟩, ?_⟩
      rintro i m ys H' ⟨rfl, hi, rfl, sm, hA⟩
      refine ⟨hA, ?_⟩
      by_cases hlt : i < xs.length
      · refine .inr ⟨⟨_, _, SqT.of (sm _ _ x39), List.getElem?_eq_getElem hlt⟩, ?_⟩
        rintro v H'' ⟨rfl, hy⟩
        have ey := hy _ (SqT.of (sm _ _ x39))
        obtain ⟨l, hl, b, rfl, hb⟩ := paired_at x49 ey
        have okl := okT l (List.mem_of_getElem? hl)
        refine gName_in ?_
        refine tYes_in ?_
        refine iteT ?_
        refine ⟨_, rfl, b, _, rfl, (hb.same sm).is okl, fun H3 s3 => ?_⟩
        refine ⟨s3 _ _ hA, by rw [List.length_map, List.length_take, List.length_map]; omega, _, ?_, rfl, hlt, ?_, fun b o q => ?_, upd_same⟩
        · omega
        · rw [List.take_add_one, List.getElem?_map, hl, List.map_append]
          rfl
        · rw [upd_ne (ne_of_none q hacc)]
          exact s3 _ _ (sm _ _ q)
      refine .inl ⟨⟨_, SqT.of (sm _ _ x39), by omega⟩, ?_⟩
      have ei : ((ls.take k).map fun l => rowT l.vs).take i = (ls.take k).map fun l => rowT l.vs := List.take_of_length_le (by rw [List.length_map]; omega)
      rw [ei] at hA
      refine ⟨"", acc, _, rfl, rfl, SqL.of hA, by rw [l0]; omega, _, _, rfl, rfl, by omega, ?_⟩
      rw [hT]
      refine ⟨_, rfl, rfl, _, rfl, iteNS rfl ?_⟩
      exact fin _ _ _ _ _ _ (kp5.same (s7.trans (s8.trans (s9.trans sm))))

end
end Lt

set_option maxHeartbeats 8000000
namespace Lt
open PySem L2 PySem.W
def spLaw (K : Frag) : Sp := fun vs H Q _ => ∃ (a : Addr) (ns : List Int), vs = [.ref a] ∧ SqL K H a (ns.map V.int) ∧ ns.length ≤ 63 ∧ ∀ H', Q (.bl true) H'
theorem same_kp {w : Addr} {H H1 H2 : Hp} (s : Same H H1) (n : H w = none) (k : Kp w H1 H2) : Same H H2 := fun x o e => k.at_ x o (ne_of_none e n) (s x o e)
theorem ndKS : (["_law_k", "_law_script"] : List Str).Nodup := by decide +kernel
section
variable {P : Program} {w : World} {K : PySem.W.Frag} {mg : Str → Option Value} {base : Heap}
theorem ok_law {f : Addr} {fd : FuncData} (F : Fun K "law" "law" sLaw f fd) (G : Gb mg)
    {fWl : Addr} {fdWl : FuncData} (GWl : FnOk P w K mg base CX0 6 fWl fdWl ["_law_script", "_law_k"] (spWell K)) (kWl : keepIn K (.ref fWl) = true) (bWl : Binds K fdWl ["_law_script", "_law_k"] []) (mWl : mg "_law_well" = some (.ref fWl))
    {fD : Addr} {fdD : FuncData} (GD : FnOk P w K mg base CX0 6 fD fdD ["_law_well_here", "_law_most"] spDraw) (kD : keepIn K (.ref fD) = true) (bD : Binds K fdD ["_law_well_here", "_law_most"] []) (mD : mg "_law_draw" = some (.ref fD))
    {fM : Addr} {fdM : FuncData} (GM : FnOk P w K mg base CX0 6 fM fdM ["_law_well_here"] spMake) (kM : keepIn K (.ref fM) = true) (bM : Binds K fdM ["_law_well_here"] []) (mM : mg "_law_free_work" = some (.ref fM))
    {fL : Addr} {fdL : FuncData} (GL : FnOk P w K mg base CX0 6 fL fdL ["_law_well_here"] spLims) (kL : keepIn K (.ref fL) = true) (bL : Binds K fdL ["_law_well_here"] []) (mL : mg "_law_free_limits" = some (.ref fL))
    {fF : Addr} {fdF : FuncData} (GF : FnOk P w K mg base CX0 6 fF fdF ["_law_well_here"] spFree) (kF : keepIn K (.ref fF) = true) (bF : Binds K fdF ["_law_well_here"] []) (mF : mg "_law_free_line" = some (.ref fF))
    {fH : Addr} {fdH : FuncData} (GH : FnOk P w K mg base CX0 6 fH fdH ["work", "span", "every", "least"] spHead) (kH : keepIn K (.ref fH) = true) (bH : Binds K fdH ["work", "span", "every", "least"] []) (mH : mg "head_text" = some (.ref fH))
    {fH2 : Addr} {fdH2 : FuncData} (GH2 : FnOk P w K mg base CX0 6 fH2 fdH2 ["_law_work", "_law_limits"] spHead2) (kH2 : keepIn K (.ref fH2) = true) (bH2 : Binds K fdH2 ["_law_work", "_law_limits"] []) (mH2 : mg "_law_head" = some (.ref fH2))
    {fN : Addr} {fdN : FuncData} (GN : FnOk P w K mg base CX0 6 fN fdN ["line"] spLine) (kN : keepIn K (.ref fN) = true) (bN : Binds K fdN ["line"] []) (mN : mg "line_text" = some (.ref fN))
    {fN2 : Addr} {fdN2 : FuncData} (GN2 : FnOk P w K mg base CX0 6 fN2 fdN2 ["_law_line"] spLine) (kN2 : keepIn K (.ref fN2) = true) (bN2 : Binds K fdN2 ["_law_line"] []) (mN2 : mg "_law_line_text" = some (.ref fN2))
    {fT : Addr} {fdT : FuncData} (GT : FnOk P w K mg base CX0 6 fT fdT ["text"] spText) (kT : keepIn K (.ref fT) = true) (bT : Binds K fdT ["text"] []) (mT : mg "read_text" = some (.ref fT))
    {fW : Addr} {fdW : FuncData} (GW : FnOk P w K mg base CX0 6 fW fdW ["_law_thing"] (spThrough 4)) (kW : keepIn K (.ref fW) = true) (bW : Binds K fdW ["_law_thing"] []) (mW : mg "_law_whole_through" = some (.ref fW)) :
    FnOk P w K mg base CX0 7 f fd ["_law_script"] (spLaw K) := by
  refine F.ok scLaw (fun vs H Q E h => ?_) (fun cdv A outer s H vs Q E hr h => ?_)
  · obtain ⟨a, ns, rfl, _⟩ := h
    rfl
  · obtain ⟨a, ns, rfl, hS, hl, q⟩ := h
    obtain ⟨tR, pR, hR⟩ := ok_rest (f := f) (cdv := cdv) (A := A) (outer := outer) (s := s) (H := H) (E := E) G GWl kWl bWl mWl GD kD bD mD GM kM bM mM GL kL bL mL GF kF bF mF GH kH bH mH GH2 kH2 bH2 mH2 GN kN bN mN GN2 kN2 bN2 mN2 GT kT bT mT GW kW bW mW hr
    refine ⟨_, (pss_cons (ps_set (i := 1) scLaw.nd rfl (Or.inl rfl) (pe_call GWl hr rfl mWl kWl bWl .nil pass0 (pa_cons (pv 0) (pa_cons pe_int pa_nil)))) (pss_cons (ps_set (i := 2) scLaw.nd rfl (Or.inl rfl) (pe_call GM hr rfl mM kM bM .nil pass0 (pa_cons (pv 1) pa_nil))) (pss_cons (ps_set (i := 3) scLaw.nd rfl (Or.inl rfl) (pe_call GL hr rfl mL kL bL .nil pass0 (pa_cons (pv 1) pa_nil))) (pss_cons (ps_setC (ix := 4) scLaw.nd rfl (Or.inl rfl) (NB := ["_law_k", "_law_script"]) (n := 1) (js := [0]) (g := gName 0) (cl := [("_law_script", s.heap.objs.size + 1)]) rfl (by decide +kernel) (by decide +kernel) rfl (Takes.of rfl (all_cons rfl all_nil) (all_cons (fun z => nomatch z) (all_cons (fun z => nomatch z) (all_cons (fun z => nomatch z) (all_cons (fun z => nomatch z) (all_cons (fun _ => rfl) all_nil))))) rfl (fun k j h => match k, j, h with | 0, _, rfl => rfl | k + 1, _, h => absurd h (by simp)) (all_cons ⟨.inl rfl, .inl rfl, rfl⟩ all_nil)) (pi_range2 rfl G.range (pa_cons pe_int (pa_cons (pe_op op_add pe_int (pe_call GD hr rfl mD kD bD .nil pass0 (pa_cons (pv 1) (pa_cons pe_int pa_nil)))) pa_nil))) (fun C s H fp pn => pg_name (i := 0) ndKS rfl (Or.inl rfl) (.inr rfl)) (fun C s H fp pn => pts_nil) (fun C s H fp pn => (pe_call GF hr rfl mF kF bF .nil pass0 (pa_cons (pe_call GWl hr rfl mWl kWl bWl .nil pass0 (pa_cons (pv 1) (pa_cons (pv 0) pa_nil))) pa_nil)))) (pss_cons (ps_setC (ix := 5) scLaw.nd rfl (Or.inl rfl) (NB := ["_law_line"]) (n := 1) (js := []) (g := gName 0) (cl := []) rfl (by decide +kernel) (by decide +kernel) rfl (Takes.of rfl all_nil (all_cons (fun z => nomatch z) (all_cons (fun z => nomatch z) (all_cons (fun z => nomatch z) all_nil))) rfl (fun k j h => absurd h (by simp)) all_nil) (pi_list (pv 4)) (fun C s H fp pn => pg_name (i := 0) ndLi rfl (Or.inl rfl) (.inr rfl)) (fun C s H fp pn => pts_nil) (fun C s H fp pn => (pe_call GN2 hr rfl mN2 kN2 bN2 .nil pass0 (pa_cons (pv 0) pa_nil)))) (pss_cons (ps_for PassesOwn.never rfl (pi_list (pe_lst (pa_cons pe_int (pa_cons (pe_op op_fdiv (pe_callB call_len_seq (by rfl) G.len PySem.boot_len (pa_cons (pv 5) pa_nil)) pe_int) (pa_cons (pe_callB call_len_seq (by rfl) G.len PySem.boot_len (pa_cons (pv 5) pa_nil)) pa_nil))))) (pg_name (i := 6) scLaw.nd rfl (Or.inl rfl)) pR) (pss_one (ps_ret pe_bl)))))))), ?_⟩
    have sl : sizeLine = 16777216 := sizeLine_eq
    refine ⟨_, rfl, a, ns, 0, rfl, hS, hl, fun w' H1 s1 n1 wl1 => ?_⟩
    refine ⟨_, rfl, w', rfl, wl1, fun pw ps H2 k2 hw wk => ?_⟩
    refine ⟨_, rfl, w', rfl, k2.wl, fun pl x y z H3 k3 e3 bx by_ bz x1 y1 yz => ?_⟩
    have hw3 := hw.kp k3 k2.wl
    -- the lines
    refine ⟨_, rfl, w', 41, rfl, k3.wl, by decide, by decide, fun r H4 k4 a4 b4 => ?_⟩
    have s04 : Same H H4 := same_kp s1 n1 (k2.trans (k3.trans k4))
    have hw4 := hw3.kp k4 k3.wl
    have e4 := k4.tup k3.wl e3
    refine ⟨_, _, rfl, rfl, 1, 1 + r, rfl, ⟨by omega, by omega, by omega, by omega⟩, fun acc hacc => ?_⟩
    have hd : Hd ps x y z := by
      obtain ⟨_, _, _, h1, h2⟩ := hw
      exact ⟨h1, h2, wk, bx, by_, bz, x1, y1, yz⟩
    refine ⟨fun i m ys G => m = (1 + r - 1).toNat - i ∧ i ≤ (1 + r - 1).toNat ∧ (∃ ls : List Ln, ls.length = i ∧ Paired (LnV G) ys ls ∧ ∀ l ∈ ls, l.Ok) ∧ Same H4 G ∧ G acc = some (.lst ys), ⟨_, rfl, Nat.zero_le _, ⟨[], rfl, .nil, fun l hl => absurd hl (by simp)⟩, same_upd hacc, upd_same⟩, ?_⟩
    rintro i m ys G4 ⟨rfl, hi, ⟨ls, hll, hP, ok⟩, sm, hA⟩
    refine ⟨hA, ?_⟩
    have ly := hP.length
    by_cases hlt : i < (1 + r - 1).toNat
    · refine .inr ⟨hlt, ?_⟩
      rintro v H'' ⟨rfl, rfl⟩
      refine gName_in ?_
      refine ⟨rfl, ?_⟩
      refine tYes_in ?_
      refine iteT ?_
      refine ⟨_, rfl, _, rfl, a, ns, 1 + i, by rw [Int.natCast_add]; rfl, (s04.trans sm).seq hS, hl, fun w2 G5 s5 n5 wl5 => ?_⟩
      refine ⟨w2, rfl, wl5, fun p l G6 k6 hl6 okl => ?_⟩
      have s6 := same_kp s5 n5 k6
      have hA6 := s6 _ _ hA
      have kt : ∀ b zs, G6 b = some (.tup zs) → (upd G6 acc (.lst (ys ++ [.ref p]))) b = some (.tup zs) := fun b zs e => by
        rw [upd_ne (ne_of e hA6 (by intro z; cases z))]
        exact e
      refine ⟨hA6, by omega, _, ?_, rfl, hlt, ⟨ls ++ [l], by rw [List.length_append, hll]; rfl, ?_, fun l' hl' => ?_⟩, fun b o q => ?_, upd_same⟩
      · omega
      · exact paired_snoc (paired_map (fun v l ⟨b, z1, z2⟩ => ⟨b, z1, (z2.same s6).tups kt⟩) hP) ⟨p, rfl, hl6.tups kt⟩
      · rcases List.mem_append.mp hl' with hl' | hl'
        · exact ok l' hl'
        · cases List.mem_singleton.mp hl'
          exact okl
      · rw [upd_ne (ne_of_none q hacc)]
        exact s6 _ _ (sm _ _ q)
    refine .inl ⟨by show (1 + r - 1).toNat ≤ i; omega, ?_⟩
    have l63 : ls.length ≤ 63 := by omega
    have nacc : acc ≠ w' := (k4.wl.ne hacc).symm
    clear hlt hi
    -- the rows
    refine ⟨_, rfl, acc, rfl, ⟨_, SqL.of hA⟩, fun ac2 hac2 => ?_⟩
    have nac2 : ac2 ≠ w' := ((k4.wl.same sm).ne hac2).symm
    refine ⟨fun j m zs G => m = ls.length - j ∧ j ≤ ls.length ∧ zs = (ls.take j).map (fun l => V.str (rowT l.vs)) ∧ Same G4 G ∧ G ac2 = some (.lst zs), ⟨_, rfl, Nat.zero_le _, rfl, same_upd hac2, upd_same⟩, ?_⟩
    rintro j m zs G5 ⟨rfl, hj, rfl, sn, hB⟩
    refine ⟨hB, ?_⟩
    by_cases hlt : j < ls.length
    · refine .inr ⟨⟨_, _, SqL.of (sn _ _ hA), List.getElem?_eq_getElem (by omega)⟩, ?_⟩
      rintro v H'' ⟨rfl, hy⟩
      have ey := hy _ (SqL.of (sn _ _ hA))
      obtain ⟨l, hl', b, rfl, hb⟩ := paired_at hP ey
      refine gName_in ?_
      refine ⟨rfl, ?_⟩
      refine tYes_in ?_
      refine iteT ?_
      refine ⟨_, rfl, b, _, rfl, (hb.same sn).is (ok l (List.mem_of_getElem? hl')), fun G6 s6 => ?_⟩
      refine ⟨s6 _ _ hB, by rw [List.length_map, List.length_take]; omega, _, ?_, rfl, hlt, ?_, fun b o q => ?_, upd_same⟩
      · omega
      · rw [List.take_add_one, hl', List.map_append]
        rfl
      · rw [upd_ne (ne_of_none q hac2)]
        exact s6 _ _ (sn _ _ q)
    refine .inl ⟨⟨_, SqL.of (sn _ _ hA), by omega⟩, ?_⟩
    have ei : ls.take j = ls := List.take_of_length_le (by omega)
    rw [ei] at hB
    clear hlt hj ei
    have st : Stt w' pw pl acc ac2 ps x y z ls G5 := ⟨(k4.wl.same sm).same sn, hw4.same (sm.trans sn), sn _ _ (sm _ _ e4), ⟨ys, sn _ _ hA, paired_map (fun _ _ q => q.same sn) hP⟩, hB⟩
    -- the turns
    have lm : (ls.map fun l => V.str (rowT l.vs)).length = ls.length := List.length_map ..
    refine ⟨_, rfl, ac2, _, rfl, .inl (SqL.of hB), _, _, rfl, rfl, ⟨by decide, by decide⟩, _, rfl, ac2, _, rfl, .inl (SqL.of hB), by show 3 ≤ sizeLine; decide, fun lk hlk => ?_⟩
    rw [lm]
    have nlk : lk ≠ w' := (st.wl.ne hlk).symm
    have s6 := same_upd (o := .lst [.int 0, .int ((ls.length : Int) / 2), .int (ls.length : Int)]) hlk
    have e6 : (upd G5 lk (.lst [.int 0, .int ((ls.length : Int) / 2), .int (ls.length : Int)])) lk = some (.lst [.int 0, .int ((ls.length : Int) / 2), .int (ls.length : Int)]) := upd_same
    refine ⟨lk, rfl, ⟨_, SqL.of e6⟩, for_list (K := K) (a := lk) (xs := [.int 0, .int ((ls.length : Int) / 2), .int (ls.length : Int)]) (fun i σ G => Stt w' pw pl acc ac2 ps x y z ls G ∧ G lk = some (.lst [.int 0, .int ((ls.length : Int) / 2), .int (ls.length : Int)]) ∧ ∃ o6 o7 o8 o9 o10 o11 : Option V, σ = [some (.ref a), some (.ref w'), some (.ref pw), some (.ref pl), some (.ref acc), some (.ref ac2), o6, o7, o8, o9, o10, o11])
      ⟨st.same s6, e6, _, _, _, _, _, _, rfl⟩ (fun i σ G _ ⟨_, e, _⟩ => SqL.of e) ?_ ?_⟩
    · rintro i v σ G hi ⟨stG, eG, o6, o7, o8, o9, o10, o11, rfl⟩
      obtain ⟨k, rfl, hk⟩ : ∃ k : Nat, v = V.int (k : Int) ∧ k ≤ ls.length := by
        have hm := List.mem_of_getElem? hi
        simp only [List.mem_cons, List.not_mem_nil, or_false] at hm
        rcases hm with rfl | rfl | rfl
        · exact ⟨0, rfl, Nat.zero_le _⟩
        · exact ⟨ls.length / 2, by rw [Int.natCast_ediv]; rfl, by omega⟩
        · exact ⟨ls.length, rfl, Nat.le_refl _⟩
      exact hR _ a w' pw pl acc ac2 _ _ _ _ _ ps x y z ls k G stG hd ok l63 hk nacc nac2 fun o7 o8 o9 o10 o11 G' kG => ⟨stG.kp nacc nac2 kG, kG.at_ _ _ nlk eG, _, _, _, _, _, _, rfl⟩
    · rintro σ G ⟨_, _, _⟩
      exact q G

end
end Lt

set_option maxHeartbeats 4000000
namespace Lt
open PySem L2 PySem.W PyProof.Rows
theorem len4 {us : List Value} (h : us.length = 4) : ∃ a b c d, us = [a, b, c, d] := by
  match us, h with
  | [a, b, c, d], _ => exact ⟨a, b, c, d, rfl⟩
theorem all_mk {l : OpenLaw} {w : World} {K : Frag} {h : Heap} {mg : Str → Option Value} {fa : Addr} {f1 : Addr} {f2 : Addr} {f3 : Addr} {f4 : Addr} {f5 : Addr} {f6 : Addr} {f7 : Addr} {f8 : Addr} {f9 : Addr} {f10 : Addr} {f11 : Addr} {f12 : Addr} {f13 : Addr} {f14 : Addr} {f15 : Addr} {f16 : Addr} {f17 : Addr} {f18 : Addr} {f19 : Addr} {f20 : Addr} {f21 : Addr} {f22 : Addr} {f23 : Addr} {f24 : Addr} {f25 : Addr} {f26 : Addr} {f27 : Addr} {f28 : Addr} {f29 : Addr} {od1 an1 : Option Addr} {sl1 : Array (Option Value)} {oc1 kV1 dc1 pm1 cd1 ct1 : Value} {od2 an2 : Option Addr} {sl2 : Array (Option Value)} {oc2 kV2 dc2 pm2 cd2 ct2 : Value} {od3 an3 : Option Addr} {sl3 : Array (Option Value)} {oc3 kV3 dc3 pm3 cd3 ct3 : Value} {od4 an4 : Option Addr} {sl4 : Array (Option Value)} {oc4 kV4 dc4 pm4 cd4 ct4 : Value} {od5 an5 : Option Addr} {sl5 : Array (Option Value)} {oc5 kV5 dc5 pm5 cd5 ct5 : Value} {od6 an6 : Option Addr} {sl6 : Array (Option Value)} {oc6 kV6 dc6 pm6 cd6 ct6 : Value} {od7 an7 : Option Addr} {sl7 : Array (Option Value)} {oc7 kV7 dc7 pm7 cd7 ct7 : Value} {od8 an8 : Option Addr} {sl8 : Array (Option Value)} {oc8 kV8 dc8 pm8 cd8 ct8 : Value} {od9 an9 : Option Addr} {sl9 : Array (Option Value)} {oc9 kV9 dc9 pm9 cd9 ct9 : Value} {od10 an10 : Option Addr} {sl10 : Array (Option Value)} {oc10 kV10 dc10 pm10 cd10 ct10 : Value} {od11 an11 : Option Addr} {sl11 : Array (Option Value)} {oc11 kV11 dc11 pm11 cd11 ct11 : Value} {od12 an12 : Option Addr} {sl12 : Array (Option Value)} {oc12 kV12 dc12 pm12 cd12 ct12 : Value} {od13 an13 : Option Addr} {sl13 : Array (Option Value)} {oc13 kV13 dc13 pm13 cd13 ct13 : Value} {od14 an14 : Option Addr} {sl14 : Array (Option Value)} {oc14 kV14 dc14 pm14 cd14 ct14 : Value} {od15 an15 : Option Addr} {sl15 : Array (Option Value)} {oc15 kV15 dc15 pm15 cd15 ct15 : Value} {od16 an16 : Option Addr} {sl16 : Array (Option Value)} {oc16 kV16 dc16 pm16 cd16 ct16 : Value} {od17 an17 : Option Addr} {sl17 : Array (Option Value)} {oc17 kV17 dc17 pm17 cd17 ct17 : Value} {od18 an18 : Option Addr} {sl18 : Array (Option Value)} {oc18 kV18 dc18 pm18 cd18 ct18 : Value} {od19 an19 : Option Addr} {sl19 : Array (Option Value)} {oc19 kV19 dc19 pm19 cd19 ct19 : Value} {od20 an20 : Option Addr} {sl20 : Array (Option Value)} {oc20 kV20 dc20 pm20 cd20 ct20 : Value} {od21 an21 : Option Addr} {sl21 : Array (Option Value)} {oc21 kV21 dc21 pm21 cd21 ct21 : Value} {od22 an22 : Option Addr} {sl22 : Array (Option Value)} {oc22 kV22 dc22 pm22 cd22 ct22 : Value} {od23 an23 : Option Addr} {sl23 : Array (Option Value)} {oc23 kV23 dc23 pm23 cd23 ct23 : Value} {od24 an24 : Option Addr} {sl24 : Array (Option Value)} {oc24 kV24 dc24 pm24 cd24 ct24 : Value} {od25 an25 : Option Addr} {sl25 : Array (Option Value)} {oc25 kV25 dc25 pm25 cd25 ct25 : Value} {od26 an26 : Option Addr} {sl26 : Array (Option Value)} {oc26 kV26 dc26 pm26 cd26 ct26 : Value} {od27 an27 : Option Addr} {sl27 : Array (Option Value)} {oc27 kV27 dc27 pm27 cd27 ct27 : Value} {od28 an28 : Option Addr} {sl28 : Array (Option Value)} {oc28 kV28 dc28 pm28 cd28 ct28 : Value} {od29 an29 : Option Addr} {sl29 : Array (Option Value)} {oc29 kV29 dc29 pm29 cd29 ct29 : Value} {dT : Addr} (X : K.In h) (G : h.Ns mainGlobals mg) (hfa : mg "law" = some (.ref fa))
    (nT : nsIn K mainGlobals "PLAIN_WORDS" = some (some (.ref dT)))
    (a1 : nsIn K mainGlobals "is_whole" = some (some (.ref f1)))
    (l1 : K.lookup f1 = some ⟨oc1, od1, .func (fnOf "is_whole" "is_whole" (defArgs Ls.sWhole) (defBody Ls.sWhole) (defScope Ls.sWhole) .none kV1 dc1 pm1 an1 cd1 ct1), sl1⟩)
    (c1 : codeIn K cd1 "is_whole" = true)
    (k1 : keepIn K (.ref f1) = true)
    (a2 : nsIn K mainGlobals "is_stretch" = some (some (.ref f2)))
    (l2 : K.lookup f2 = some ⟨oc2, od2, .func (fnOf "is_stretch" "is_stretch" (defArgs Ls.sStretch) (defBody Ls.sStretch) (defScope Ls.sStretch) .none kV2 dc2 pm2 an2 cd2 ct2), sl2⟩)
    (c2 : codeIn K cd2 "is_stretch" = true)
    (k2 : keepIn K (.ref f2) = true)
    (a3 : nsIn K mainGlobals "is_work" = some (some (.ref f3)))
    (l3 : K.lookup f3 = some ⟨oc3, od3, .func (fnOf "is_work" "is_work" (defArgs Ls.sWork) (defBody Ls.sWork) (defScope Ls.sWork) .none kV3 dc3 pm3 an3 cd3 ct3), sl3⟩)
    (c3 : codeIn K cd3 "is_work" = true)
    (k3 : keepIn K (.ref f3) = true)
    (a4 : nsIn K mainGlobals "check_work" = some (some (.ref f4)))
    (l4 : K.lookup f4 = some ⟨oc4, od4, .func (fnOf "check_work" "check_work" (defArgs Ls.sCheck) (defBody Ls.sCheck) (defScope Ls.sCheck) .none kV4 dc4 pm4 an4 cd4 ct4), sl4⟩)
    (c4 : codeIn K cd4 "check_work" = true)
    (k4 : keepIn K (.ref f4) = true)
    (a5 : nsIn K mainGlobals "check_bounds" = some (some (.ref f5)))
    (l5 : K.lookup f5 = some ⟨oc5, od5, .func (fnOf "check_bounds" "check_bounds" (defArgs sBounds) (defBody sBounds) (defScope sBounds) .none kV5 dc5 pm5 an5 cd5 ct5), sl5⟩)
    (c5 : codeIn K cd5 "check_bounds" = true)
    (k5 : keepIn K (.ref f5) = true)
    (a6 : nsIn K mainGlobals "row_text" = some (some (.ref f6)))
    (l6 : K.lookup f6 = some ⟨oc6, od6, .func (fnOf "row_text" "row_text" (defArgs sRow) (defBody sRow) (defScope sRow) .none kV6 dc6 pm6 an6 cd6 ct6), sl6⟩)
    (c6 : codeIn K cd6 "row_text" = true)
    (k6 : keepIn K (.ref f6) = true)
    (a7 : nsIn K mainGlobals "head_text" = some (some (.ref f7)))
    (l7 : K.lookup f7 = some ⟨oc7, od7, .func (fnOf "head_text" "head_text" (defArgs sHead) (defBody sHead) (defScope sHead) .none kV7 dc7 pm7 an7 cd7 ct7), sl7⟩)
    (c7 : codeIn K cd7 "head_text" = true)
    (k7 : keepIn K (.ref f7) = true)
    (a8 : nsIn K mainGlobals "line_text" = some (some (.ref f8)))
    (l8 : K.lookup f8 = some ⟨oc8, od8, .func (fnOf "line_text" "line_text" (defArgs sLine) (defBody sLine) (defScope sLine) .none kV8 dc8 pm8 an8 cd8 ct8), sl8⟩)
    (c8 : codeIn K cd8 "line_text" = true)
    (k8 : keepIn K (.ref f8) = true)
    (a9 : nsIn K mainGlobals "is_number" = some (some (.ref f9)))
    (l9 : K.lookup f9 = some ⟨oc9, od9, .func (fnOf "is_number" "is_number" (defArgs sIsNum) (defBody sIsNum) (defScope sIsNum) .none kV9 dc9 pm9 an9 cd9 ct9), sl9⟩)
    (c9 : codeIn K cd9 "is_number" = true)
    (k9 : keepIn K (.ref f9) = true)
    (a10 : nsIn K mainGlobals "read_number" = some (some (.ref f10)))
    (l10 : K.lookup f10 = some ⟨oc10, od10, .func (fnOf "read_number" "read_number" (defArgs sNum) (defBody sNum) (defScope sNum) .none kV10 dc10 pm10 an10 cd10 ct10), sl10⟩)
    (c10 : codeIn K cd10 "read_number" = true)
    (k10 : keepIn K (.ref f10) = true)
    (a11 : nsIn K mainGlobals "read_numbers" = some (some (.ref f11)))
    (l11 : K.lookup f11 = some ⟨oc11, od11, .func (fnOf "read_numbers" "read_numbers" (defArgs sNums) (defBody sNums) (defScope sNums) .none kV11 dc11 pm11 an11 cd11 ct11), sl11⟩)
    (c11 : codeIn K cd11 "read_numbers" = true)
    (k11 : keepIn K (.ref f11) = true)
    (a12 : nsIn K mainGlobals "read_words" = some (some (.ref f12)))
    (l12 : K.lookup f12 = some ⟨oc12, od12, .func (fnOf "read_words" "read_words" (defArgs sWords) (defBody sWords) (defScope sWords) .none kV12 dc12 pm12 an12 cd12 ct12), sl12⟩)
    (c12 : codeIn K cd12 "read_words" = true)
    (k12 : keepIn K (.ref f12) = true)
    (a13 : nsIn K mainGlobals "read_pairs" = some (some (.ref f13)))
    (l13 : K.lookup f13 = some ⟨oc13, od13, .func (fnOf "read_pairs" "read_pairs" (defArgs sPairs) (defBody sPairs) (defScope sPairs) .none kV13 dc13 pm13 an13 cd13 ct13), sl13⟩)
    (c13 : codeIn K cd13 "read_pairs" = true)
    (k13 : keepIn K (.ref f13) = true)
    (a14 : nsIn K mainGlobals "read_head" = some (some (.ref f14)))
    (l14 : K.lookup f14 = some ⟨oc14, od14, .func (fnOf "read_head" "read_head" (defArgs sRHead) (defBody sRHead) (defScope sRHead) .none kV14 dc14 pm14 an14 cd14 ct14), sl14⟩)
    (c14 : codeIn K cd14 "read_head" = true)
    (k14 : keepIn K (.ref f14) = true)
    (a15 : nsIn K mainGlobals "read_line" = some (some (.ref f15)))
    (l15 : K.lookup f15 = some ⟨oc15, od15, .func (fnOf "read_line" "read_line" (defArgs sRLine) (defBody sRLine) (defScope sRLine) .none kV15 dc15 pm15 an15 cd15 ct15), sl15⟩)
    (c15 : codeIn K cd15 "read_line" = true)
    (k15 : keepIn K (.ref f15) = true)
    (a16 : nsIn K mainGlobals "whole_rows" = some (some (.ref f16)))
    (l16 : K.lookup f16 = some ⟨oc16, od16, .func (fnOf "whole_rows" "whole_rows" (defArgs sRows) (defBody sRows) (defScope sRows) .none kV16 dc16 pm16 an16 cd16 ct16), sl16⟩)
    (c16 : codeIn K cd16 "whole_rows" = true)
    (k16 : keepIn K (.ref f16) = true)
    (a17 : nsIn K mainGlobals "read_text" = some (some (.ref f17)))
    (l17 : K.lookup f17 = some ⟨oc17, od17, .func (fnOf "read_text" "read_text" (defArgs sText) (defBody sText) (defScope sText) .none kV17 dc17 pm17 an17 cd17 ct17), sl17⟩)
    (c17 : codeIn K cd17 "read_text" = true)
    (k17 : keepIn K (.ref f17) = true)
    (a18 : nsIn K mainGlobals "_law_well" = some (some (.ref f18)))
    (l18 : K.lookup f18 = some ⟨oc18, od18, .func (fnOf "_law_well" "_law_well" (defArgs sWell) (defBody sWell) (defScope sWell) .none kV18 dc18 pm18 an18 cd18 ct18), sl18⟩)
    (c18 : codeIn K cd18 "_law_well" = true)
    (k18 : keepIn K (.ref f18) = true)
    (a19 : nsIn K mainGlobals "_law_draw" = some (some (.ref f19)))
    (l19 : K.lookup f19 = some ⟨oc19, od19, .func (fnOf "_law_draw" "_law_draw" (defArgs sDraw) (defBody sDraw) (defScope sDraw) .none kV19 dc19 pm19 an19 cd19 ct19), sl19⟩)
    (c19 : codeIn K cd19 "_law_draw" = true)
    (k19 : keepIn K (.ref f19) = true)
    (a20 : nsIn K mainGlobals "_law_far" = some (some (.ref f20)))
    (l20 : K.lookup f20 = some ⟨oc20, od20, .func (fnOf "_law_far" "_law_far" (defArgs sFar) (defBody sFar) (defScope sFar) .none kV20 dc20 pm20 an20 cd20 ct20), sl20⟩)
    (c20 : codeIn K cd20 "_law_far" = true)
    (k20 : keepIn K (.ref f20) = true)
    (a21 : nsIn K mainGlobals "_law_free_work" = some (some (.ref f21)))
    (l21 : K.lookup f21 = some ⟨oc21, od21, .func (fnOf "_law_free_work" "_law_free_work" (defArgs sMake) (defBody sMake) (defScope sMake) .none kV21 dc21 pm21 an21 cd21 ct21), sl21⟩)
    (c21 : codeIn K cd21 "_law_free_work" = true)
    (k21 : keepIn K (.ref f21) = true)
    (a22 : nsIn K mainGlobals "_law_free_limits" = some (some (.ref f22)))
    (l22 : K.lookup f22 = some ⟨oc22, od22, .func (fnOf "_law_free_limits" "_law_free_limits" (defArgs sLims) (defBody sLims) (defScope sLims) .none kV22 dc22 pm22 an22 cd22 ct22), sl22⟩)
    (c22 : codeIn K cd22 "_law_free_limits" = true)
    (k22 : keepIn K (.ref f22) = true)
    (a23 : nsIn K mainGlobals "_law_any_word" = some (some (.ref f23)))
    (l23 : K.lookup f23 = some ⟨oc23, od23, .func (fnOf "_law_any_word" "_law_any_word" (defArgs sWord) (defBody sWord) (defScope sWord) .none kV23 dc23 pm23 an23 cd23 ct23), sl23⟩)
    (c23 : codeIn K cd23 "_law_any_word" = true)
    (k23 : keepIn K (.ref f23) = true)
    (a24 : nsIn K mainGlobals "_law_free_line" = some (some (.ref f24)))
    (l24 : K.lookup f24 = some ⟨oc24, od24, .func (fnOf "_law_free_line" "_law_free_line" (defArgs sFree) (defBody sFree) (defScope sFree) .none kV24 dc24 pm24 an24 cd24 ct24), sl24⟩)
    (c24 : codeIn K cd24 "_law_free_line" = true)
    (k24 : keepIn K (.ref f24) = true)
    (a25 : nsIn K mainGlobals "_law_row" = some (some (.ref f25)))
    (l25 : K.lookup f25 = some ⟨oc25, od25, .func (fnOf "_law_row" "_law_row" (defArgs sRow2) (defBody sRow2) (defScope sRow2) .none kV25 dc25 pm25 an25 cd25 ct25), sl25⟩)
    (c25 : codeIn K cd25 "_law_row" = true)
    (k25 : keepIn K (.ref f25) = true)
    (a26 : nsIn K mainGlobals "_law_head" = some (some (.ref f26)))
    (l26 : K.lookup f26 = some ⟨oc26, od26, .func (fnOf "_law_head" "_law_head" (defArgs sHead2) (defBody sHead2) (defScope sHead2) .none kV26 dc26 pm26 an26 cd26 ct26), sl26⟩)
    (c26 : codeIn K cd26 "_law_head" = true)
    (k26 : keepIn K (.ref f26) = true)
    (a27 : nsIn K mainGlobals "_law_line_text" = some (some (.ref f27)))
    (l27 : K.lookup f27 = some ⟨oc27, od27, .func (fnOf "_law_line_text" "_law_line_text" (defArgs sLine2) (defBody sLine2) (defScope sLine2) .none kV27 dc27 pm27 an27 cd27 ct27), sl27⟩)
    (c27 : codeIn K cd27 "_law_line_text" = true)
    (k27 : keepIn K (.ref f27) = true)
    (a28 : nsIn K mainGlobals "_law_whole_through" = some (some (.ref f28)))
    (l28 : K.lookup f28 = some ⟨oc28, od28, .func (fnOf "_law_whole_through" "_law_whole_through" (defArgs sThrough) (defBody sThrough) (defScope sThrough) .none kV28 dc28 pm28 an28 cd28 ct28), sl28⟩)
    (c28 : codeIn K cd28 "_law_whole_through" = true)
    (k28 : keepIn K (.ref f28) = true)
    (a29 : nsIn K mainGlobals "law" = some (some (.ref f29)))
    (l29 : K.lookup f29 = some ⟨oc29, od29, .func (fnOf "law" "law" (defArgs sLaw) (defBody sLaw) (defScope sLaw) .none kV29 dc29 pm29 an29 cd29 ct29), sl29⟩)
    (c29 : codeIn K cd29 "law" = true)
    (k29 : keepIn K (.ref f29) = true)
    (z0 : nsIn K mainGlobals "isinstance" = some none)
    (z1 : nsIn K mainGlobals "int" = some none)
    (z2 : nsIn K mainGlobals "bool" = some none)
    (z3 : nsIn K mainGlobals "tuple" = some none)
    (z4 : nsIn K mainGlobals "len" = some none)
    (z5 : nsIn K mainGlobals "range" = some none)
    (z6 : nsIn K mainGlobals "list" = some none)
    (z7 : nsIn K mainGlobals "max" = some none)
    (z8 : nsIn K mainGlobals "sum" = some none)
    (z9 : nsIn K mainGlobals "sorted" = some none)
    (z10 : nsIn K mainGlobals "any" = some none)
    (z11 : nsIn K mainGlobals "all" = some none)
    (z12 : nsIn K mainGlobals "enumerate" = some none)
    (z13 : nsIn K mainGlobals "min" = some none)
    (z14 : nsIn K mainGlobals "str" = some none)
    (te : KTD.tabLook KTD.flatLooks (fun b => K.lookup b) dT (plain.map fun p => (p.1, PyData.int p.2)) = true)
    (tq : KTD.hashesOf (fun b => K.lookup b) dT = (plain.map fun p => (p.1, PyData.int p.2)).map fun p => (PySem.strKind l.prog w).hash p.1) :
    ∃ fd : FuncData, (∀ (s : Shared) (v : Value), BindsTo s fd ⟨[v], []⟩ [("_law_script", v)]) ∧ ∀ base : Heap, K.In base → base.Ns mainGlobals mg → FnOk l.prog w K mg base CX0 7 fa fd ["_law_script"] (spLaw K) := by
  have e := hfa.symm.trans (mg_of X G a29)
  cases e
  have B : Gb mg := ⟨mg_none_of X G z14, mg_none_of X G z4, mg_none_of X G z1, mg_none_of X G z5, mg_none_of X G z3, mg_none_of X G z0, mg_none_of X G z2, mg_none_of X G z11⟩
  have BS : Ls.Gb mg := ⟨mg_none_of X G z0, mg_none_of X G z1, mg_none_of X G z2, mg_none_of X G z3, mg_none_of X G z4, mg_none_of X G z5, mg_none_of X G z6, mg_none_of X G z7, mg_none_of X G z8, mg_none_of X G z9, mg_none_of X G z10, mg_none_of X G z11, mg_none_of X G z12, mg_none_of X G z13⟩
  have T : TabK l.prog w K dT plain := tabK_of te (by decide) tq
  have MT := mg_of X G nT
  have F1 := fun_mk (st := Ls.sWhole) l1 c1 k1
  have b1 := F1.binds (ps := ["thing"]) fun _ _ _ _ _ _ us hl => by obtain ⟨a0_, rfl⟩ := Ls.len1 hl; rfl
  have M1 := mg_of X G a1
  have F2 := fun_mk (st := Ls.sStretch) l2 c2 k2
  have b2 := F2.binds (ps := ["thing"]) fun _ _ _ _ _ _ us hl => by obtain ⟨a0_, rfl⟩ := Ls.len1 hl; rfl
  have M2 := mg_of X G a2
  have F3 := fun_mk (st := Ls.sWork) l3 c3 k3
  have b3 := F3.binds (ps := ["thing"]) fun _ _ _ _ _ _ us hl => by obtain ⟨a0_, rfl⟩ := Ls.len1 hl; rfl
  have M3 := mg_of X G a3
  have F4 := fun_mk (st := Ls.sCheck) l4 c4 k4
  have b4 := F4.binds (ps := ["work"]) fun _ _ _ _ _ _ us hl => by obtain ⟨a0_, rfl⟩ := Ls.len1 hl; rfl
  have M4 := mg_of X G a4
  have F5 := fun_mk (st := sBounds) l5 c5 k5
  have b5 := F5.binds (ps := ["span", "every", "least"]) fun _ _ _ _ _ _ us hl => by obtain ⟨a0_, a1_, a2_, rfl⟩ := Ls.len3 hl; rfl
  have M5 := mg_of X G a5
  have F6 := fun_mk (st := sRow) l6 c6 k6
  have b6 := F6.binds (ps := ["parts"]) fun _ _ _ _ _ _ us hl => by obtain ⟨a0_, rfl⟩ := Ls.len1 hl; rfl
  have M6 := mg_of X G a6
  have F7 := fun_mk (st := sHead) l7 c7 k7
  have b7 := F7.binds (ps := ["work", "span", "every", "least"]) fun _ _ _ _ _ _ us hl => by obtain ⟨a0_, a1_, a2_, a3_, rfl⟩ := len4 hl; rfl
  have M7 := mg_of X G a7
  have F8 := fun_mk (st := sLine) l8 c8 k8
  have b8 := F8.binds (ps := ["line"]) fun _ _ _ _ _ _ us hl => by obtain ⟨a0_, rfl⟩ := Ls.len1 hl; rfl
  have M8 := mg_of X G a8
  have F9 := fun_mk (st := sIsNum) l9 c9 k9
  have b9 := F9.binds (ps := ["word"]) fun _ _ _ _ _ _ us hl => by obtain ⟨a0_, rfl⟩ := Ls.len1 hl; rfl
  have M9 := mg_of X G a9
  have F10 := fun_mk (st := sNum) l10 c10 k10
  have b10 := F10.binds (ps := ["word"]) fun _ _ _ _ _ _ us hl => by obtain ⟨a0_, rfl⟩ := Ls.len1 hl; rfl
  have M10 := mg_of X G a10
  have F11 := fun_mk (st := sNums) l11 c11 k11
  have b11 := F11.binds (ps := ["words"]) fun _ _ _ _ _ _ us hl => by obtain ⟨a0_, rfl⟩ := Ls.len1 hl; rfl
  have M11 := mg_of X G a11
  have F12 := fun_mk (st := sWords) l12 c12 k12
  have b12 := F12.binds (ps := ["row"]) fun _ _ _ _ _ _ us hl => by obtain ⟨a0_, rfl⟩ := Ls.len1 hl; rfl
  have M12 := mg_of X G a12
  have F13 := fun_mk (st := sPairs) l13 c13 k13
  have b13 := F13.binds (ps := ["words"]) fun _ _ _ _ _ _ us hl => by obtain ⟨a0_, rfl⟩ := Ls.len1 hl; rfl
  have M13 := mg_of X G a13
  have F14 := fun_mk (st := sRHead) l14 c14 k14
  have b14 := F14.binds (ps := ["row"]) fun _ _ _ _ _ _ us hl => by obtain ⟨a0_, rfl⟩ := Ls.len1 hl; rfl
  have M14 := mg_of X G a14
  have F15 := fun_mk (st := sRLine) l15 c15 k15
  have b15 := F15.binds (ps := ["row"]) fun _ _ _ _ _ _ us hl => by obtain ⟨a0_, rfl⟩ := Ls.len1 hl; rfl
  have M15 := mg_of X G a15
  have F16 := fun_mk (st := sRows) l16 c16 k16
  have b16 := F16.binds (ps := ["text"]) fun _ _ _ _ _ _ us hl => by obtain ⟨a0_, rfl⟩ := Ls.len1 hl; rfl
  have M16 := mg_of X G a16
  have F17 := fun_mk (st := sText) l17 c17 k17
  have b17 := F17.binds (ps := ["text"]) fun _ _ _ _ _ _ us hl => by obtain ⟨a0_, rfl⟩ := Ls.len1 hl; rfl
  have M17 := mg_of X G a17
  have F18 := fun_mk (st := sWell) l18 c18 k18
  have b18 := F18.binds (ps := ["_law_script", "_law_k"]) fun _ _ _ _ _ _ us hl => by obtain ⟨a0_, a1_, rfl⟩ := Ls.len2 hl; rfl
  have M18 := mg_of X G a18
  have F19 := fun_mk (st := sDraw) l19 c19 k19
  have b19 := F19.binds (ps := ["_law_well_here", "_law_most"]) fun _ _ _ _ _ _ us hl => by obtain ⟨a0_, a1_, rfl⟩ := Ls.len2 hl; rfl
  have M19 := mg_of X G a19
  have F20 := fun_mk (st := sFar) l20 c20 k20
  have b20 := F20.binds (ps := ["_law_well_here"]) fun _ _ _ _ _ _ us hl => by obtain ⟨a0_, rfl⟩ := Ls.len1 hl; rfl
  have M20 := mg_of X G a20
  have F21 := fun_mk (st := sMake) l21 c21 k21
  have b21 := F21.binds (ps := ["_law_well_here"]) fun _ _ _ _ _ _ us hl => by obtain ⟨a0_, rfl⟩ := Ls.len1 hl; rfl
  have M21 := mg_of X G a21
  have F22 := fun_mk (st := sLims) l22 c22 k22
  have b22 := F22.binds (ps := ["_law_well_here"]) fun _ _ _ _ _ _ us hl => by obtain ⟨a0_, rfl⟩ := Ls.len1 hl; rfl
  have M22 := mg_of X G a22
  have F23 := fun_mk (st := sWord) l23 c23 k23
  have b23 := F23.binds (ps := ["_law_well_here"]) fun _ _ _ _ _ _ us hl => by obtain ⟨a0_, rfl⟩ := Ls.len1 hl; rfl
  have M23 := mg_of X G a23
  have F24 := fun_mk (st := sFree) l24 c24 k24
  have b24 := F24.binds (ps := ["_law_well_here"]) fun _ _ _ _ _ _ us hl => by obtain ⟨a0_, rfl⟩ := Ls.len1 hl; rfl
  have M24 := mg_of X G a24
  have F25 := fun_mk (st := sRow2) l25 c25 k25
  have b25 := F25.binds (ps := ["_law_parts"]) fun _ _ _ _ _ _ us hl => by obtain ⟨a0_, rfl⟩ := Ls.len1 hl; rfl
  have M25 := mg_of X G a25
  have F26 := fun_mk (st := sHead2) l26 c26 k26
  have b26 := F26.binds (ps := ["_law_work", "_law_limits"]) fun _ _ _ _ _ _ us hl => by obtain ⟨a0_, a1_, rfl⟩ := Ls.len2 hl; rfl
  have M26 := mg_of X G a26
  have F27 := fun_mk (st := sLine2) l27 c27 k27
  have b27 := F27.binds (ps := ["_law_line"]) fun _ _ _ _ _ _ us hl => by obtain ⟨a0_, rfl⟩ := Ls.len1 hl; rfl
  have M27 := mg_of X G a27
  have F28 := fun_mk (st := sThrough) l28 c28 k28
  have b28 := F28.binds (ps := ["_law_thing"]) fun _ _ _ _ _ _ us hl => by obtain ⟨a0_, rfl⟩ := Ls.len1 hl; rfl
  have M28 := mg_of X G a28
  have F29 := fun_mk (st := sLaw) l29 c29 k29
  refine ⟨fnOf "law" "law" (defArgs sLaw) (defBody sLaw) (defScope sLaw) .none kV29 dc29 pm29 an29 cd29 ct29, fun s v => .of_eq rfl, fun base _ _ => ?_⟩
  have G1 : FnOk l.prog w K mg base CX0 1 f1 _ ["thing"] Ls.spWhole := Ls.ok_whole F1 BS
  have G3 : FnOk l.prog w K mg base CX0 3 f3 _ ["thing"] Ls.spWork := Ls.ok_work F3 BS F1 b1 M1 F2 b2 M2
  have G4 : FnOk l.prog w K mg base CX0 4 f4 _ ["work"] Ls.spCheck := Ls.ok_check F4 G3 k3 b3 M3
  have G5 : FnOk l.prog w K mg base CX0 2 f5 _ ["span", "every", "least"] spBounds := ok_bounds F5 G1 k1 b1 M1
  have G6 : FnOk l.prog w K mg base CX0 1 f6 _ ["parts"] (spRow K) := ok_Row F6 B
  have G7 : FnOk l.prog w K mg base CX0 2 f7 _ ["work", "span", "every", "least"] spHead := ok_head F7 G6 k6 b6 M6
  have G8 : FnOk l.prog w K mg base CX0 2 f8 _ ["line"] spLine := ok_line F8 G6 k6 b6 M6
  have G9 : FnOk l.prog w K mg base CX0 1 f9 _ ["word"] spIsNum := ok_isnum F9 B
  have G10 : FnOk l.prog w K mg base CX0 2 f10 _ ["word"] spNum := ok_num F10 B G9 k9 b9 M9
  have G11 : FnOk l.prog w K mg base CX0 3 f11 _ ["words"] spNums := ok_nums F11 B G10 k10 b10 M10
  have G12 : FnOk l.prog w K mg base CX0 1 f12 _ ["row"] spWords := ok_words F12 B
  have G13 : FnOk l.prog w K mg base CX0 4 f13 _ ["words"] spPairs := ok_pairs F13 B G11 k11 b11 M11
  have G14 : FnOk l.prog w K mg base CX0 5 f14 _ ["row"] spRHead := ok_rhead F14 B (G12.mono (by decide)) k12 b12 M12 G13 k13 b13 M13 (G11.mono (by decide)) k11 b11 M11
  have G15 : FnOk l.prog w K mg base CX0 5 f15 _ ["row"] spRLine := ok_rline F15 B T MT (G12.mono (by decide)) k12 b12 M12 (G10.mono (by decide)) k10 b10 M10 (G11.mono (by decide)) k11 b11 M11
  have G16 : FnOk l.prog w K mg base CX0 1 f16 _ ["text"] spRows := ok_rows F16
  have G17 : FnOk l.prog w K mg base CX0 6 f17 _ ["text"] spText := ok_text F17 B (G16.mono (by decide)) k16 b16 M16 G14 k14 b14 M14 G15 k15 b15 M15 (G4.mono (by decide)) k4 b4 M4 (G5.mono (by decide)) k5 b5 M5
  have G18 : FnOk l.prog w K mg base CX0 1 f18 _ ["_law_script", "_law_k"] (spWell K) := ok_well F18 B
  have G19 : FnOk l.prog w K mg base CX0 1 f19 _ ["_law_well_here", "_law_most"] spDraw := ok_draw F19
  have G20 : FnOk l.prog w K mg base CX0 2 f20 _ ["_law_well_here"] spFar := ok_far F20 G19 k19 b19 M19
  have G21 : FnOk l.prog w K mg base CX0 2 f21 _ ["_law_well_here"] spMake := ok_make F21 B G19 k19 b19 M19
  have G22 : FnOk l.prog w K mg base CX0 2 f22 _ ["_law_well_here"] spLims := ok_lims F22 G19 k19 b19 M19
  have G23 : FnOk l.prog w K mg base CX0 2 f23 _ ["_law_well_here"] spWord := ok_word F23 B G19 k19 b19 M19
  have G24 : FnOk l.prog w K mg base CX0 3 f24 _ ["_law_well_here"] spFree := ok_free F24 B G19 k19 b19 M19 G20 k20 b20 M20 G23 k23 b23 M23
  have G25 : FnOk l.prog w K mg base CX0 1 f25 _ ["_law_parts"] (spRow K) := ok_Row2 F25 B
  have G26 : FnOk l.prog w K mg base CX0 2 f26 _ ["_law_work", "_law_limits"] spHead2 := ok_head2 F26 G25 k25 b25 M25
  have G27 : FnOk l.prog w K mg base CX0 2 f27 _ ["_law_line"] spLine := ok_line2 F27 G25 k25 b25 M25
  have G28 : FnOk l.prog w K mg base CX0 5 f28 _ ["_law_thing"] (spThrough 4) := ok_through F28 B k28 b28 M28 4
  exact ok_law F29 B (G18.mono (by decide)) k18 b18 M18 (G19.mono (by decide)) k19 b19 M19 (G21.mono (by decide)) k21 b21 M21 (G22.mono (by decide)) k22 b22 M22 (G24.mono (by decide)) k24 b24 M24 (G7.mono (by decide)) k7 b7 M7 (G26.mono (by decide)) k26 b26 M26 (G8.mono (by decide)) k8 b8 M8 (G27.mono (by decide)) k27 b27 M27 G17 k17 b17 M17 (G28.mono (by decide)) k28 b28 M28
theorem walk {l : OpenLaw} {q : Program} {loose : List Str} {XP : (Str → Option Value) → Heap → Prop} {YP : World → Heap → Prop} {d : DefRec} {K : Params → Frag} (hn : l.most = some 63) (hdf : d.params.defaults = [])
    (hY : ∀ (w : World) (h : Heap), YP w h → (K w.params).In h)
    (F : ∀ (w : World) (mg : Str → Option Value) (fa : Addr) (h : Heap), (K w.params).In h → h.Ns mainGlobals mg → mg d.name = some (.ref fa) →
      ∃ fd : FuncData, (∀ (s : Shared) (u : Value), BindsTo s fd ⟨[u], []⟩ [("_law_script", u)]) ∧ ∀ base : Heap, (K w.params).In base → base.Ns mainGlobals mg → FnOk l.prog w (K w.params) mg base CX0 7 fa fd ["_law_script"] (spLaw (K w.params))) :
    WalkO q loose XP YP l.row.toRowW d [] (fun f vs => PySem.call f vs) :=
  L2.walk_of (n := 63) (k := 7) (x := "_law_script") (CX := fun _ => CX0) (sp := fun w => spLaw (K w.params)) hn (by decide) hdf ⟨rfl, by decide, by decide⟩ hY F (fun _ _ a ns hl _ hS => ⟨a, ns, rfl, hS, hl, fun _ => rfl⟩) fun _ _ _ _ _ z => z
end Lt
open PySem PySem.W PyProof.Rows
set_option maxRecDepth 100000 in
set_option maxHeartbeats 0 in
theorem PySem.Challenge.cw_lentwork_k35_books_read_holds : PySem.Challenge.rw_lentwork_k35_books_read.Holds := by
  w_on; o_law; k_head; (case hw => w_witness2)
  k_fill
  refine Lt.walk (l := PySem.Challenge.rw_lentwork_k35_books_read) rfl rfl (fun w h Y => PySem.W.kIn_of Y) ?F
  case F =>
    intro w mg fa h KX G hmg
    refine' Lt.all_mk KX G hmg ?nT ?a1 ?l1 ?c1 ?k1 ?a2 ?l2 ?c2 ?k2 ?a3 ?l3 ?c3 ?k3 ?a4 ?l4 ?c4 ?k4 ?a5 ?l5 ?c5 ?k5 ?a6 ?l6 ?c6 ?k6 ?a7 ?l7 ?c7 ?k7 ?a8 ?l8 ?c8 ?k8 ?a9 ?l9 ?c9 ?k9 ?a10 ?l10 ?c10 ?k10 ?a11 ?l11 ?c11 ?k11 ?a12 ?l12 ?c12 ?k12 ?a13 ?l13 ?c13 ?k13 ?a14 ?l14 ?c14 ?k14 ?a15 ?l15 ?c15 ?k15 ?a16 ?l16 ?c16 ?k16 ?a17 ?l17 ?c17 ?k17 ?a18 ?l18 ?c18 ?k18 ?a19 ?l19 ?c19 ?k19 ?a20 ?l20 ?c20 ?k20 ?a21 ?l21 ?c21 ?k21 ?a22 ?l22 ?c22 ?k22 ?a23 ?l23 ?c23 ?k23 ?a24 ?l24 ?c24 ?k24 ?a25 ?l25 ?c25 ?k25 ?a26 ?l26 ?c26 ?k26 ?a27 ?l27 ?c27 ?k27 ?a28 ?l28 ?c28 ?k28 ?a29 ?l29 ?c29 ?k29 ?z0 ?z1 ?z2 ?z3 ?z4 ?z5 ?z6 ?z7 ?z8 ?z9 ?z10 ?z11 ?z12 ?z13 ?z14 ?te ?tq
    (case nT => k_is)
    (case a1 => k_is)
    (case l1 => k_is)
    (case c1 => k_is)
    (case k1 => k_is)
    (case a2 => k_is)
    (case l2 => k_is)
    (case c2 => k_is)
    (case k2 => k_is)
    (case a3 => k_is)
    (case l3 => k_is)
    (case c3 => k_is)
    (case k3 => k_is)
    (case a4 => k_is)
    (case l4 => k_is)
    (case c4 => k_is)
    (case k4 => k_is)
    (case a5 => k_is)
    (case l5 => k_is)
    (case c5 => k_is)
    (case k5 => k_is)
    (case a6 => k_is)
    (case l6 => k_is)
    (case c6 => k_is)
    (case k6 => k_is)
    (case a7 => k_is)
    (case l7 => k_is)
    (case c7 => k_is)
    (case k7 => k_is)
    (case a8 => k_is)
    (case l8 => k_is)
    (case c8 => k_is)
    (case k8 => k_is)
    (case a9 => k_is)
    (case l9 => k_is)
    (case c9 => k_is)
    (case k9 => k_is)
    (case a10 => k_is)
    (case l10 => k_is)
    (case c10 => k_is)
    (case k10 => k_is)
    (case a11 => k_is)
    (case l11 => k_is)
    (case c11 => k_is)
    (case k11 => k_is)
    (case a12 => k_is)
    (case l12 => k_is)
    (case c12 => k_is)
    (case k12 => k_is)
    (case a13 => k_is)
    (case l13 => k_is)
    (case c13 => k_is)
    (case k13 => k_is)
    (case a14 => k_is)
    (case l14 => k_is)
    (case c14 => k_is)
    (case k14 => k_is)
    (case a15 => k_is)
    (case l15 => k_is)
    (case c15 => k_is)
    (case k15 => k_is)
    (case a16 => k_is)
    (case l16 => k_is)
    (case c16 => k_is)
    (case k16 => k_is)
    (case a17 => k_is)
    (case l17 => k_is)
    (case c17 => k_is)
    (case k17 => k_is)
    (case a18 => k_is)
    (case l18 => k_is)
    (case c18 => k_is)
    (case k18 => k_is)
    (case a19 => k_is)
    (case l19 => k_is)
    (case c19 => k_is)
    (case k19 => k_is)
    (case a20 => k_is)
    (case l20 => k_is)
    (case c20 => k_is)
    (case k20 => k_is)
    (case a21 => k_is)
    (case l21 => k_is)
    (case c21 => k_is)
    (case k21 => k_is)
    (case a22 => k_is)
    (case l22 => k_is)
    (case c22 => k_is)
    (case k22 => k_is)
    (case a23 => k_is)
    (case l23 => k_is)
    (case c23 => k_is)
    (case k23 => k_is)
    (case a24 => k_is)
    (case l24 => k_is)
    (case c24 => k_is)
    (case k24 => k_is)
    (case a25 => k_is)
    (case l25 => k_is)
    (case c25 => k_is)
    (case k25 => k_is)
    (case a26 => k_is)
    (case l26 => k_is)
    (case c26 => k_is)
    (case k26 => k_is)
    (case a27 => k_is)
    (case l27 => k_is)
    (case c27 => k_is)
    (case k27 => k_is)
    (case a28 => k_is)
    (case l28 => k_is)
    (case c28 => k_is)
    (case k28 => k_is)
    (case a29 => k_is)
    (case l29 => k_is)
    (case c29 => k_is)
    (case k29 => k_is)
    (case z0 => k_is)
    (case z1 => k_is)
    (case z2 => k_is)
    (case z3 => k_is)
    (case z4 => k_is)
    (case z5 => k_is)
    (case z6 => k_is)
    (case z7 => k_is)
    (case z8 => k_is)
    (case z9 => k_is)
    (case z10 => k_is)
    (case z11 => k_is)
    (case z12 => k_is)
    (case z13 => k_is)
    (case z14 => k_is)
    (case te => kernel_rfl)
    (case tq => kernel_rfl)

