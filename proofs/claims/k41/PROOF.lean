import PyProof.Rows.All
import Wide.All
import OpenK.AllK
import Wide.FinOn
import Lean
import PyProof.EqAt
import PyProof.EqKinds
import PyProof.TupleCall
import PySem.Challenge.RW_lentwork_k41_stores
set_option Elab.async false
set_option linter.all false
set_option maxRecDepth 100000
/-! THE HAND LAYER, for ints, bools, texts, own classes, LISTS and tuples (index, slices, in, append, pop ..), calls, loops. Paste it whole ahead of your own text; what your proof does not reach may be deleted. -/
namespace L2
open PySem PySem.Spec PyProof.Rows

/-- a key: an int or a str -/
abbrev Key := Sum Int Str
def keyIs : Key → Value → Bool
  | .inl k, v => Value.isInt k v
  | .inr x, v => Value.isStrOf x v
def keyH (w : World) : Key → Int
  | .inl k => hashInt k
  | .inr x => hashStr w x
theorem keyIs_shape : ∀ {k : Key} {v : Value}, keyIs k v = true → (∃ i t, k = Sum.inl i ∧ v = Value.int i t) ∨ (∃ x t, k = Sum.inr x ∧ v = Value.str x t)
  | .inl i, v, h => by
    obtain ⟨t, e⟩ := Value.isInt_shape (k := i) (v := v) h
    exact .inl ⟨i, t, rfl, e⟩
  | .inr x, v, h => by
    obtain ⟨t, e⟩ := Value.isStrOf_shape (x := x) (v := v) h
    exact .inr ⟨x, t, rfl, e⟩
theorem keyIs_int (i : Int) (t : Tok) : keyIs (.inl i) (.int i t) = true := by simp [keyIs, Value.isInt]
theorem keyIs_str (x : Str) (t : Tok) : keyIs (.inr x) (.str x t) = true := by simp [keyIs, Value.isStrOf]
theorem key_ll (a b : Int) : decide ((Sum.inl a : Key) = Sum.inl b) = (a == b) := by
  by_cases e : a = b
  · subst e; simp
  · have h : ¬ (Sum.inl a : Key) = Sum.inl b := fun q => e (Sum.inl.inj q)
    rw [decide_eq_false h]
    exact (beq_eq_false_iff_ne.mpr e).symm
theorem key_rr (a b : Str) : decide ((Sum.inr a : Key) = Sum.inr b) = decide (a = b) := by
  by_cases e : a = b
  · subst e; simp
  · have h : ¬ (Sum.inr a : Key) = Sum.inr b := fun q => e (Sum.inr.inj q)
    rw [decide_eq_false h, decide_eq_false e]
theorem key_lr (a : Int) (b : Str) : decide ((Sum.inl a : Key) = Sum.inr b) = false := decide_eq_false (fun q => nomatch q)
theorem key_rl (a : Str) (b : Int) : decide ((Sum.inr a : Key) = Sum.inl b) = false := decide_eq_false (fun q => nomatch q)

def mixKind (prog : Program) (w : World) : PySem.KeyKind prog w Key where
  is := keyIs
  hash := keyH w
  inj := fun v a b ha hb => by
    rcases keyIs_shape ha with ⟨i, t, rfl, rfl⟩ | ⟨x, t, rfl, rfl⟩
    · rcases keyIs_shape hb with ⟨j, u, rfl, e⟩ | ⟨y, u, rfl, e⟩
      · injection e with e1 _; rw [e1]
      · exact nomatch e
    · rcases keyIs_shape hb with ⟨j, u, rfl, e⟩ | ⟨y, u, rfl, e⟩
      · exact nomatch e
      · injection e with e1 _; rw [e1]
  byValue := fun k v h => by
    rcases keyIs_shape h with ⟨i, t, rfl, rfl⟩ | ⟨x, t, rfl, rfl⟩ <;> rfl
  pyHash := fun hv h => by
    rcases keyIs_shape hv with ⟨i, t, rfl, rfl⟩ | ⟨x, t, rfl, rfl⟩
    · exact wpAny_pyHash_int h
    · exact wpAny_pyHash_str h
  eqBool := fun hu hv h => by
    rcases keyIs_shape hu with ⟨i, t, rfl, rfl⟩ | ⟨x, t, rfl, rfl⟩
    · rcases keyIs_shape hv with ⟨j, u, rfl, rfl⟩ | ⟨y, u, rfl, rfl⟩
      · rw [key_ll] at h; exact wpAny_eqBool_int h
      · rw [key_lr] at h; exact SeqAt.EqAt.int_str i t y u _ _ _ _ h
    · rcases keyIs_shape hv with ⟨j, u, rfl, rfl⟩ | ⟨y, u, rfl, rfl⟩
      · rw [key_rl] at h; exact SeqAt.EqAt.str_int x t j u _ _ _ _ h
      · rw [key_rr] at h; exact wpAny_eqBool_str h
  «strs» := fun k x t v h => by
    rcases keyIs_shape h with ⟨i, u, rfl, e⟩ | ⟨y, u, rfl, e⟩
    · exact nomatch e
    · injection e with e1 _
      subst e1
      cases v <;> rfl

theorem mixKind_int (prog : Program) (w : World) (i : Int) (t : Tok) : (mixKind prog w).is (.inl i) (.int i t) = true := keyIs_int i t
theorem mixKind_str (prog : Program) (w : World) (x : Str) (t : Tok) : (mixKind prog w).is (.inr x) (.str x t) = true := keyIs_str x t
end L2

namespace L2
open PySem PySem.Spec PyProof.Rows

/-- a value, without the heap -/
inductive V where
  | non | bl (b : Bool) | int (i : Int) | str (x : Str) | byt (b : Array UInt8) | flt (b : UInt64) | ref (a : Addr) | ty (n : String)
  deriving DecidableEq

def RelV : V → Value → Prop
  | .non, u => u = Value.none
  | .bl b, u => u = Value.bool b
  | .int i, u => ∃ t, u = Value.int i t
  | .str x, u => ∃ t, u = Value.str x t
  | .byt b, u => ∃ t, u = Value.bytes b t
  | .flt b, u => ∃ t, u = Value.float b t
  | .ref a, u => u = Value.ref a
  | .ty n, u => u = Value.type n

abbrev Vals : List V → List Value → Prop := Paired RelV
theorem Vals.length {xs : List V} {us : List Value} (r : Vals xs us) : xs.length = us.length := Paired.length r
theorem Vals.get : ∀ {xs : List V} {us : List Value} {i : Nat} {x : V}, Vals xs us → xs[i]? = some x → ∃ u, us[i]? = some u ∧ RelV x u
  | _, _, _, _, .nil, e => by simp at e
  | _, _, 0, _, .cons r _, e => by simp at e; subst e; exact ⟨_, rfl, r⟩
  | _, _, i + 1, x, .cons _ t, e => by
    obtain ⟨u, h1, h2⟩ := Vals.get (i := i) (x := x) t (by simpa using e)
    exact ⟨u, by simpa using h1, h2⟩
theorem Vals.set {x : V} {u : Value} (r : RelV x u) : ∀ {xs : List V} {us : List Value} (i : Nat), Vals xs us → Vals (xs.set i x) (us.set i u)
  | _, _, _, .nil => .nil
  | _, _, 0, .cons _ t => .cons r t
  | _, _, i + 1, .cons q t => .cons q (Vals.set r i t)
theorem Vals.append : ∀ {xs ys : List V} {us ws : List Value}, Vals xs us → Vals ys ws → Vals (xs ++ ys) (us ++ ws)
  | _, _, _, _, .nil, s => s
  | _, _, _, _, .cons r t, s => .cons r (Vals.append t s)
theorem Vals.take : ∀ {xs : List V} {us : List Value} (n : Nat), Vals xs us → Vals (xs.take n) (us.take n)
  | _, _, 0, _ => .nil
  | _, _, _ + 1, .nil => .nil
  | _, _, n + 1, .cons r t => .cons r (Vals.take n t)
theorem Vals.drop : ∀ {xs : List V} {us : List Value} (n : Nat), Vals xs us → Vals (xs.drop n) (us.drop n)
  | _, _, 0, r => r
  | _, _, _ + 1, .nil => .nil
  | _, _, n + 1, .cons _ t => Vals.drop n t

def RelO : Option V → Option Value → Prop
  | some v, some u => RelV v u
  | none, none => True
  | _, _ => False
def KV {κ : Type} : List (κ × V) → List (κ × Value) → Prop := Paired fun (p : κ × V) (q : κ × Value) => p.1 = q.1 ∧ RelV p.2 q.2

/-- a key of a dict (00_mix): an int or a text -/
def kV : Key → V
  | .inl i => .int i
  | .inr x => .str x

/-- what stands at a tracked address -/
inductive HO where
  /-- a list -/
  | lst (xs : List V)
  /-- a tuple (never changes) -/
  | tup (xs : List V)
  /-- a dict whose keys are ints and texts; one whose keys are tuples of ints and texts (the empty one is both) -/
  | dK (kvs : List (Key × V)) | dT (kvs : List (List Key × V))
  /-- a set of ints: its members, its size -/
  | set (S : Int → Bool) (n : Nat)
  /-- an instance of the class at C, its dict at dx, its attributes -/
  | ins (C dx : Addr) (fs : List (Str × V))
  /-- the dict of the instance at x -/
  | own (x : Addr)
  /-- the dict of an exception -/
  | xd (fs : List (Str × V))
  /-- a bound method, f of x -/
  | met (f x : Addr)
  /-- a range object lo, lo + 1, .. below hi -/
  | rng (lo hi : Int)
  /-- a thing that is known to the object (the script; a dict while a loop walks it): read, never written while it is so -/
  | frz (o : Obj) (u : HO)
  /-- a code object's table -/
  | tbl (ps : Array Value)
  /-- any other thing, by what is true of its one object (a def of one's own: SetO a S n := HO.ext fun h => ..) -/
  | ext (φ : Heap → Prop)

abbrev Hp := Addr → Option HO
def upd (H : Hp) (a : Addr) (o : HO) : Hp := fun b => if b = a then some o else H b
theorem upd_same {H : Hp} {a : Addr} {o : HO} : upd H a o a = some o := by unfold upd; rw [if_pos rfl]
theorem upd_ne {H : Hp} {a b : Addr} {o : HO} (h : b ≠ a) : upd H a o b = H b := by unfold upd; rw [if_neg h]
theorem upd_upd {H : Hp} {a : Addr} {o u : HO} : upd (upd H a o) a u = upd H a u := by
  funext b; unfold upd; split <;> rfl
/-- two objects of different content stand apart -/
theorem ne_of {H : Hp} {a b : Addr} {o u : HO} (h : H a = some o) (h' : H b = some u) (d : o ≠ u) : a ≠ b := by
  intro e; subst e; rw [h] at h'; exact d (Option.some.inj h')
theorem ne_of_none {H : Hp} {a b : Addr} {o : HO} (h : H a = some o) (h' : H b = none) : a ≠ b := by
  intro e; subst e; rw [h] at h'; cases h'

section
variable (P : Program) (w : World)
def ObjOk (H : Hp) (h : Heap) (a : Addr) : HO → Prop
  | .lst xs => xs.length ≤ sizeLine ∧ ∃ (its : List Value) (n : Nat), Vals xs its ∧ h.get? a = some { cls := .type "list", data := .seq its.toArray n }
  | .tup xs => xs.length ≤ sizeLine ∧ ∃ its : List Value, Vals xs its ∧ IsTup h a its.toArray
  | .dK kvs => kvs.length ≤ sizeLine ∧ (a == sysModules) = false ∧ ∃ vs, KV kvs vs ∧ h.DictOf (mixKind P w) a vs
  | .dT kvs => kvs.length ≤ sizeLine ∧ (a == sysModules) = false ∧ ∃ xs : List (List Key × Addr × Value),
      Paired (fun (p : List Key × V) (q : List Key × Addr × Value) => p.1 = q.1 ∧ H q.2.1 = some (.tup (p.1.map kV)) ∧ RelV p.2 q.2.2) kvs xs ∧
      ∃ o es ep, h.get? a = some o ∧ o.ExactDict ∧ o.data = .dict es ep ∧ es.toList = xs.map (entryOfKey (tupleKind (mixKind P w))) ∧ (xs.map (·.1)).Nodup
  | .set S n => h.SetOf (intKind P w) a S n
  | .ins C dx fs => H dx = some (.own a) ∧ fs.length ≤ 1000 ∧ dx ≠ a ∧ h.get? a = some (PySem.W.instObj C dx) ∧
      ∃ mA, h.Ns1 dx mA ∧ (∀ f, RelO (fs.lookup f) (mA f)) ∧ PySem.Within mA (fs.map (·.1))
  | .own _ => ∃ o, h.get? a = some o
  | .xd fs => ∃ mA, h.Ns1 a mA ∧ ∀ f, RelO (fs.lookup f) (mA f)
  | .rng lo hi => ∃ t u v, h.get? a = some { cls := .type "range", data := .fields #[.int lo t, .int hi u, .int 1 v] }
  | .frz o u => h.get? a = some o ∧ ObjOk H h a u
  | .tbl ps => h.get? a = some { cls := .none, data := .fields ps }
  | .met f x => h.get? a = some (PySem.W.methodObj (.ref f) (.ref x))
  | .ext φ => φ h ∧ (∃ o, h.get? a = some o) ∧ ∀ h1 h2 : Heap, φ h1 → (∀ o, h1.get? a = some o → h2.get? a = some o) → φ h2
/-- the abstract heap is held -/
def HOk (H : Hp) (h : Heap) : Prop := ∀ a o, H a = some o → ObjOk P w H h a o
end

section
variable {P : Program} {w : World} {H H' : Hp} {h h' : Heap} {a : Addr} {o : HO}
theorem ObjOk.lt (x : ObjOk P w H h a o) : a < h.objs.size := by
  cases o with
  | lst xs => obtain ⟨_, _, _, _, e⟩ := x; exact Heap.lt_size e
  | tup xs => obtain ⟨_, _, _, p⟩ := x; exact p.lt
  | dK kvs => obtain ⟨_, _, _, _, o, _, _, e, _⟩ := x; exact Heap.lt_size e
  | dT kvs => obtain ⟨_, _, _, _, o, _, _, e, _⟩ := x; exact Heap.lt_size e
  | set S n => obtain ⟨o, _, _, _, e, _⟩ := x; exact Heap.lt_size e
  | ins C dx fs => obtain ⟨_, _, _, e, _⟩ := x; exact Heap.lt_size e
  | own y => obtain ⟨_, e⟩ := x; exact Heap.lt_size e
  | xd fs => obtain ⟨_, ⟨_, _, _, e, _⟩, _⟩ := x; exact Heap.lt_size e
  | rng lo hi => obtain ⟨_, _, _, e⟩ := x; exact Heap.lt_size e
  | frz ob u => obtain ⟨e, _⟩ := x; exact Heap.lt_size e
  | tbl ps => exact Heap.lt_size (show h.get? a = some _ from x)
  | met f y => exact Heap.lt_size (show h.get? a = some _ from x)
  | ext φ => obtain ⟨_, ⟨_, e⟩, _⟩ := x; exact Heap.lt_size e
theorem Paired.mapP {α β : Type} {F G : α → β → Prop} : ∀ {l₁ : List α} {l₂ : List β}, Paired F l₁ l₂ → (∀ a b, F a b → G a b) → Paired G l₁ l₂
  | _, _, .nil, _ => .nil
  | _, _, .cons r t, f => .cons (f _ _ r) (Paired.mapP t f)
/-- what an object's description leans on: its own object, its own dict, the tuples -/
theorem ObjOk.stay (x : ObjOk P w H h a o) (k : ∀ b u, (b = a ∨ H b = some (.own a)) → h.get? b = some u → h'.get? b = some u)
    (ho : ∀ b, H b = some (.own a) → H' b = some (.own a)) (ht : ∀ b xs, H b = some (.tup xs) → H' b = some (.tup xs)) : ObjOk P w H' h' a o := by
  induction o with
  | lst xs => obtain ⟨z, its, n, r, e⟩ := x; exact ⟨z, its, n, r, k _ _ (.inl rfl) e⟩
  | tup xs => obtain ⟨z, its, r, ob, e, c⟩ := x; exact ⟨z, its, r, ob, k _ _ (.inl rfl) e, c⟩
  | dK kvs => obtain ⟨z, y, vs, r, ob, es, ep, e, c⟩ := x; exact ⟨z, y, vs, r, ob, es, ep, k _ _ (.inl rfl) e, c⟩
  | dT kvs =>
    obtain ⟨z, y, xs, r, ob, es, ep, e, c⟩ := x
    exact ⟨z, y, xs, Paired.mapP r fun p q z => ⟨z.1, ht _ _ z.2.1, z.2.2⟩, ob, es, ep, k _ _ (.inl rfl) e, c⟩
  | set S n => obtain ⟨ob, es, ep, t, e, c⟩ := x; exact ⟨ob, es, ep, t, k _ _ (.inl rfl) e, c⟩
  | ins C dx fs =>
    obtain ⟨d, z, ne, e, mA, ⟨od, es, ep, e2, c⟩, r⟩ := x
    exact ⟨ho _ d, z, ne, k _ _ (.inl rfl) e, mA, ⟨od, es, ep, k _ _ (.inr d) e2, c⟩, r⟩
  | own y => obtain ⟨ob, e⟩ := x; exact ⟨ob, k _ _ (.inl rfl) e⟩
  | xd fs => obtain ⟨mA, ⟨od, es, ep, e, c⟩, r⟩ := x; exact ⟨mA, ⟨od, es, ep, k _ _ (.inl rfl) e, c⟩, r⟩
  | rng lo hi => obtain ⟨t, u, v, e⟩ := x; exact ⟨t, u, v, k _ _ (.inl rfl) e⟩
  | frz ob u ih => obtain ⟨e, q⟩ := x; exact ⟨k _ _ (.inl rfl) e, ih q⟩
  | tbl ps =>
    have e : h.get? a = some { cls := .none, data := .fields ps } := x
    show h'.get? a = some { cls := .none, data := .fields ps }
    exact k a _ (.inl rfl) e
  | met f y =>
    have e : h.get? a = some (PySem.W.methodObj (.ref f) (.ref y)) := x
    show h'.get? a = some (PySem.W.methodObj (.ref f) (.ref y))
    exact k a _ (.inl rfl) e
  | ext φ => obtain ⟨p, ⟨o, e⟩, st⟩ := x; exact ⟨st _ _ p fun o q => k _ _ (.inl rfl) q, ⟨o, k _ _ (.inl rfl) e⟩, st⟩
theorem HOk.lt (x : HOk P w H h) (e : H a = some o) : a < h.objs.size := (x a o e).lt
theorem HOk.fresh (x : HOk P w H h) (e : h.objs.size ≤ a) : H a = none := by
  cases q : H a with
  | none => rfl
  | some u => exact absurd (Nat.lt_of_lt_of_le (x.lt q) e) (Nat.lt_irrefl _)
/-- every object of the heap is kept -/
theorem HOk.kept (x : HOk P w H h) (k : ∀ b u, h.get? b = some u → h'.get? b = some u) : HOk P w H h' := fun a o e =>
  (x a o e).stay (fun b u _ q => k b u q) (fun _ q => q) fun _ _ q => q
/-- a new object is laid and tracked -/
theorem HOk.laid (x : HOk P w H h) (k : ∀ b u, h.get? b = some u → h'.get? b = some u) (hp : h.objs.size ≤ a) (new : ObjOk P w (upd H a o) h' a o) : HOk P w (upd H a o) h' := fun b u e => by
  have hn := x.fresh hp
  by_cases hb : b = a
  · subst hb; rw [upd_same] at e; cases e; exact new
  · rw [upd_ne hb] at e
    exact (x b u e).stay (fun c v _ q => k c v q) (fun c q => by rw [upd_ne (ne_of_none q hn)]; exact q) fun c xs q => by rw [upd_ne (ne_of_none q hn)]; exact q
end

/-- what may be read as u: it is u, or a known u -/
def Rd (H : Hp) (a : Addr) (u : HO) : Prop := H a = some u ∨ ∃ o, H a = some (.frz o u)
theorem Rd.ok {P : Program} {w : World} {H : Hp} {h : Heap} {a : Addr} {u : HO} (r : Rd H a u) (x : HOk P w H h) : ObjOk P w H h a u := by
  rcases r with r | ⟨o, r⟩
  · exact x a u r
  · obtain ⟨_, q⟩ := x a _ r
    exact q
/-- what may be written -/
def Mut : Option HO → Prop
  | some (.lst _) => True
  | some (.dK _) => True
  | some (.dT _) => True
  | some (.set _ _) => True
  | some (.ins _ _ _) => True
  | some (.ext _) => True
  | _ => False
section
variable {P : Program} {w : World} {H : Hp} {h h' : Heap} {x e : Addr} {o' : HO}
/-- the object at e is changed: x itself, or the dict of the instance x -/
theorem HOk.write (ok : HOk P w H h) (mu : Mut (H x)) (he : e = x ∨ H e = some (.own x)) (k : ∀ b u, b ≠ e → h.get? b = some u → h'.get? b = some u) (heo : ∃ u, h'.get? e = some u)
    (new : ObjOk P w (upd H x o') h' x o') : HOk P w (upd H x o') h' := fun b u q => by
  have nown : ∀ c y, H c = some (.own y) → c ≠ x := fun c y r z => by subst z; rw [r] at mu; exact mu
  have ntup : ∀ c xs, H c = some (.tup xs) → c ≠ x := fun c xs r z => by subst z; rw [r] at mu; exact mu
  by_cases hb : b = x
  · subst hb; rw [upd_same] at q; cases q; exact new
  · rw [upd_ne hb] at q
    by_cases hbe : b = e
    · have q' : H b = some (.own x) := by
        rcases he with z | z
        · exact absurd (hbe.trans z) hb
        · rw [hbe]; exact z
      rw [q] at q'; cases q'
      obtain ⟨v, hv⟩ := heo
      exact ⟨v, by rw [hbe]; exact hv⟩
    · refine (ok b u q).stay (fun c v hc r => k c v ?_ r) (fun c r => by rw [upd_ne (nown c b r)]; exact r) fun c xs r => by rw [upd_ne (ntup c xs r)]; exact r
      rcases hc with rfl | hc
      · exact hbe
      · rintro rfl
        rcases he with z | z
        · exact nown c b hc z
        · rw [hc] at z; cases z; exact hb rfl
end

/-! ### kept unless tracked; of the frames at fs (the callers') the slots may change (an exception that passes writes there); of the records at ex (iterators) nothing is said -/
structure Un (fs ex : List Addr) (H H' : Hp) (h h' : Heap) : Prop where
  keep : ∀ b o, h.get? b = some o → H b = none → b ∉ fs → b ∉ ex → h'.get? b = some o
  slot : ∀ b o, h.get? b = some o → H b = none → b ∈ fs → b ∉ ex → ∃ sl, h'.get? b = some { o with slots := sl }
  free : ∀ b o, h.get? b = some o → H b = none → b ∉ ex → H' b = none
  there : ∀ b o, h.get? b = some o → b ∉ ex → ∃ o', h'.get? b = some o'
  tups : ∀ b xs, H b = some (.tup xs) → H' b = some (.tup xs)
  frzs : ∀ b o u, H b = some (.frz o u) → H' b = some (.frz o u)
  tbls : ∀ b ps, H b = some (.tbl ps) → ∃ more, H' b = some (.tbl (ps ++ more))
section
variable {fs fs' ex ex' : List Addr} {H H1 H2 : Hp} {h h1 h2 h' : Heap} {a x e : Addr} {o : HO}
theorem Un.any (u : Un fs ex H H1 h h1) {b : Addr} {ob : Obj} (q : h.get? b = some ob) (n : H b = none) (hx : b ∉ ex) : ∃ sl, h1.get? b = some { ob with slots := sl } := by
  by_cases hb : b ∈ fs
  · exact u.slot b ob q n hb hx
  · exact ⟨ob.slots, u.keep b ob q n hb hx⟩
theorem Un.kept (k : ∀ b u, h.get? b = some u → h'.get? b = some u) : Un fs ex H H h h' :=
  ⟨fun b ob q _ _ _ => k b ob q, fun b ob q _ _ _ => ⟨ob.slots, k b ob q⟩, fun _ _ _ n _ => n, fun b ob q _ => ⟨ob, k b ob q⟩, fun _ _ q => q, fun _ _ _ q => q, fun _ ps q => ⟨#[], by rw [q]; simp⟩⟩
theorem Un.refl : Un fs ex H H h h := Un.kept fun _ _ q => q
theorem Un.laid (k : ∀ b u, h.get? b = some u → h'.get? b = some u) (hp : h.objs.size ≤ a) (hn : H a = none) : Un fs ex H (upd H a o) h h' where
  keep := fun b u q _ _ _ => k b u q
  slot := fun b u q _ _ _ => ⟨u.slots, k b u q⟩
  free := fun b u q n _ => by rw [upd_ne (Nat.ne_of_lt (Nat.lt_of_lt_of_le (Heap.lt_size q) hp))]; exact n
  there := fun b u q _ => ⟨u, k b u q⟩
  tups := fun b xs q => by rw [upd_ne (ne_of_none q hn)]; exact q
  frzs := fun b u xs q => by rw [upd_ne (ne_of_none q hn)]; exact q
  tbls := fun b ps q => ⟨#[], by rw [upd_ne (ne_of_none q hn), q]; simp⟩
theorem Un.write (mu : Mut (H x)) (he : e = x ∨ H e = some (.own x)) (k : ∀ b u, b ≠ e → h.get? b = some u → h'.get? b = some u) (heo : ∃ u, h'.get? e = some u) : Un fs ex H (upd H x o) h h' := by
  have hx : ∀ b, H b = none → b ≠ x := fun b n z => by subst z; rw [n] at mu; exact mu
  have hb : ∀ b, H b = none → b ≠ e := fun b n z => by
    subst z
    rcases he with r | r
    · exact hx b n r
    · rw [n] at r; cases r
  have hm : ∀ b u, H b = some u → ¬ Mut (some u) → b ≠ x := fun b u q nm z => by subst z; rw [q] at mu; exact nm mu
  refine ⟨fun b u q n _ _ => k b u (hb b n) q, fun b u q n _ _ => ⟨u.slots, k b u (hb b n) q⟩, fun b u q n _ => by rw [upd_ne (hx b n)]; exact n, fun b u q _ => ?_,
    fun b xs q => by rw [upd_ne (hm b _ q fun z => z)]; exact q, fun b u xs q => by rw [upd_ne (hm b _ q fun z => z)]; exact q, fun b ps q => ⟨#[], by rw [upd_ne (hm b _ q fun z => z), q]; simp⟩⟩
  by_cases hbe : b = e
  · subst hbe; exact heo
  · exact ⟨u, k b u hbe q⟩
end

/-! ### the heap without what is tracked -/
def trk (h : Heap) (H : Hp) : List Addr := (List.range h.objs.size).filter fun a => (H a).isSome
def hidT (h : Heap) (H : Hp) : Heap := PySem.W.hideAll h (trk h H)
theorem hidT_size (h : Heap) (H : Hp) : (hidT h H).objs.size = h.objs.size := PySem.W.hideAll_size _ _
theorem hidT_get {h : Heap} {H : Hp} {b : Addr} {o : Obj} (e : h.get? b = some o) (n : H b = none) : (hidT h H).get? b = some o :=
  PySem.W.hideAll_get _ e fun hm => by
    have q : (H b).isSome = true := (List.mem_filter.mp hm).2
    rw [n] at q; simp at q
theorem of_hidT {h : Heap} {H : Hp} {b : Addr} {o : Obj} (e : (hidT h H).get? b = some o) : h.get? b = some o ∧ H b = none := by
  have e' : h.get? b = some o := PySem.W.of_hideAll (trk h H) e
  refine ⟨e', ?_⟩
  cases q : H b with
  | none => rfl
  | some x =>
    have hm : b ∈ trk h H := List.mem_filter.mpr ⟨List.mem_range.mpr (Heap.lt_size e'), by simp [q]⟩
    have z : (hidT h H).get? b = none := PySem.W.hideAll_none (trk h H) hm
    rw [z] at e; cases e

/-! ### OpenK's ledger, filled with every new object but one -/
end L2

namespace L2
open PySem PySem.Spec PyProof.Rows

/-- the module's facts, over the base: the heap at the law's entry without what is tracked there -/
structure Mod (K : PySem.W.Frag) (mg : Str → Option Value) (base : Heap) : Prop where
  kin : K.In base
  glob : base.Ns mainGlobals mg
  blt : ∃ mb, base.Ns builtinsNs mb ∧ ∀ x : Str, x ≠ "__name__" → mb x = bootBuiltins x
  nolimit : base.NoLimit

/-- the context: a def's body (or a comprehension's block) running. base: fixed through the whole law; s₀, H₀: the entry; outer: the frames whose slots others may change (a def's callers); stack: all frames that run;
   ex: iterators that were made ahead of the entry and are walked here (a comprehension's); fn: the names whose cells were made at the entry (a def: all; a comprehension's block: its own); calm: not within an except suite; pn: pins that every state bears; xe: what is wanted of an exception that leaves the code -/
structure Cx where
  prog : Program
  w : World
  K : PySem.W.Frag
  mg : Str → Option Value
  base : Heap
  A : Around
  N : List Str
  s₀ : Shared
  H₀ : Hp
  env : Env
  outer : List Env
  stack : List Env
  ex : List Addr
  fn : Str → Bool
  calm : Bool
  pn : List (Addr × Obj)
  xe : Value → Shared → Prop
/-- the callers' frames -/
def frs (l : List Env) : List Addr := l.filterMap (·.frame)
abbrev Cx.fs (X : Cx) : List Addr := frs X.outer

def Vis (sc : Scope) (x : Str) : Prop := sc.names.lookup x = some .local ∨ sc.names.lookup x = some .cell ∨ sc.names.lookup x = some .free
def Loc (sc : Scope) (x : Str) : Prop := sc.names.lookup x = some .local ∨ sc.names.lookup x = some .cell
def Look (env : Env) (h : Heap) (m : Str → Option Value) (x : Str) (u : Value) : Prop :=
  (env.kindOf x = some .local ∧ m x = some u) ∨ ((env.kindOf x = some .cell ∨ env.kindOf x = some .free) ∧ ∃ c, env.cells.lookup x = some c ∧ h.IsCell c (some u))

structure Cx.Ok (X : Cx) : Prop where
  mod : Mod X.K X.mg X.base
  kind : X.env.scope.kind = .function
  glob : X.env.globals = mainGlobals
  blt : X.env.builtins = builtinsNs
  above : X.s₀.heap.objs.size ≤ X.env.locals
  inj : ∀ x y c, X.env.cells.lookup x = some c → X.env.cells.lookup y = some c → x = y
  has : ∀ x, (X.env.kindOf x = some .cell ∨ X.env.kindOf x = some .free) → ∃ c, X.env.cells.lookup x = some c
  cab : ∀ x c, X.fn x = true → X.env.cells.lookup x = some c → X.s₀.heap.objs.size ≤ c
  hd : X.calm = true → X.A.handled = none
  frames : X.A.frames = some X.stack
  stk : X.stack = X.outer ∨ (X.stack = X.env :: X.outer ∧ X.env.frame = some X.env.locals)
  exf : ∀ b ∈ X.ex, b ≠ X.env.locals ∧ ∀ x c, X.env.cells.lookup x = some c → c ≠ b
  bs : ∀ b o, X.base.get? b = some o → X.s₀.heap.get? b = some o ∧ X.H₀ b = none
  bsz : X.base.objs.size ≤ X.s₀.heap.objs.size
  noex : ∀ b o, X.base.get? b = some o → b ∉ X.ex
  exfs : ∀ b ∈ X.ex, b ∉ X.fs
  funs : X.s₀.heap.FunFrames X.base X.outer
  frf : ∀ b ∈ X.fs, X.H₀ b = none

structure Inv (X : Cx) (pins : List (Addr × Obj)) (σ : List (Option V)) (H : Hp) (s : Shared) : Prop where
  ok : X.Ok
  os : s.os = X.s₀.os
  bare : AllBare s.gens
  base : Un X.fs X.ex X.H₀ H X.s₀.heap s.heap
  loc : ∃ m, s.heap.Ns X.env.locals m ∧ ∀ (i : Nat) (x : Str) (v : V), X.N[i]? = some x → σ[i]? = some (some v) → Vis X.env.scope x → ∃ u, RelV v u ∧ Look X.env s.heap m x u
  cell : ∀ x c, X.env.cells.lookup x = some c → ∃ v, s.heap.IsCell c v
  free : H X.env.locals = none
  freeC : ∀ x c, X.env.cells.lookup x = some c → H c = none
  pin : ∀ p ∈ X.pn ++ pins, s.heap.get? p.1 = some p.2 ∧ H p.1 = none ∧ p.1 ≠ X.env.locals ∧ p.1 ∉ X.fs ∧ ∀ v, p.2.data ≠ .cell v
  hok : HOk X.prog X.w H s.heap
  len : σ.length = X.N.length

section
variable {X : Cx} {pins : List (Addr × Obj)} {σ : List (Option V)} {H H' : Hp} {s : Shared} {h' : Heap}

theorem Cx.Ok.nofr (ok : X.Ok) {b : Addr} {o : Obj} (e : X.base.get? b = some o) : b ∉ X.fs := fun hb => by
  have := (ok.funs.mem hb).1
  rw [e] at this; cases this
theorem Inv.bs (I : Inv X pins σ H s) : ∀ b o, X.base.get? b = some o → s.heap.get? b = some o ∧ H b = none := fun b o e =>
  ⟨I.base.keep b o (I.ok.bs b o e).1 (I.ok.bs b o e).2 (I.ok.nofr e) (I.ok.noex b o e), I.base.free b o (I.ok.bs b o e).1 (I.ok.bs b o e).2 (I.ok.noex b o e)⟩
theorem Inv.bk (I : Inv X pins σ H s) : ∀ b o, X.base.get? b = some o → s.heap.get? b = some o := fun b o e => (I.bs b o e).1
theorem Inv.mod (I : Inv X pins σ H s) : Mod X.K X.mg X.base := I.ok.mod
theorem Inv.kIn (I : Inv X pins σ H s) : X.K.In s.heap := I.ok.mod.kin.keeps I.bk
theorem Inv.lt (I : Inv X pins σ H s) : X.env.locals < s.heap.objs.size := let ⟨_, hn, _⟩ := I.loc; hn.lt
theorem Inv.sz (I : Inv X pins σ H s) : X.s₀.heap.objs.size ≤ s.heap.objs.size := Nat.le_trans I.ok.above (Nat.le_of_lt I.lt)
theorem Inv.nofs (I : Inv X pins σ H s) {a : Addr} (h : s.heap.objs.size ≤ a) : a ∉ X.fs := fun hb => by
  obtain ⟨_, o, ho, _⟩ := I.ok.funs.mem hb
  exact absurd (Nat.lt_of_lt_of_le (Heap.lt_size ho) (Nat.le_trans I.sz h)) (Nat.lt_irrefl _)
theorem Inv.cne (I : Inv X pins σ H s) : ∀ x c, X.env.cells.lookup x = some c → c ≠ X.env.locals := fun x c e z => by
  obtain ⟨v, o, ho, hd⟩ := I.cell x c e
  obtain ⟨m, ⟨o', es, ep, ho', hd', _⟩, _⟩ := I.loc
  rw [z, ho'] at ho; cases ho; rw [hd'] at hd; cases hd
theorem Inv.funs (I : Inv X pins σ H s) : s.heap.FunFrames X.base X.outer := by
  have all : ∀ (l : List Env), (∀ b ∈ frs l, b ∈ X.fs) → X.s₀.heap.FunFrames X.base l → s.heap.FunFrames X.base l := by
    intro l
    induction l with
    | nil => intro _ _; trivial
    | cons env r ih =>
      intro hs hl
      obtain ⟨hk, ⟨L, o, hf, hn, ho, hd⟩, hr⟩ := hl
      have hL : L ∈ X.fs := hs L (by unfold frs; rw [List.filterMap_cons, hf]; exact List.mem_cons_self)
      obtain ⟨sl, e⟩ := I.base.slot L o ho (I.ok.frf L hL) hL fun z => I.ok.exfs L z hL
      exact ⟨hk, ⟨L, _, hf, hn, e, hd⟩, ih (fun b hb => hs b (by unfold frs; rw [List.filterMap_cons, hf]; exact List.mem_cons_of_mem _ hb)) hr⟩
  exact all X.outer (fun _ hb => hb) I.ok.funs

/-- the frames that run, for a call -/
theorem Inv.stack (I : Inv X pins σ H s) : s.heap.FunFrames X.base X.stack := by
  rcases I.ok.stk with e | ⟨e, hf⟩
  · rw [e]; exact I.funs
  · rw [e]
    obtain ⟨m, hn, _⟩ := I.loc
    refine .cons (by rw [I.ok.kind]; decide) hf hn ?_ I.funs
    exact Heap.get?_none_of_le (Nat.le_trans I.ok.bsz I.ok.above)
theorem Inv.stkSub (I : Inv X pins σ H s) : ∀ b ∈ frs X.stack, b ∈ X.env.locals :: X.fs := fun b hb => by
  rcases I.ok.stk with e | ⟨e, hf⟩
  · rw [e] at hb; exact List.mem_cons_of_mem _ hb
  · rw [e] at hb
    unfold frs at hb
    rw [List.filterMap_cons, hf] at hb
    exact hb
theorem Inv.stkFree (I : Inv X pins σ H s) : ∀ b ∈ frs X.stack, H b = none := fun b hb => by
  rcases List.mem_cons.mp (I.stkSub b hb) with e | hb
  · rw [e]; exact I.free
  · obtain ⟨_, o, ho, _⟩ := I.ok.funs.mem hb
    exact I.base.free b o ho (I.ok.frf b hb) fun z => I.ok.exfs b z hb

/-- THE STEP: the untracked objects but the frame and the records at ch are kept (the callers' frames up to slots), the frame's map is kept, the new abstract heap is held -/
theorem Inv.step {g' : Array GenState} {t' : Nat} {d' : Drawn} {ch : List Addr} (I : Inv X pins σ H s)
    (hch : ∀ b ∈ ch, (b ∈ X.ex ∨ X.s₀.heap.objs.size ≤ b) ∧ b ≠ X.env.locals ∧ (∀ x c, X.env.cells.lookup x = some c → c ≠ b) ∧ ∀ p ∈ X.pn ++ pins, p.1 ≠ b)
    (keep : ∀ b o, b ≠ X.env.locals → b ∉ X.fs → b ∉ ch → s.heap.get? b = some o → H b = none → h'.get? b = some o)
    (slot : ∀ b o, b ≠ X.env.locals → b ∈ X.fs → b ∉ ch → s.heap.get? b = some o → H b = none → ∃ sl, h'.get? b = some { o with slots := sl }) (free : ∀ b o, b ∉ ch → s.heap.get? b = some o → H b = none → H' b = none)
    (there : ∀ b o, b ∉ ch → s.heap.get? b = some o → ∃ o', h'.get? b = some o')
    (tups : ∀ b xs, H b = some (.tup xs) → H' b = some (.tup xs)) (frzs : ∀ b o u, H b = some (.frz o u) → H' b = some (.frz o u)) (tbls : ∀ b ps, H b = some (.tbl ps) → ∃ more, H' b = some (.tbl (ps ++ more)))
    (ns : ∀ m, s.heap.Ns X.env.locals m → h'.Ns X.env.locals m) (hok : HOk X.prog X.w H' h') (hg : AllBare g') :
    Inv X pins σ H' { s with heap := h', gens := g', drawn := d', toks := t' } := by
  have neL : ∀ b o, X.s₀.heap.get? b = some o → b ≠ X.env.locals := fun b o e => Nat.ne_of_lt (Nat.lt_of_lt_of_le (Heap.lt_size e) I.ok.above)
  have neC : ∀ b o, X.s₀.heap.get? b = some o → b ∉ X.ex → b ∉ ch := fun b o e hx hb => by
    rcases (hch b hb).1 with z | z
    · exact hx z
    · exact absurd (Nat.lt_of_lt_of_le (Heap.lt_size e) z) (Nat.lt_irrefl _)
  have cellK : ∀ x c, X.env.cells.lookup x = some c → ∀ v, s.heap.IsCell c v → h'.IsCell c v := fun x c e v ⟨o, ho, hd⟩ => by
    have nch : c ∉ ch := fun z => (hch c z).2.2.1 x c e rfl
    by_cases hc : c ∈ X.fs
    · obtain ⟨sl, q⟩ := slot c o (I.cne x c e) hc nch ho (I.freeC x c e)
      exact ⟨_, q, hd⟩
    · exact ⟨o, keep c o (I.cne x c e) hc nch ho (I.freeC x c e), hd⟩
  refine ⟨I.ok, I.os, hg, ⟨fun b o e n hb hx => ?_, fun b o e n hb hx => ?_, fun b o e n hx => ?_, fun b o e hx => ?_, fun b xs e => tups b xs (I.base.tups b xs e), fun b o xs e => frzs b o xs (I.base.frzs b o xs e), fun b ps e => ?_⟩, ?_, fun x c e => ?_, ?_, fun x c e => ?_, fun p hp => ?_, hok, I.len⟩
  · exact keep b o (neL b o e) hb (neC b o e hx) (I.base.keep b o e n hb hx) (I.base.free b o e n hx)
  · obtain ⟨sl, e1⟩ := I.base.slot b o e n hb hx
    obtain ⟨sl', e2⟩ := slot b _ (neL b o e) hb (neC b o e hx) e1 (I.base.free b o e n hx)
    exact ⟨sl', e2⟩
  · obtain ⟨o', e1⟩ := I.base.there b o e hx
    exact free b o' (neC b o e hx) e1 (I.base.free b o e n hx)
  · obtain ⟨o', e1⟩ := I.base.there b o e hx
    exact there b o' (neC b o e hx) e1
  · obtain ⟨m1, e1⟩ := I.base.tbls b ps e
    obtain ⟨m2, e2⟩ := tbls b _ e1
    exact ⟨m1 ++ m2, by rw [e2, Array.append_assoc]⟩
  · obtain ⟨m, hn, hl⟩ := I.loc
    refine ⟨m, ns m hn, fun i x v e1 e2 e3 => ?_⟩
    obtain ⟨u, r, l⟩ := hl i x v e1 e2 e3
    refine ⟨u, r, ?_⟩
    rcases l with l | ⟨k, c, e, z⟩
    · exact .inl l
    · exact .inr ⟨k, c, e, cellK x c e _ z⟩
  · obtain ⟨v, z⟩ := I.cell x c e
    exact ⟨v, cellK x c e v z⟩
  · obtain ⟨m, ⟨o, _, _, ho, _⟩, _⟩ := I.loc
    exact free _ o (fun z => (hch _ z).2.1 rfl) ho I.free
  · obtain ⟨v, o, ho, hd⟩ := I.cell x c e
    exact free c o (fun z => (hch c z).2.2.1 x c e rfl) ho (I.freeC x c e)
  · obtain ⟨e, n, ne, nf, d⟩ := I.pin p hp
    have nch : p.1 ∉ ch := fun z => (hch p.1 z).2.2.2 p hp rfl
    exact ⟨keep p.1 p.2 ne nf nch e n, free p.1 p.2 nch e n, ne, nf, d⟩
/-- .. where the frame's own object is kept too -/
theorem Inv.un {t' : Nat} (I : Inv X pins σ H s) (u : Un X.fs [] H H' s.heap h') (hok : HOk X.prog X.w H' h') : Inv X pins σ H' { s with heap := h', toks := t' } := by
  obtain ⟨m, ⟨o, es, ep, ho, r⟩, _⟩ := id I.loc
  obtain ⟨sl, hL⟩ := u.any ho I.free (by simp)
  exact I.step (g' := s.gens) (d' := s.drawn) (ch := []) (fun _ z => nomatch z) (fun b o _ hb _ e n => u.keep b o e n hb (by simp)) (fun b o _ hb _ e n => u.slot b o e n hb (by simp)) (fun b o _ e n => u.free b o e n (by simp)) (fun b o _ e => u.there b o e (by simp)) u.tups u.frzs u.tbls (fun m' hm => by
    obtain ⟨o', es', ep', ho', r'⟩ := hm
    rw [ho] at ho'; cases ho'
    exact ⟨_, es', ep', hL, r'⟩) hok I.bare
/-- behind a call (or a comprehension's block): the slots of this frame may have changed too, the records at ch may have turned -/
theorem Inv.call {g' : Array GenState} {t' : Nat} {d' : Drawn} {ch : List Addr} (I : Inv X pins σ H s) (u : Un (frs X.stack) ch H H' s.heap h') (hok : HOk X.prog X.w H' h') (hg : AllBare g')
    (hch : ∀ b ∈ ch, (b ∈ X.ex ∨ X.s₀.heap.objs.size ≤ b) ∧ b ≠ X.env.locals ∧ (∀ x c, X.env.cells.lookup x = some c → c ≠ b) ∧ ∀ p ∈ X.pn ++ pins, p.1 ≠ b) :
    Inv X pins σ H' { s with heap := h', gens := g', drawn := d', toks := t' } := by
  obtain ⟨m, ⟨o, es, ep, ho, r⟩, _⟩ := id I.loc
  obtain ⟨sl, hL⟩ := u.any ho I.free fun z => (hch _ z).2.1 rfl
  exact I.step (ch := ch) hch (fun b o hL hb hc e n => u.keep b o e n (fun z => (List.mem_cons.mp (I.stkSub b z)).elim hL hb) hc) (fun b o _ _ hc e n => u.any e n hc) (fun b o hc e n => u.free b o e n hc) (fun b o hc e => u.there b o e hc) u.tups u.frzs u.tbls (fun m' hm => by
    obtain ⟨o', es', ep', ho', r'⟩ := hm
    rw [ho] at ho'; cases ho'
    exact ⟨_, es', ep', hL, r'⟩) hok hg
/-- an untracked record of ours (an iterator) has turned -/
theorem Inv.turned {t' : Nat} {it : Addr} (I : Inv X pins σ H s) (k : ∀ b o, b ≠ it → s.heap.get? b = some o → h'.get? b = some o) (hn : H it = none) (hL : it ≠ X.env.locals)
    (h1 : it ∈ X.ex ∨ X.s₀.heap.objs.size ≤ it) (h2 : ∀ x c, X.env.cells.lookup x = some c → c ≠ it) (h3 : ∀ p ∈ X.pn ++ pins, p.1 ≠ it) : Inv X pins σ H { s with heap := h', toks := t' } := by
  have nit : ∀ b u, H b = some u → b ≠ it := fun b u e z => by rw [z, hn] at e; cases e
  refine I.step (g' := s.gens) (d' := s.drawn) (ch := [it]) (fun b hb => ?_) (fun b o _ _ hc e _ => k b o (fun z => hc (by simp [z])) e) (fun b o _ _ hc e _ => ⟨o.slots, k b o (fun z => hc (by simp [z])) e⟩) (fun _ _ _ _ n => n)
    (fun b o hc e => ⟨o, k b o (fun z => hc (by simp [z])) e⟩) (fun _ _ e => e) (fun _ _ _ e => e) (fun b ps e => ⟨#[], by rw [e]; simp⟩) (fun m hm => ?_) (fun b u e => ?_) I.bare
  · have e : b = it := by simpa using hb
    subst e
    exact ⟨h1, hL, h2, h3⟩
  · obtain ⟨o, es, ep, ho, r⟩ := hm
    exact ⟨o, es, ep, k _ o (Ne.symm hL) ho, r⟩
  · refine (I.hok b u e).stay (fun c v hc q => k c v ?_ q) (fun _ q => q) fun _ _ q => q
    rcases hc with z | z
    · rw [z]; exact nit b u e
    · exact nit c _ z
theorem Inv.tok (I : Inv X pins σ H s) (t : Nat) : Inv X pins σ H { s with toks := t } := I.un (h' := s.heap) (t' := t) Un.refl I.hok
/-- all objects kept -/
theorem Inv.kept {t' : Nat} (I : Inv X pins σ H s) (k : ∀ b u, s.heap.get? b = some u → h'.get? b = some u) : Inv X pins σ H { s with heap := h', toks := t' } := I.un (Un.kept k) (I.hok.kept k)
/-- a new object laid and tracked -/
theorem Inv.laid {a : Addr} {o : HO} {t' : Nat} (I : Inv X pins σ H s) (k : ∀ b u, s.heap.get? b = some u → h'.get? b = some u) (hp : s.heap.objs.size ≤ a) (new : ObjOk X.prog X.w (upd H a o) h' a o) :
    Inv X pins σ (upd H a o) { s with heap := h', toks := t' } := I.un (Un.laid k hp (I.hok.fresh hp)) (I.hok.laid k hp new)
/-- an object written -/
theorem Inv.write {x e : Addr} {o : HO} {t' : Nat} (I : Inv X pins σ H s) (mu : Mut (H x)) (he : e = x ∨ H e = some (.own x)) (k : ∀ b u, b ≠ e → s.heap.get? b = some u → h'.get? b = some u) (heo : ∃ u, h'.get? e = some u)
    (new : ObjOk X.prog X.w (upd H x o) h' x o) : Inv X pins σ (upd H x o) { s with heap := h', toks := t' } := I.un (Un.write mu he k heo) (I.hok.write mu he k heo new)
/-- forgetting slots, pins -/
theorem Inv.weak {σ' : List (Option V)} (I : Inv X pins σ H s) (hl : σ'.length = σ.length) (w : ∀ (i : Nat) v, σ'[i]? = some (some v) → σ[i]? = some (some v)) : Inv X pins σ' H s :=
  ⟨I.ok, I.os, I.bare, I.base, let ⟨m, hn, hl'⟩ := I.loc; ⟨m, hn, fun i x v e1 e2 e3 => hl' i x v e1 (w i v e2) e3⟩, I.cell, I.free, I.freeC, I.pin, I.hok, hl.trans I.len⟩
theorem Inv.pins_of {pins' : List (Addr × Obj)} (I : Inv X pins σ H s) (h : ∀ p ∈ pins', s.heap.get? p.1 = some p.2 ∧ H p.1 = none ∧ p.1 ≠ X.env.locals ∧ p.1 ∉ X.fs ∧ ∀ v, p.2.data ≠ .cell v) : Inv X pins' σ H s :=
  ⟨I.ok, I.os, I.bare, I.base, I.loc, I.cell, I.free, I.freeC, fun p hp => (List.mem_append.mp hp).elim (fun z => I.pin p (List.mem_append_left _ z)) (h p), I.hok, I.len⟩

theorem nodup_ix {N : List Str} (hN : N.Nodup) {i j : Nat} {x : Str} (a : N[i]? = some x) (b : N[j]? = some x) : i = j := by
  obtain ⟨h1, e1⟩ := List.getElem?_eq_some_iff.mp a
  obtain ⟨h2, e2⟩ := List.getElem?_eq_some_iff.mp b
  exact (List.getElem_inj hN).mp (e1.trans e2.symm)

/-- a name is stored; what changed -/
theorem store_ok2 {M : Model} {A : Around} {E : Value → Shared → Prop} {i : Nat} {x : Str} {v : V} {u : Value} {Q : Unit → Shared → Prop} (I : Inv X pins σ H s) (hN : X.N.Nodup) (hi : X.N[i]? = some x) (hx : Loc X.env.scope x) (r : RelV v u)
    (h : ∀ s', Inv X pins (σ.set i (some v)) H s' → (∃ a, Heap.SameBut a s.heap s'.heap ∧ (a = X.env.locals ∨ X.env.cells.lookup x = some a)) → Q () s') (hf : X.fn x = true ∨ X.env.scope.names.lookup x = some .local := by first | exact .inl rfl | exact .inr rfl | assumption) : wpAny M A (storeName X.env x u) Q E s := by
  obtain ⟨m, hn, hl⟩ := id I.loc
  have hcls : (X.env.scope.kind == .class || (X.env.scope.kind == .module && X.env.locals != X.env.globals)) = false := by rw [I.ok.kind]; rfl
  have hiσ : i < σ.length := by rw [I.len]; exact (List.getElem?_eq_some_iff.mp hi).1
  have cne := I.cne
  have tracked : ∀ {a : Addr} {h' : Heap}, (∃ o, s.heap.get? a = some o ∧ H a = none) → Heap.SameBut a s.heap h' → HOk X.prog X.w H h' := fun {a h'} ha hs b ob e => by
    obtain ⟨_, _, hfree⟩ := ha
    refine (I.hok b ob e).stay (fun c w' hc q => (hs.2 c ?_).trans q) (fun _ q => q) fun _ _ q => q
    rintro rfl
    rcases hc with rfl | hc
    · rw [hfree] at e; cases e
    · rw [hfree] at hc; cases hc
  rcases hx with hk | hk
  · refine wpAny_storeName_local hk hn (fun h' hn' hs => ?_) hcls
    obtain ⟨oL, _, _, hoL, _⟩ := id hn
    refine h _ ⟨I.ok, I.os, I.bare, ⟨fun b o e n hb hx => ?_, fun b o e n hb hx => ?_, I.base.free, fun b o e hx => ?_, I.base.tups, I.base.frzs, I.base.tbls⟩, ⟨_, hn', fun j y v' e1 e2 e3 => ?_⟩, fun y c e => ?_, I.free, I.freeC, fun p hp => ?_, tracked ⟨oL, hoL, I.free⟩ hs, by simpa using I.len⟩ ⟨_, hs, .inl rfl⟩
    · exact (hs.2 b (Nat.ne_of_lt (Nat.lt_of_lt_of_le (Heap.lt_size e) I.ok.above))).trans (I.base.keep b o e n hb hx)
    · obtain ⟨sl, e1⟩ := I.base.slot b o e n hb hx
      exact ⟨sl, (hs.2 b (Nat.ne_of_lt (Nat.lt_of_lt_of_le (Heap.lt_size e) I.ok.above))).trans e1⟩
    · obtain ⟨o', e1⟩ := I.base.there b o e hx
      exact ⟨o', (hs.2 b (Nat.ne_of_lt (Nat.lt_of_lt_of_le (Heap.lt_size e) I.ok.above))).trans e1⟩
    · by_cases hj : j = i
      · subst hj
        rw [hi] at e1; cases e1
        rw [List.getElem?_set_self hiσ] at e2
        cases e2
        exact ⟨u, r, .inl ⟨hk, by simp⟩⟩
      · rw [List.getElem?_set_ne (Ne.symm hj)] at e2
        obtain ⟨u', r', q⟩ := hl j y v' e1 e2 e3
        refine ⟨u', r', ?_⟩
        rcases q with ⟨k, e⟩ | ⟨k, c, e, z⟩
        · refine .inl ⟨k, ?_⟩
          have : y ≠ x := fun e => hj (nodup_ix hN e1 (e ▸ hi))
          simp [this, e]
        · exact .inr ⟨k, c, e, z.sameBut hs (cne y c e)⟩
    · obtain ⟨w', z⟩ := I.cell y c e
      exact ⟨w', z.sameBut hs (cne y c e)⟩
    · obtain ⟨e, n, ne, nf, d⟩ := I.pin p hp
      exact ⟨(hs.2 p.1 ne).trans e, n, ne, nf, d⟩
  · have hfn : X.fn x = true := by
      rcases hf with z | z
      · exact z
      · rw [z] at hk; cases hk
    obtain ⟨c, hc⟩ := I.ok.has x (.inl hk)
    obtain ⟨w', z⟩ := I.cell x c hc
    refine wpAny_storeName_cell I.ok.kind hk hc z (fun h' hc' hs => ?_)
    obtain ⟨oc, hoc, hocd⟩ := id z
    refine h { s with heap := h' } ⟨I.ok, I.os, I.bare, ⟨fun b o e n hb hx => ?_, fun b o e n hb hx => ?_, I.base.free, fun b o e hx => ?_, I.base.tups, I.base.frzs, I.base.tbls⟩, ⟨m, hn.sameBut hs (Ne.symm (cne x c hc)), fun j y v' e1 e2 e3 => ?_⟩, fun y c' e => ?_, I.free, I.freeC, fun p hp => ?_, tracked ⟨oc, hoc, I.freeC x c hc⟩ hs, by simpa using I.len⟩ ⟨c, hs, .inr hc⟩
    · exact (hs.2 b (Nat.ne_of_lt (Nat.lt_of_lt_of_le (Heap.lt_size e) (I.ok.cab x c hfn hc)))).trans (I.base.keep b o e n hb hx)
    · obtain ⟨sl, e1⟩ := I.base.slot b o e n hb hx
      exact ⟨sl, (hs.2 b (Nat.ne_of_lt (Nat.lt_of_lt_of_le (Heap.lt_size e) (I.ok.cab x c hfn hc)))).trans e1⟩
    · obtain ⟨o', e1⟩ := I.base.there b o e hx
      exact ⟨o', (hs.2 b (Nat.ne_of_lt (Nat.lt_of_lt_of_le (Heap.lt_size e) (I.ok.cab x c hfn hc)))).trans e1⟩
    · by_cases hj : j = i
      · subst hj
        rw [hi] at e1; cases e1
        rw [List.getElem?_set_self hiσ] at e2
        cases e2
        exact ⟨u, r, .inr ⟨.inl hk, c, hc, hc'⟩⟩
      · rw [List.getElem?_set_ne (Ne.symm hj)] at e2
        obtain ⟨u', r', q⟩ := hl j y v' e1 e2 e3
        refine ⟨u', r', ?_⟩
        rcases q with q | ⟨k, c', e, z'⟩
        · exact .inl q
        · refine .inr ⟨k, c', e, z'.sameBut hs ?_⟩
          rintro rfl
          exact hj (nodup_ix hN e1 (I.ok.inj _ _ _ e hc ▸ hi))
    · by_cases hcc : c' = c
      · subst hcc; exact ⟨_, hc'⟩
      · obtain ⟨w2, z2⟩ := I.cell y c' e
        exact ⟨w2, z2.sameBut hs hcc⟩
    · obtain ⟨e, n, ne, nf, d⟩ := I.pin p hp
      refine ⟨(hs.2 p.1 ?_).trans e, n, ne, nf, d⟩
      intro q
      rw [q, hoc] at e
      have q' : oc = p.2 := Option.some.inj e
      exact d w' (by rw [← q']; exact hocd)
theorem store_ok {M : Model} {A : Around} {E : Value → Shared → Prop} {i : Nat} {x : Str} {v : V} {u : Value} {Q : Unit → Shared → Prop} (I : Inv X pins σ H s) (hN : X.N.Nodup) (hi : X.N[i]? = some x) (hx : Loc X.env.scope x) (r : RelV v u)
    (h : ∀ s', Inv X pins (σ.set i (some v)) H s' → Q () s') (hf : X.fn x = true ∨ X.env.scope.names.lookup x = some .local := by first | exact .inl rfl | exact .inr rfl | assumption) : wpAny M A (storeName X.env x u) Q E s :=
  store_ok2 I hN hi hx r (fun s' I' _ => h s' I') hf
/-- behind a call or a block, the state as it is -/
theorem Inv.call' {s' : Shared} {ch : List Addr} (I : Inv X pins σ H s) (ho : s'.os = s.os) (u : Un (frs X.stack) ch H H' s.heap s'.heap) (hok : HOk X.prog X.w H' s'.heap) (hg : AllBare s'.gens)
    (hch : ∀ b ∈ ch, (b ∈ X.ex ∨ X.s₀.heap.objs.size ≤ b) ∧ b ≠ X.env.locals ∧ (∀ x c, X.env.cells.lookup x = some c → c ≠ b) ∧ ∀ p ∈ X.pn ++ pins, p.1 ≠ b) : Inv X pins σ H' s' := by
  obtain ⟨h', g', d', t', o'⟩ := s'
  have e : o' = s.os := ho
  subst e
  exact I.call (g' := g') (t' := t') (d' := d') u hok hg hch
end

/-! ### the judgements -/
/-- an exception: its class, its own dict's address (where it has one), the abstract heap behind it -/
abbrev XK := Value → Option Addr → Hp → Prop
abbrev St := List (Option V)
abbrev VK := V → Hp → Prop
/-- an expression's reading; a test's; an argument list's -/
abbrev TE := St → Hp → VK → Prop
abbrev TT := St → Hp → (Bool → Hp → Prop) → Prop
abbrev TA := St → Hp → (List V → Hp → Prop) → Prop
/-- what is wanted behind a statement -/
structure Ends where
  nx : St → Hp → Prop
  rt : VK
  bk : St → Hp → Prop := fun _ _ => False
  ct : St → Hp → Prop := fun _ _ => False
abbrev TS := Ends → St → Hp → Prop

def EP (X : Cx) (pins : List (Addr × Obj)) (σ : St) (Q : VK) (u : Value) (s' : Shared) : Prop := ∃ v H', Inv X pins σ H' s' ∧ RelV v u ∧ Q v H'
def TP (X : Cx) (pins : List (Addr × Obj)) (σ : St) (Q : Bool → Hp → Prop) (b : Bool) (s' : Shared) : Prop := ∃ H', Inv X pins σ H' s' ∧ Q b H'
def AP (X : Cx) (pins : List (Addr × Obj)) (σ : St) (Q : List V → Hp → Prop) (us : List Value) (s' : Shared) : Prop := ∃ vs H', Inv X pins σ H' s' ∧ Vals vs us ∧ Q vs H'
def SP (X : Cx) (pins : List (Addr × Obj)) (D : Ends) (f : Flow) (s' : Shared) : Prop :=
  match f with
  | .next => ∃ σ' H', Inv X pins σ' H' s' ∧ D.nx σ' H'
  | .brk => ∃ σ' H', Inv X pins σ' H' s' ∧ D.bk σ' H'
  | .cont => ∃ σ' H', Inv X pins σ' H' s' ∧ D.ct σ' H'
  | .ret u => ∃ v σ' H', Inv X pins σ' H' s' ∧ RelV v u ∧ D.rt v H'

def PE (X : Cx) (e : Expr) (t : TE) : Prop :=
  ∀ (pins : List (Addr × Obj)) (s : Shared) (σ : St) (H : Hp) (Q : VK), Inv X pins σ H s → t σ H Q → wpAny (model X.prog X.w) X.A (eval e X.env) (EP X pins σ Q) X.xe s
def PT (X : Cx) (e : Expr) (t : TT) : Prop :=
  ∀ (pins : List (Addr × Obj)) (s : Shared) (σ : St) (H : Hp) (Q : Bool → Hp → Prop), Inv X pins σ H s → t σ H Q → wpAny (model X.prog X.w) X.A (isTrue e X.env (eval e X.env)) (TP X pins σ Q) X.xe s
/-- a test whatever its 'whole' is (and, or) -/
def PW (X : Cx) (e : Expr) (t : TT) : Prop :=
  ∀ (whole : Sem Value) (pins : List (Addr × Obj)) (s : Shared) (σ : St) (H : Hp) (Q : Bool → Hp → Prop), Inv X pins σ H s → t σ H Q → wpAny (model X.prog X.w) X.A (isTrue e X.env whole) (TP X pins σ Q) X.xe s
theorem PW.pt {X : Cx} {e : Expr} {t : TT} (h : PW X e t) : PT X e t := h _
/-- an argument list (no star), from the left -/
def PA (X : Cx) (es : List Expr) (t : TA) : Prop :=
  ∀ (pos : Pos) (pins : List (Addr × Obj)) (s : Shared) (σ : St) (H : Hp) (Q : List V → Hp → Prop), Inv X pins σ H s → t σ H Q → wpAny (model X.prog X.w) X.A (spliced (backTo pos (starEach es X.env))) (AP X pins σ Q) X.xe s
def PS (X : Cx) (st : Stmt) (t : TS) : Prop :=
  ∀ (pins : List (Addr × Obj)) (s : Shared) (σ : St) (H : Hp) (D : Ends), Inv X pins σ H s → t D σ H → wpAny (model X.prog X.w) X.A (exec st X.env) (SP X pins D) X.xe s
def PSs (X : Cx) (st : List Stmt) (t : TS) : Prop :=
  ∀ (pins : List (Addr × Obj)) (s : Shared) (σ : St) (H : Hp) (D : Ends), Inv X pins σ H s → t D σ H → wpAny (model X.prog X.w) X.A (execs st X.env) (SP X pins D) X.xe s
/-- weaken the end -/
theorem thn {α : Type} {t : Sem α} {Q Q' : α → Shared → Prop} {M : Model} {A : Around} {E : Value → Shared → Prop} {s : Shared} (h : wpAny M A t Q E s) (hQ : ∀ a s, Q a s → Q' a s) : wpAny M A t Q' E s := wpAny_mono h hQ fun _ _ x => x
end L2

namespace L2
open PySem PySem.Spec PyProof.Rows
section
variable {X : Cx}


/-! ### names and constants -/
def tVar (i : Nat) : TE := fun σ H Q => ∃ v, σ[i]? = some (some v) ∧ Q v H
def tC (v : V) : TE := fun _ H Q => Q v H
theorem pe_var {i : Nat} {x : Str} {pos : Pos} (hN : X.N[i]? = some x) (hv : Vis X.env.scope x) (hd : (x == ("__debug__" : Str)) = false := by decide) (hcd : (x == ("__classdict__" : Str)) = false := by decide) : PE X (.Name x pos) (tVar i) := by
  intro pins s σ H Q I h
  obtain ⟨v, e, h⟩ := h
  obtain ⟨m, hn, hl⟩ := I.loc
  obtain ⟨u, r, l⟩ := hl i x v hN e hv
  have fin : EP X pins σ Q u s := ⟨v, H, I, r, h⟩
  rcases l with ⟨hk, hm⟩ | ⟨hk, c, hc, hcell⟩
  · exact wpAny_Name (wpAny_loadName_local I.ok.kind hk hn hm fin) hd
  · rcases hk with hk | hk
    · exact wpAny_Name (wpAny_loadName_cell I.ok.kind hk hc hcell fin) hd
    · exact wpAny_Name (wpAny_loadName_free I.ok.kind hk hc hcell fin hcd) hd
theorem pe_int {i j pos} : PE X (.Constant (.int i) j pos) (tC (.int i)) := fun _ _ _ H _ I h => wpAny_Constant_int ⟨.int i, H, I.tok _, ⟨_, rfl⟩, h⟩
theorem pe_bl {b j pos} : PE X (.Constant (.bool b) j pos) (tC (.bl b)) := fun _ _ _ H _ I h => Constant_bool ⟨.bl b, H, I, rfl, h⟩
theorem pe_non {j pos} : PE X (.Constant .none j pos) (tC .non) := fun _ _ _ H _ I h => Constant_none ⟨.non, H, I, rfl, h⟩
theorem pe_str {x j pos} : PE X (.Constant (.str x) j pos) (tC (.str x)) := fun _ _ _ H _ I h => Calls.Constant_str ⟨.str x, H, I.tok _, ⟨_, rfl⟩, h⟩

/-- a global name of the def -/
def Gl (X : Cx) (x : Str) : Prop := X.env.kindOf x = some .globalImplicit
theorem ld_glob {E : Value → Shared → Prop} {pins : List (Addr × Obj)} {s : Shared} {σ : St} {H : Hp} {x : Str} {u : Value} {pos : Pos} {Q : Value → Shared → Prop} (I : Inv X pins σ H s) (hg : Gl X x) (hm : X.mg x = some u) (h : Q u s)
    (hd : (x == ("__debug__" : Str)) = false := by decide) : wpAny (model X.prog X.w) X.A (eval (.Name x pos) X.env) Q E s :=
  Calls.Name_function_global I.ok.kind hg (Calls.loadGlobal_global (by rw [I.ok.glob]; exact I.mod.glob.keeps I.bk) hm h) hd
theorem ld_blt {E : Value → Shared → Prop} {pins : List (Addr × Obj)} {s : Shared} {σ : St} {H : Hp} {x : Str} {u : Value} {pos : Pos} {Q : Value → Shared → Prop} (I : Inv X pins σ H s) (hg : Gl X x) (hm : X.mg x = none) (hv : bootBuiltins x = some u) (h : Q u s)
    (hn : x ≠ "__name__" := by decide) (hd : (x == ("__debug__" : Str)) = false := by decide) : wpAny (model X.prog X.w) X.A (eval (.Name x pos) X.env) Q E s := by
  obtain ⟨mb, h1, h2⟩ := I.mod.blt
  exact Calls.Name_function_global I.ok.kind hg (Calls.loadGlobal_builtin (by rw [I.ok.glob]; exact I.mod.glob.keeps I.bk) hm (by rw [I.ok.blt]; exact h1.keeps I.bk) ((h2 x hn).trans hv) h) hd
/-- a module's constant, a class, a function, as a value -/
theorem pe_glob {x : Str} {v : V} {u : Value} {pos : Pos} (hg : Gl X x) (hm : X.mg x = some u) (r : RelV v u) (hd : (x == ("__debug__" : Str)) = false := by decide) : PE X (.Name x pos) (tC v) :=
  fun _ _ _ H _ I h => ld_glob I hg hm ⟨v, H, I, r, h⟩ hd

/-! ### arithmetic -/
variable {a b : Expr} {ta tb : TE} {pos : Pos}

/-! ### comparisons -/
/-- a comparison as a value, as a test -/
def tB (t : TE) : TT := fun σ H Q => t σ H fun x H1 => ∃ c, x = .bl c ∧ Q c H1
/-- an expression whose value is a bool, as a test -/
theorem pt_val {e : Expr} {t : TE} (h : PE X e t) (he : ∀ whole, isTrue e X.env whole = (do let v ← whole; standAt e.pos; holding [v] (truthy v)) := by intro _; rfl) : PT X e (tB t) := by
  intro pins s σ H Q I hw
  refine isTrue_plain (thn (h pins s σ H _ I hw) fun v s1 ⟨x, H1, I1, r1, q1⟩ => ?_) (he _)
  obtain ⟨d, rfl, q⟩ := q1
  cases r1
  exact wpAny_truthy_bool ⟨H1, I1, q⟩

/-! ### and, or, not -/
variable {tA tB' : TT} {rest : List Expr}
def tOr (t u : TT) : TT := fun σ H Q => t σ H fun c H1 => if c = true then Q true H1 else u σ H1 Q
def tNot (t : TT) : TT := fun σ H Q => t σ H fun c H1 => Q (!c) H1
theorem pw_or1 (ha : PT X a tA) : PW X (.BoolOp .Or [a] pos) tA := by
  intro wh pins s σ H Q I h
  refine isTrue_or (thn (ha pins s σ H Q I h) fun c s1 e => ?_)
  cases c with
  | false => exact isTrue_or_nil e
  | true => exact e
theorem pw_or (ha : PT X a tA) (hb : PW X (.BoolOp .Or (b :: rest) pos) tB') : PW X (.BoolOp .Or (a :: b :: rest) pos) (tOr tA tB') := by
  intro wh pins s σ H Q I h
  refine isTrue_or (thn (ha pins s σ H _ I h) fun c s1 ⟨H1, I1, q1⟩ => ?_)
  cases c with
  | true => exact ⟨H1, I1, q1⟩
  | false => exact hb wh pins s1 σ H1 Q I1 q1
theorem pt_not (ha : PT X a tA) : PT X (.UnaryOp .Not a pos) (tNot tA) := by
  intro pins s σ H Q I h
  exact isTrue_not (ha pins s σ H (fun c H1 => Q (!c) H1) I h)
/-- .. as values (bools) -/
def tAndV (ta tb : TE) : TE := fun σ H Q => ta σ H fun x H1 => ∃ c, x = .bl c ∧ if c = true then tb σ H1 Q else Q (.bl false) H1
def tNotV (ta : TE) : TE := fun σ H Q => ta σ H fun x H1 => ∃ c, x = .bl c ∧ Q (.bl (!c)) H1
theorem pe_one {op} {t : TE} (h : PE X a t) : PE X (.BoolOp op [a] pos) t := fun pins s σ H Q I hw => BoolOp_one (h pins s σ H Q I hw)
theorem pe_and (ha : PE X a ta) (hb : PE X (.BoolOp .And (b :: rest) pos) tb) : PE X (.BoolOp .And (a :: b :: rest) pos) (tAndV ta tb) := by
  intro pins s σ H Q I h
  refine BoolOp_and (thn (ha pins s σ H _ I h) fun v s1 ⟨x, H1, I1, r1, q1⟩ => ?_)
  obtain ⟨c, rfl, q1⟩ := q1
  cases r1
  refine wpAny_truthy_bool ?_
  cases c with
  | true => exact hb pins s1 σ H1 Q I1 q1
  | false => exact ⟨.bl false, H1, I1, rfl, q1⟩
theorem pe_not (ha : PE X a ta) : PE X (.UnaryOp .Not a pos) (tNotV ta) := by
  intro pins s σ H Q I h
  refine UnaryOp_ (thn (ha pins s σ H _ I h) fun v s1 ⟨x, H1, I1, r1, q1⟩ => ?_)
  obtain ⟨c, rfl, q1⟩ := q1
  cases r1
  exact not_of (wpAny_truthy_bool ⟨.bl (!c), H1, I1, rfl, q1⟩)
/-- a if t else b -/
def tIf (t : TT) (ta tb : TE) : TE := fun σ H Q => t σ H fun c H1 => if c = true then ta σ H1 Q else tb σ H1 Q
theorem pe_ifExp {c : Expr} (hc : PT X c tA) (ha : PE X a ta) (hb : PE X b tb) : PE X (.IfExp c a b pos) (tIf tA ta tb) := by
  intro pins s σ H Q I h
  refine wpAny_IfExp (thn (hc pins s σ H _ I h) fun d s1 ⟨H1, I1, q1⟩ => ?_)
  cases d with
  | true => exact ha pins s1 σ H1 Q I1 q1
  | false => exact hb pins s1 σ H1 Q I1 q1
end
end L2

namespace L2
open PySem PySem.Spec PyProof.Rows

/-! ### a list, a tuple that is read: tracked, frozen, or an object of the module -/
def SqL (K : PySem.W.Frag) (H : Hp) (a : Addr) (xs : List V) : Prop :=
  Rd H a (.lst xs) ∨
    ∃ (o : Obj) (its : Array Value) (n : Nat), K.lookup a = some o ∧ o.cls = .type "list" ∧ o.dict = none ∧ o.data = .seq its n ∧ its.size ≤ sizeLine ∧ Vals xs its.toList
def SqT (K : PySem.W.Frag) (H : Hp) (a : Addr) (xs : List V) : Prop :=
  Rd H a (.tup xs) ∨
    ∃ (o : Obj) (its : Array Value) (n : Nat), K.lookup a = some o ∧ o.cls = .type "tuple" ∧ o.data = .seq its n ∧ its.size ≤ sizeLine ∧ Vals xs its.toList
def absV : Value → Option V
  | .none => some .non
  | .bool b => some (.bl b)
  | .int i _ => some (.int i)
  | .str x _ => some (.str x)
  | .bytes b _ => some (.byt b)
  | .float b _ => some (.flt b)
  | .ref a => some (.ref a)
  | .type n => some (.ty n)
  | _ => none
theorem RelV.abs {x : V} {u : Value} (r : RelV x u) : absV u = some x := by
  cases x with
  | non => cases r; rfl
  | bl _ => cases r; rfl
  | int _ => obtain ⟨t, rfl⟩ := r; rfl
  | str _ => obtain ⟨t, rfl⟩ := r; rfl
  | byt _ => obtain ⟨t, rfl⟩ := r; rfl
  | flt _ => obtain ⟨t, rfl⟩ := r; rfl
  | ref _ => cases r; rfl
  | ty _ => cases r; rfl
theorem RelV.inj {x y : V} {u : Value} (r : RelV x u) (q : RelV y u) : x = y := Option.some.inj (r.abs.symm.trans q.abs)
theorem Vals.inj : ∀ {xs ys : List V} {us : List Value}, Vals xs us → Vals ys us → xs = ys
  | _, _, _, .nil, .nil => rfl
  | _, _, _, .cons r t, .cons r' t' => by rw [r.inj r', Vals.inj t t']
section
variable {X : Cx} {pins : List (Addr × Obj)} {σ : St} {H : Hp} {s : Shared} {a : Addr} {xs ys : List V}
theorem SqL.of {K : PySem.W.Frag} (h : H a = some (.lst xs)) : SqL K H a xs := .inl (.inl h)
theorem SqT.of {K : PySem.W.Frag} (h : H a = some (.tup xs)) : SqT K H a xs := .inl (.inl h)
theorem Inv.list (I : Inv X pins σ H s) (h : SqL X.K H a xs) : ∃ its : List Value, Vals xs its ∧ PlainL s.heap a its.toArray ∧ xs.length ≤ sizeLine := by
  rcases h with h | ⟨o, its, n, hk, hc, hd, hs, hz, r⟩
  · obtain ⟨z, its, n, r, e⟩ := h.ok I.hok
    exact ⟨its, r, ⟨_, n, e, rfl, rfl, rfl⟩, z⟩
  · refine ⟨its.toList, r, ⟨o, n, I.kIn a o hk, hc, hd, by simpa using hs⟩, ?_⟩
    have e := r.length
    simp only [Array.length_toList] at e
    omega
theorem Inv.tuple (I : Inv X pins σ H s) (h : SqT X.K H a xs) : ∃ its : List Value, Vals xs its ∧ IsTup s.heap a its.toArray ∧ xs.length ≤ sizeLine := by
  rcases h with h | ⟨o, its, n, hk, hc, hs, hz, r⟩
  · obtain ⟨z, its, r, p⟩ := h.ok I.hok
    exact ⟨its, r, p, z⟩
  · refine ⟨its.toList, r, ⟨o, I.kIn a o hk, hc, n, by simpa using hs⟩, ?_⟩
    have e := r.length
    simp only [Array.length_toList] at e
    omega
theorem Inv.list_inj (I : Inv X pins σ H s) (h : SqL X.K H a xs) (h' : SqL X.K H a ys) : xs = ys := by
  obtain ⟨its, r, ⟨o, n, e, _, _, d⟩, _⟩ := I.list h
  obtain ⟨its', r', ⟨o', n', e', _, _, d'⟩, _⟩ := I.list h'
  rw [e] at e'; cases e'
  rw [d] at d'
  injection d' with d1 _
  have : its = its' := by simpa using congrArg Array.toList d1
  subst this
  exact r.inj r'
end

/-! ### another wish about exceptions -/
abbrev Cx.wish (X : Cx) (E : Value → Shared → Prop) : Cx := { X with xe := E }
/-- no exception leaves -/
abbrev Cx.nox (X : Cx) : Cx := X.wish fun _ _ => False
theorem Cx.Ok.wish {X : Cx} (ok : X.Ok) (E : Value → Shared → Prop) : (X.wish E).Ok :=
  ⟨ok.mod, ok.kind, ok.glob, ok.blt, ok.above, ok.inj, ok.has, ok.cab, ok.hd, ok.frames, ok.stk, ok.exf, ok.bs, ok.bsz, ok.noex, ok.exfs, ok.funs, ok.frf⟩
theorem Cx.Ok.unwish {X : Cx} {E : Value → Shared → Prop} (ok : (X.wish E).Ok) : X.Ok :=
  ⟨ok.mod, ok.kind, ok.glob, ok.blt, ok.above, ok.inj, ok.has, ok.cab, ok.hd, ok.frames, ok.stk, ok.exf, ok.bs, ok.bsz, ok.noex, ok.exfs, ok.funs, ok.frf⟩
section
variable {X : Cx} {pins : List (Addr × Obj)} {σ : St} {H : Hp} {s : Shared} {E : Value → Shared → Prop}
theorem Inv.wish (I : Inv X pins σ H s) (E : Value → Shared → Prop) : Inv (X.wish E) pins σ H s := ⟨I.ok.wish E, I.os, I.bare, I.base, I.loc, I.cell, I.free, I.freeC, I.pin, I.hok, I.len⟩
theorem Inv.unwish (I : Inv (X.wish E) pins σ H s) : Inv X pins σ H s := ⟨I.ok.unwish, I.os, I.bare, I.base, I.loc, I.cell, I.free, I.freeC, I.pin, I.hok, I.len⟩
theorem SP.unwish {D : Ends} {f : Flow} {s' : Shared} (h : SP (X.wish E) pins D f s') : SP X pins D f s' := by
  cases f with
  | next => obtain ⟨σ', H', I, q⟩ := h; exact ⟨σ', H', I.unwish, q⟩
  | brk => obtain ⟨σ', H', I, q⟩ := h; exact ⟨σ', H', I.unwish, q⟩
  | cont => obtain ⟨σ', H', I, q⟩ := h; exact ⟨σ', H', I.unwish, q⟩
  | ret u => obtain ⟨v, σ', H', I, r, q⟩ := h; exact ⟨v, σ', H', I.unwish, r, q⟩
theorem PSs.nox {st : List Stmt} {t : TS} (h : PSs X.nox st t) : PSs X st t := fun pins s σ H D I hw =>
  wpAny_mono (h pins s σ H D (I.wish _) hw) (fun _ _ q => q.unwish) fun _ _ z => False.elim z
end

/-! ### blocks and small statements -/
section
variable {X : Cx} {st : Stmt} {rest : List Stmt} {t u : TS} {e : Expr} {te : TE} {pos : Pos}
def tNext : TS := fun D σ H => D.nx σ H
def tSeq (t u : TS) : TS := fun D σ H => t { D with nx := u D } σ H
theorem pss_nil : PSs X [] tNext := fun _ _ σ H _ I h => wpAny_execs_nil ⟨σ, H, I, h⟩
theorem pss_cons (h1 : PS X st t) (h2 : PSs X rest u) : PSs X (st :: rest) (tSeq t u) := by
  intro pins s σ H D I h
  refine wpAny_execs_cons (thn (h1 pins s σ H { D with nx := u D } I h) fun f s1 q => ?_)
  cases f with
  | next =>
    obtain ⟨σ', H', I', q⟩ := q
    exact h2 pins s1 σ' H' D I' q
  | ret v => exact q
  | brk => exact q
  | cont => exact q
theorem pss_one (h1 : PS X st t) : PSs X [st] t := by
  intro pins s σ H D I h
  refine wpAny_execs_cons (thn (h1 pins s σ H D I h) fun f s1 q => ?_)
  cases f with
  | next => exact wpAny_execs_nil q
  | ret v => exact q
  | brk => exact q
  | cont => exact q
/-- in a def's body nothing is shown -/
theorem Inv.quiet {pins : List (Addr × Obj)} {σ : St} {H : Hp} {s : Shared} (I : Inv X pins σ H s) : interactive X.env = false := by simp [interactive, I.ok.kind]
/-- an expression whose value is dropped -/
def tDrop (te : TE) : TS := fun D σ H => te σ H fun _ H1 => D.nx σ H1
theorem ps_expr (he : PE X e te) (hs : swapsWith e none pos.line X.env = pure false := by rfl) : PS X (.Expr e pos) (tDrop te) := by
  intro pins s σ H D I h
  exact wpAny_Expr_any (thn (he pins s σ H _ I h) fun v s1 ⟨x, H1, I1, r1, q1⟩ => ⟨σ, H1, I1, q1⟩) I.quiet hs
def tRet (te : TE) : TS := fun D σ H => te σ H D.rt
theorem ps_ret (he : PE X e te) : PS X (.Return (some e) pos) (tRet te) := by
  intro pins s σ H D I h
  exact wpAny_Return_some (thn (he pins s σ H _ I h) fun v s1 ⟨x, H1, I1, r1, q1⟩ => ⟨x, σ, H1, I1, r1, q1⟩)
def tIfS (c : TT) (t u : TS) : TS := fun D σ H => c σ H fun b H1 => if b = true then t D σ H1 else u D σ H1
theorem ps_if {c : Expr} {a b : List Stmt} {tc : TT} (hc : PT X c tc) (ha : PSs X a t) (hb : PSs X b u) : PS X (.If c a b pos) (tIfS tc t u) := by
  intro pins s σ H D I h
  refine wpAny_If (thn (hc pins s σ H _ I h) fun d s1 ⟨H1, I1, q1⟩ => ?_)
  cases d with
  | true => exact ha pins s1 σ H1 D I1 q1
  | false => exact hb pins s1 σ H1 D I1 q1
/-- code that the proof never comes to -/
def tNever : TS := fun _ _ _ => False
theorem pss_never {sts : List Stmt} : PSs X sts tNever := fun _ _ _ _ _ _ h => h.elim
end

/-! ### targets -/
abbrev TG := V → St → Hp → (St → Hp → Prop) → Prop
def PG (X : Cx) (target : Expr) (t : TG) : Prop :=
  ∀ (pins : List (Addr × Obj)) (s : Shared) (σ : St) (H : Hp) (v : V) (u : Value) (Q : St → Hp → Prop), Inv X pins σ H s → RelV v u → t v σ H Q →
    wpAny (model X.prog X.w) X.A (assign target X.env u) (fun _ s' => ∃ σ' H', Inv X pins σ' H' s' ∧ Q σ' H') X.xe s
/-- o[i] = v, by values -/
abbrev TSet := V → V → V → Hp → (Hp → Prop) → Prop
def PSet (X : Cx) (t : TSet) : Prop :=
  ∀ (pins : List (Addr × Obj)) (s : Shared) (σ : St) (H : Hp) (o i v : V) (ov iv u : Value) (Q : Hp → Prop), Inv X pins σ H s → RelV o ov → RelV i iv → RelV v u → t o i v H Q →
    wpAny (model X.prog X.w) X.A (setItem ov iv u) (fun _ s' => ∃ H', Inv X pins σ H' s' ∧ Q H') X.xe s
section
variable {X : Cx} {pos : Pos}
def gName (i : Nat) : TG := fun v σ H Q => Q (σ.set i (some v)) H
theorem pg_name {i : Nat} {x : Str} (hN : X.N.Nodup) (hi : X.N[i]? = some x) (hx : Loc X.env.scope x) (hf : X.fn x = true ∨ X.env.scope.names.lookup x = some .local := by first | exact .inl rfl | exact .inr rfl | assumption) : PG X (.Name x pos) (gName i) := by
  intro pins s σ H v u Q I r h
  exact wpAny_assign_Name (store_ok I hN hi hx r (fun s' I' => ⟨_, H, I', h⟩) hf)
/-- o[i] = .. -/
def gSub (to ti : TE) (t : TSet) : TG := fun v σ H Q => to σ H fun o H1 => ti σ H1 fun i H2 => t o i v H2 fun H3 => Q σ H3
theorem pg_sub {o i : Expr} {to ti : TE} {t : TSet} (ho : PE X o to) (hi : PE X i ti) (hs : PSet X t)
    (ha : ∀ v, assign (.Subscript o i pos) X.env v = (do
      let ov ← holding [v] (eval o X.env)
      let iv ← holding [v, ov] (eval i X.env)
      standAt pos
      holding [v, ov, iv] (setItem ov iv v)
      release [v, ov, iv] []) := by intro _; rfl) : PG X (.Subscript o i pos) (gSub to ti t) := by
  intro pins s σ H v u Q I r h
  rw [ha]
  refine wpAny_bind (wpAny_holding (thn (ho pins s σ H _ I h) fun ov s1 ⟨x, H1, I1, r1, q1⟩ => ?_))
  refine wpAny_bind (wpAny_holding (thn (hi pins s1 σ H1 _ I1 q1) fun iv s2 ⟨y, H2, I2, r2, q2⟩ => ?_))
  refine wpAny_bind (wpAny_standAt (wpAny_bind (wpAny_holding (thn (hs pins s2 σ H2 x y v ov iv u _ I2 r1 r2 r q2) fun _ s3 ⟨H3, I3, q3⟩ => ?_))))
  exact wpAny_release ⟨σ, H3, I3, q3⟩
/-- target = value -/
def tAsg (te : TE) (g : TG) : TS := fun D σ H => te σ H fun x H1 => g x σ H1 D.nx
theorem ps_asg {tg e : Expr} {te : TE} {g : TG} (he : PE X e te) (hg : PG X tg g) (hs : swapsWithSole [tg] e pos.line X.env = pure false := by rfl) (hw : swappedStores [tg] e X.env = pure none := by rfl)
    (h1 : (assignEach [tg] X.env).map (·.2) = [assign tg X.env] := by rfl) : PS X (.Assign [tg] e pos) (tAsg te g) := by
  intro pins s σ H D I h
  refine wpAny_Assign_stores (thn (he pins s σ H _ I h) fun v s1 ⟨x, H1, I1, r1, q1⟩ => ?_) hs hw
  rw [h1]
  exact thn (hg pins s1 σ H1 x v _ I1 r1 q1) fun _ s2 q => q
/-- name = value -/
theorem ps_set {i : Nat} {x : Str} {e : Expr} {te : TE} {pos' : Pos} (hN : X.N.Nodup) (hi : X.N[i]? = some x) (hx : Loc X.env.scope x) (he : PE X e te) (hs : swapsWith e (some (.Name x pos')) pos.line X.env = pure false := by rfl) (hf : X.fn x = true ∨ X.env.scope.names.lookup x = some .local := by first | exact .inl rfl | exact .inr rfl | assumption) :
    PS X (.Assign [.Name x pos'] e pos) (tAsg te (gName i)) := by
  intro pins s σ H D I h
  refine wpAny_Assign_Name (thn (he pins s σ H _ I h) fun v s1 ⟨y, H1, I1, r1, q1⟩ => ?_) hs
  exact store_ok I1 hN hi hx r1 (fun s2 I2 => ⟨_, H1, I2, q1⟩) hf
end

/-! ### while -/
section
variable {X : Cx} {pos : Pos}
end

/-! ### what a loop or a comprehension walks -/
/-- at turn i: it yields x (the heap may grow), or it stops -/
structure It where
  go : Nat → Hp → Prop
  yld : Nat → Hp → V → Hp → Prop
  stop : Nat → Hp → Prop
/-- the iterator's own objects may turn: they are not the frame's, not pinned, younger than the entry (or a comprehension's own) -/
def FpOk (X : Cx) (pins : List (Addr × Obj)) (H : Hp) (b : Addr) : Prop :=
  H b = none ∧ b ≠ X.env.locals ∧ b ∉ X.fs ∧ (b ∈ X.ex ∨ X.s₀.heap.objs.size ≤ b) ∧ (∀ x c, X.env.cells.lookup x = some c → c ≠ b) ∧ ∀ p ∈ X.pn ++ pins, p.1 ≠ b
theorem Inv.fpOk {X : Cx} {pins : List (Addr × Obj)} {σ : St} {H H' : Hp} {s : Shared} {b : Addr} (I : Inv X pins σ H s) (hb : s.heap.objs.size ≤ b) (hn : H' b = none) : FpOk X pins H' b := by
  refine ⟨hn, Nat.ne_of_gt (Nat.lt_of_lt_of_le I.lt hb), I.nofs hb, .inr (Nat.le_trans I.sz hb), fun x c e z => ?_, fun p hp z => ?_⟩
  · obtain ⟨v, q⟩ := I.cell x c e
    exact absurd (Nat.lt_of_lt_of_le q.lt (by rw [z]; exact hb)) (Nat.lt_irrefl _)
  · exact absurd (Nat.lt_of_lt_of_le (Heap.lt_size (I.pin p hp).1) (by rw [z]; exact hb)) (Nat.lt_irrefl _)
structure Turn (P : Program) (w : World) (K : PySem.W.Frag) (tg : Expr) (J : It) (fp : List Addr) (it : Addr) (tn : Nat → Heap → Prop) : Prop where
  mem : it ∈ fp
  obj : ∀ i h, tn i h → ∀ b ∈ fp, ∃ o, h.get? b = some o ∧ ∀ v, o.data ≠ .cell v
  keep : ∀ i h h', tn i h → (∀ b ∈ fp, ∀ o, h.get? b = some o → h'.get? b = some o) → tn i h'
  item : ∀ (X : Cx), X.prog = P → X.w = w → X.K = K → X.calm = true → ∀ (i : Nat) (pins : List (Addr × Obj)) (s : Shared) (σ : St) (H : Hp) (E : Value → Shared → Prop), Inv X pins σ H s → (∀ b ∈ fp, FpOk X pins H b) → tn i s.heap → J.go i H →
    wpAny (model P w) X.A (pyNext (.ref it)) (fun r s1 => ∃ u, r = some u ∧
      wpAny (model P w) X.A (letOwnedTupleGo tg (.ref it) u) (fun _ s2 => ∃ x H', Inv X pins σ H' s2 ∧ RelV x u ∧ J.yld i H x H' ∧ tn (i + 1) s2.heap ∧ ∀ b ∈ fp, H' b = none) E s1) E s
  done : ∀ (X : Cx), X.prog = P → X.w = w → X.K = K → X.calm = true → ∀ (i : Nat) (pins : List (Addr × Obj)) (s : Shared) (σ : St) (H : Hp) (E : Value → Shared → Prop), Inv X pins σ H s → (∀ b ∈ fp, FpOk X pins H b) → tn i s.heap → J.stop i H →
    wpAny (model P w) X.A (pyNext (.ref it)) (fun r s1 => r = none ∧ Inv X pins σ H s1) E s
  self : ∀ (A : Around) (i : Nat) (s : Shared) (Q : Value → Shared → Prop) (E : Value → Shared → Prop), tn i s.heap → Q (.ref it) s → wpAny (model P w) A (pyIter (.ref it)) Q E s
abbrev TI := St → Hp → (It → Hp → Prop) → Prop
/-- an iterator has come -/
def PIE (X : Cx) (pins : List (Addr × Obj)) (σ : St) (tg : Expr) (R : It → Hp → Prop) (itv : Value) (s2 : Shared) : Prop :=
  ∃ (it : Addr) (fp : List Addr) (tn : Nat → Heap → Prop) (J : It) (H' : Hp), itv = .ref it ∧ Inv X pins σ H' s2 ∧ Turn X.prog X.w X.K tg J fp it tn ∧ tn 0 s2.heap ∧ (∀ b ∈ fp, FpOk X pins H' b) ∧ R J H'
def PI (X : Cx) (tg iter : Expr) (wi : TI) : Prop :=
  ∀ (pins : List (Addr × Obj)) (s : Shared) (σ : St) (H : Hp) (R : It → Hp → Prop), Inv X pins σ H s → wi σ H R →
    wpAny (model X.prog X.w) X.A (eval iter X.env) (fun v s1 => wpAny (model X.prog X.w) X.A (pyIter v) (PIE X pins σ tg R) X.xe s1) X.xe s

/-- the step ahead of the store is nothing for an iterator that keeps no tuple -/
theorem go_of {M : Model} {A : Around} {E : Value → Shared → Prop} {s : Shared} {tg : Expr} {it : Addr} {u : Value} {o : Obj} {n : String} {vs : Array Value} {Q : Unit → Shared → Prop} (ho : s.heap.get? it = some o) (hc : o.cls = .type n) (hd : o.data = .fields vs)
    (hn : ["enumerate", "zip", "dict_itemiterator", "dict_reverseitemiterator", "odict_iterator", "itertools.zip_longest", "itertools.pairwise"].contains n = false) (hQ : Q () s) : wpAny M A (letOwnedTupleGo tg (.ref it) u) Q E s := by
  unfold letOwnedTupleGo
  cases tg <;> first
    | exact wpAny_pure hQ
    | (cases u <;> first
        | exact wpAny_pure hQ
        | (refine wpAny_bind (wpAny_load ho ?_)
           rw [hc, hd]
           show wpAny M A (if (["enumerate", "zip", "dict_itemiterator", "dict_reverseitemiterator", "odict_iterator", "itertools.zip_longest", "itertools.pairwise"].contains n && vs[0]? == some (rawInt _)) = true then _ else _) Q E s
           rw [if_neg (by intro h; rw [hn, Bool.false_and] at h; cases h)]
           exact wpAny_pure hQ))

/-- the list at a, as it stands at each turn (a loop may append to it) -/
def Itl (K : PySem.W.Frag) (a : Addr) : It :=
  ⟨fun i H => ∃ xs x, SqL K H a xs ∧ xs[i]? = some x, fun i H x H' => H' = H ∧ ∀ xs, SqL K H a xs → xs[i]? = some x, fun i H => ∃ xs, SqL K H a xs ∧ xs.length ≤ i⟩
/-- lo, lo + 1, .. (n of them) -/
def Itr (lo : Int) (n : Nat) : It := ⟨fun i _ => i < n, fun i H x H' => H' = H ∧ x = .int (lo + i), fun i _ => n ≤ i⟩
theorem turn_list {P : Program} {w : World} {K : PySem.W.Frag} {tg : Expr} (a it : Addr) : Turn P w K tg (Itl K a) [it] it (fun i h => h.IsListIter it a i) where
  mem := by simp
  obj := fun i h st b hb => by
    have e : b = it := by simpa using hb
    subst e
    obtain ⟨o, e, c, d⟩ := st
    exact ⟨o, e, fun v z => by rw [d] at z; cases z⟩
  keep := fun i h h' st k => st.at fun o e => k it (by simp) o e
  item := by
    intro X hP hw hK hc i pins s σ H E I hf st hg
    subst hP hw hK
    obtain ⟨xs, x, hq, hx⟩ := hg
    obtain ⟨its, rv, p, hz⟩ := I.list hq
    obtain ⟨u, hu, ru⟩ := rv.get hx
    obtain ⟨f0, f1, f2, f3, f4, f5⟩ := hf it (by simp)
    refine wpAny_pyNext_list_item st p.isList (x := u) (by simpa using hu) fun h' st' sb => ?_
    have I1 : Inv X pins σ H { s with heap := h' } := I.turned (t' := s.toks) (fun b o hb e => (sb.2 b hb).trans e) f0 f1 f3 f4 f5
    obtain ⟨o, e, c, d⟩ := id st'
    exact ⟨u, rfl, go_of (s := { s with heap := h' }) e c d (by decide) ⟨x, H, I1, ru, ⟨rfl, fun ys hy => by rw [I.list_inj hy hq]; exact hx⟩, st', fun b hb => (hf b hb).1⟩⟩
  done := by
    intro X hP hw hK hc i pins s σ H E I hf st hg
    subst hP hw hK
    obtain ⟨xs, hq, hx⟩ := hg
    obtain ⟨its, rv, p, hz⟩ := I.list hq
    obtain ⟨f0, f1, f2, f3, f4, f5⟩ := hf it (by simp)
    have hl := rv.length
    exact wpAny_pyNext_list_end (I.ok.hd hc) st p.isList (by simp; omega) fun h' eb => ⟨rfl, I.turned (t' := s.toks) (fun b o hb e => eb b o hb e) f0 f1 f3 f4 f5⟩
  self := fun _ _ _ _ _ st h => wpAny_pyIter_listiter st h
theorem turn_range {P : Program} {w : World} {K : PySem.W.Frag} {tg : Expr} (it : Addr) (lo : Int) (n : Nat) : Turn P w K tg (Itr lo n) [it] it (fun i h => IsRangeIter h it (lo + (i : Nat) * 1) ((n : Int) - (i : Nat)) 1) where
  mem := by simp
  obj := fun i h st b hb => by
    have e : b = it := by simpa using hb
    subst e
    exact ⟨_, st, fun v z => by
      have z' : Data.fields _ = Data.cell v := z
      cases z'⟩
  keep := fun i h h' st k => k it (by simp) _ st
  item := by
    intro X hP hw hK hc i pins s σ H E I hf st hg
    subst hP hw hK
    obtain ⟨f0, f1, f2, f3, f4, f5⟩ := hf it (by simp)
    have W := Walks.range (prog := X.prog) (w := X.w) (I.ok.hd hc) it lo 1 n
    refine W.item i s _ _ hg st fun v h' tk hv st' kk => ?_
    obtain ⟨t, rfl⟩ := hv
    have I1 : Inv X pins σ H { s with heap := h', toks := tk } := I.turned (fun b o hb e => kk b o (by simpa using hb) e) f0 f1 f3 f4 f5
    refine ⟨_, rfl, go_of (s := { s with heap := h', toks := tk }) (n := "range_iterator") st' rfl rfl (by decide) ⟨.int (lo + i), H, I1, ⟨t, ?_⟩, ⟨rfl, rfl⟩, st', fun b hb => (hf b hb).1⟩⟩
    rw [Int.mul_one]
  done := by
    intro X hP hw hK hc i pins s σ H E I hf st hg
    subst hP hw hK
    obtain ⟨f0, f1, f2, f3, f4, f5⟩ := hf it (by simp)
    exact wpAny_pyNext_range_end (I.ok.hd hc) st (by have : n ≤ i := hg; omega) fun h' eb => ⟨rfl, I.turned (t' := s.toks) (fun b o hb e => eb b o hb e) f0 f1 f3 f4 f5⟩
  self := fun _ _ _ _ _ st h => wpAny_pyIter_rangeiter st h
end L2

namespace L2
open PySem PySem.Spec PyProof.Rows
section
variable {X : Cx} {tg : Expr}
def iList (K : PySem.W.Frag) (tl : TE) : TI := fun σ H R => tl σ H fun x H1 => ∃ a, x = .ref a ∧ (∃ xs, SqL K H1 a xs) ∧ R (Itl K a) H1
theorem pi_list {l : Expr} {tl : TE} (hl : PE X l tl) : PI X tg l (iList X.K tl) := by
  intro pins s σ H R I h
  refine thn (hl pins s σ H _ I h) fun v s1 ⟨x, H1, I1, r1, q1⟩ => ?_
  obtain ⟨a, e, ⟨xs, hq⟩, q⟩ := q1
  subst e
  cases r1
  obtain ⟨its, rv, p, hz⟩ := I1.list hq
  refine wpAny_pyIter_list p.isList ?_
  refine ⟨s1.heap.objs.size, [s1.heap.objs.size], _, _, H1, rfl, I1.kept (t' := s1.toks) fun b o e => Heap.get?_push_of_some _ e, turn_list a _, ⟨_, Heap.get?_push_size _ rfl, rfl, rfl⟩, fun b hb => ?_, q⟩
  have e : b = s1.heap.objs.size := by simpa using hb
  subst e
  exact I1.fpOk (Nat.le_refl _) (I1.hok.fresh (Nat.le_refl _))
/-- a range object just made, walked -/
theorem range_it {pins : List (Addr × Obj)} {σ : St} {H : Hp} {s : Shared} {R : It → Hp → Prop} {E : Value → Shared → Prop} {lo hi : Int} {t u v : Tok} {tk : Nat} (I : Inv X pins σ H s) (h1 : -(2 ^ 62) ≤ lo) (h2 : lo < 2 ^ 62) (h3 : -(2 ^ 62) ≤ hi) (h4 : hi < 2 ^ 62)
    (q : R (Itr lo (hi - lo).toNat) H) : wpAny (model X.prog X.w) X.A (pyIter (.ref s.heap.objs.size)) (PIE X pins σ tg R) E { s with heap := s.heap.push { cls := .type "range", data := .fields #[.int lo t, .int hi u, .int 1 v] }, toks := tk } := by
  refine wpAny_pyIter_range (IsRange.new ..) (small_one h1 h2 h3 h4) ?_
  have I1 : Inv X pins σ H { s with heap := s.heap.push { cls := .type "range", data := .fields #[.int lo t, .int hi u, .int 1 v] }, toks := tk } := I.kept fun b o e => Heap.get?_push_of_some _ e
  refine ⟨(s.heap.push { cls := .type "range", data := .fields #[.int lo t, .int hi u, .int 1 v] }).objs.size, [(s.heap.push { cls := .type "range", data := .fields #[.int lo t, .int hi u, .int 1 v] }).objs.size], _, _, H, rfl,
    I1.kept (t' := tk) fun b o e => Heap.get?_push_of_some _ e, turn_range _ lo (hi - lo).toNat, ?_, fun b hb => ?_, q⟩
  · have e1 : lo + ((0 : Nat) : Int) * 1 = lo := by simp
    have e2 : (((hi - lo).toNat : Nat) : Int) - ((0 : Nat) : Int) = Builtin.Range.rangeSize lo hi 1 := by rw [rangeSize_one]; split <;> omega
    show IsRangeIter _ _ (lo + ((0 : Nat) : Int) * 1) ((((hi - lo).toNat : Nat) : Int) - ((0 : Nat) : Int)) 1
    rw [e1, e2]
    exact Heap.get?_push_size _ rfl
  · have e : b = (s.heap.push { cls := .type "range", data := .fields #[.int lo t, .int hi u, .int 1 v] }).objs.size := by simpa using hb
    subst e
    exact I1.fpOk (Nat.le_refl _) (I1.hok.fresh (Nat.le_refl _))
def iRng1 (ta : TA) : TI := fun σ H R => ta σ H fun vs H1 => ∃ j : Int, vs = [.int j] ∧ -(2 ^ 62) ≤ j ∧ j < 2 ^ 62 ∧ R (Itr 0 j.toNat) H1
theorem pi_range1 {a : Expr} {ta : TA} {p pos : Pos} (hg : Gl X "range") (hm : X.mg "range" = none) (ha : PA X [a] ta) (hs : starEach [a] X.env = [(false, eval a X.env)] := by rfl) : PI X tg (.Call (.Name "range" p) [a] [] pos) (iRng1 ta) := by
  intro pins s σ H R I h
  refine Call_ (ld_blt I hg hm boot_range (PyProof.Rows.callWith_type1 (thn (ha pos pins s σ H _ I h) fun us s1 ⟨vs, H1, I1, r1, q1⟩ => ?_) hs rfl))
  obtain ⟨j, e, q1, q2, q⟩ := q1
  subst e
  cases r1 with
  | cons r rr =>
    cases rr
    obtain ⟨t, rfl⟩ := r
    exact call_range_1 (range_it I1 (by omega) (by omega) q1 q2 (by simpa using q))

/-! ### for -/
/-- W: the invariant by the turn and a measure; N: what the body is to reach -/
def tFor (wi : TI) (g : TG) (tb : TS) : TS := fun D σ H => wi σ H fun J H1 => ∃ W : Nat → Nat → St → Hp → Prop, (∃ m, W 0 m σ H1) ∧ ∀ i m σ H, W i m σ H →
  (J.stop i H ∧ D.nx σ H) ∨ (J.go i H ∧ ∃ N : St → Hp → Prop, (∀ σ' H', N σ' H' → ∃ m', m' < m ∧ W (i + 1) m' σ' H') ∧ ∀ x H', J.yld i H x H' → g x σ H' fun σ2 H2 => tb { D with nx := N, ct := N, bk := D.nx } σ2 H2)
/-- the records at fp as they stand -/
def pinsAt (fp : List Addr) (h : Heap) : List (Addr × Obj) := fp.filterMap fun b => (h.get? b).map fun o => (b, o)
theorem mem_pinsAt {fp : List Addr} {h : Heap} {b : Addr} {o : Obj} (hb : b ∈ fp) (e : h.get? b = some o) : (b, o) ∈ pinsAt fp h := List.mem_filterMap.mpr ⟨b, hb, by rw [e]; rfl⟩
theorem of_pinsAt {fp : List Addr} {h : Heap} {p : Addr × Obj} (hp : p ∈ pinsAt fp h) : p.1 ∈ fp ∧ h.get? p.1 = some p.2 := by
  obtain ⟨b, hb, e⟩ := List.mem_filterMap.mp hp
  cases q : h.get? b with
  | none => rw [q] at e; cases e
  | some o =>
    rw [q] at e
    have e' : (b, o) = p := Option.some.inj e
    subst e'
    exact ⟨hb, q⟩
theorem Inv.pinned {pins : List (Addr × Obj)} {σ : St} {H : Hp} {s : Shared} {fp : List Addr} (I : Inv X pins σ H s) (hf : ∀ b ∈ fp, FpOk X pins H b) (ho : ∀ b ∈ fp, ∃ o, s.heap.get? b = some o ∧ ∀ v, o.data ≠ .cell v) : Inv X (pins ++ pinsAt fp s.heap) σ H s :=
  I.pins_of fun p hp => (List.mem_append.mp hp).elim (fun z => I.pin p (List.mem_append_right _ z)) fun z => by
    obtain ⟨hb, e⟩ := of_pinsAt z
    obtain ⟨f0, f1, f2, _⟩ := hf p.1 hb
    obtain ⟨o, e', d⟩ := ho p.1 hb
    rw [e] at e'; cases e'
    exact ⟨e, f0, f1, f2, d⟩
theorem Inv.unpinned {pins pl : List (Addr × Obj)} {σ : St} {H : Hp} {s : Shared} (I : Inv X (pins ++ pl) σ H s) : Inv X pins σ H s := I.pins_of fun p hp => I.pin p (List.mem_append_right _ (List.mem_append_left _ hp))
theorem ps_for {iter : Expr} {body : List Stmt} {wi : TI} {g : TG} {tb : TS} {pos : Pos} (hp : PassesOwn (model X.prog X.w) X.A X.env X.xe) (hc : X.calm = true) (hi : PI X tg iter wi) (hg : PG X tg g) (hb : PSs X body tb)
    (hs : ∀ x, foldedSetIterable iter X.env x = pure x := by intro _; rfl) : PS X (.For tg iter body [] pos) (tFor wi g tb) := by
  intro pins s σ H D I h
  refine wpAny_For (thn (hi pins s σ H _ I h) fun v s1 h1 => thn h1 fun itv s2 h2 => ?_) hs
  obtain ⟨it, fp, tn, J, H2, e, I2, T, st2, f2, W, ⟨m0, w0⟩, turn⟩ := h2
  subst e
  -- what stays true of the iterator's objects through the loop
  have stat : ∀ {H' : Hp}, (∀ b ∈ fp, H' b = none) → ∀ b ∈ fp, FpOk X pins H' b := fun hn b hb => ⟨hn b hb, (f2 b hb).2⟩
  refine codeAny_forLoop_any (fun n s' => ∃ i σ' H', Inv X pins σ' H' s' ∧ tn i s'.heap ∧ (∀ b ∈ fp, H' b = none) ∧ W i n σ' H') ?_ m0 ⟨0, σ, H2, I2, st2, fun b hb => (f2 b hb).1, w0⟩
  rintro n s3 ⟨i, σ3, H3, I3, st3, fr3, w3⟩
  rcases turn i n σ3 H3 w3 with ⟨stop, qn⟩ | ⟨go, N, hN, step⟩
  · refine wpAny_passesOwn hp (thn (T.done X rfl rfl rfl hc i pins s3 σ3 H3 X.xe I3 (stat fr3) st3 stop) fun r s4 ⟨hr, I4⟩ => ?_)
    subst hr
    exact wpAny_execs_nil ⟨σ3, H3, I4, qn⟩
  · refine wpAny_passesOwn hp (thn (T.item X rfl rfl rfl hc i pins s3 σ3 H3 X.xe I3 (stat fr3) st3 go) fun r s4 ⟨u, hr, h4⟩ => ?_)
    subst hr
    refine wpAny_passesOwn hp (thn h4 fun _ s5 ⟨x, H5, I5, r5, y5, st5, fr5⟩ => ?_)
    have I5' := I5.pinned (stat fr5) (T.obj _ _ st5)
    refine wpAny_passesOwn hp (thn (hg _ s5 σ3 H5 x u _ I5' r5 (step x H5 y5)) fun _ s6 ⟨σ6, H6, I6, q6⟩ => ?_)
    refine wpAny_passesOwn hp (thn (hb _ s6 σ6 H6 _ I6 q6) fun f s7 q7 => ?_)
    have again : ∀ {σ7 : St} {H7 : Hp}, Inv X (pins ++ pinsAt fp s5.heap) σ7 H7 s7 → N σ7 H7 → ∃ m, m < n ∧ ∃ i σ' H', Inv X pins σ' H' s7 ∧ tn i s7.heap ∧ (∀ b ∈ fp, H' b = none) ∧ W i m σ' H' := fun {σ7 H7} I7 n7 => by
      obtain ⟨m', hm, w7⟩ := hN σ7 H7 n7
      refine ⟨m', hm, i + 1, σ7, H7, I7.unpinned, T.keep _ _ _ st5 fun b hb o e => (I7.pin (b, o) (List.mem_append_right _ (List.mem_append_right _ (mem_pinsAt hb e)))).1, fun b hb => ?_, w7⟩
      obtain ⟨o, e, d⟩ := T.obj _ _ st5 b hb
      exact (I7.pin (b, o) (List.mem_append_right _ (List.mem_append_right _ (mem_pinsAt hb e)))).2.1
    cases f with
    | next => obtain ⟨σ7, H7, I7, n7⟩ := q7; exact again I7 n7
    | cont => obtain ⟨σ7, H7, I7, n7⟩ := q7; exact again I7 n7
    | brk => obtain ⟨σ7, H7, I7, q7⟩ := q7; exact ⟨σ7, H7, I7.unpinned, q7⟩
    | ret v => obtain ⟨x7, σ7, H7, I7, r7, q7⟩ := q7; exact ⟨x7, σ7, H7, I7.unpinned, r7, q7⟩
end

/-! ### the forms one uses -/
/-- over a list that the body leaves as it is -/
theorem for_list {K : PySem.W.Frag} {a : Addr} {xs : List V} {g : TG} {tb : TS} {D : Ends} {σ : St} {H : Hp} (Pv : Nat → St → Hp → Prop) (h0 : Pv 0 σ H) (hl : ∀ i σ H, i ≤ xs.length → Pv i σ H → SqL K H a xs)
    (hs : ∀ i x σ H, xs[i]? = some x → Pv i σ H → g x σ H fun σ2 H2 => tb { D with nx := Pv (i + 1), ct := Pv (i + 1), bk := D.nx } σ2 H2) (hd : ∀ σ H, Pv xs.length σ H → D.nx σ H) :
    ∃ W : Nat → Nat → St → Hp → Prop, (∃ m, W 0 m σ H) ∧ ∀ i m σ H, W i m σ H →
      ((Itl K a).stop i H ∧ D.nx σ H) ∨ ((Itl K a).go i H ∧ ∃ N : St → Hp → Prop, (∀ σ' H', N σ' H' → ∃ m', m' < m ∧ W (i + 1) m' σ' H') ∧ ∀ x H', (Itl K a).yld i H x H' → g x σ H' fun σ2 H2 => tb { D with nx := N, ct := N, bk := D.nx } σ2 H2) := by
  refine ⟨fun i m σ H => m = xs.length - i ∧ i ≤ xs.length ∧ Pv i σ H, ⟨xs.length, by simp, Nat.zero_le _, h0⟩, ?_⟩
  rintro i m σ H ⟨rfl, hi, p⟩
  have q := hl i σ H hi p
  by_cases hlt : i < xs.length
  · refine .inr ⟨⟨xs, xs[i], q, by simp [hlt]⟩, Pv (i + 1), fun σ' H' p' => ⟨xs.length - (i + 1), by omega, rfl, hlt, p'⟩, fun x H' y => ?_⟩
    obtain ⟨e, y⟩ := y
    subst e
    exact hs i x σ _ (y xs q) p
  · have e : i = xs.length := by omega
    subst e
    exact .inl ⟨⟨xs, q, Nat.le_refl _⟩, hd σ H p⟩
theorem for_range {lo : Int} {n : Nat} {g : TG} {tb : TS} {D : Ends} {σ : St} {H : Hp} (Pv : Nat → St → Hp → Prop) (h0 : Pv 0 σ H)
    (hs : ∀ i σ H, i < n → Pv i σ H → g (.int (lo + i)) σ H fun σ2 H2 => tb { D with nx := Pv (i + 1), ct := Pv (i + 1), bk := D.nx } σ2 H2) (hd : ∀ σ H, Pv n σ H → D.nx σ H) :
    ∃ W : Nat → Nat → St → Hp → Prop, (∃ m, W 0 m σ H) ∧ ∀ i m σ H, W i m σ H →
      ((Itr lo n).stop i H ∧ D.nx σ H) ∨ ((Itr lo n).go i H ∧ ∃ N : St → Hp → Prop, (∀ σ' H', N σ' H' → ∃ m', m' < m ∧ W (i + 1) m' σ' H') ∧ ∀ x H', (Itr lo n).yld i H x H' → g x σ H' fun σ2 H2 => tb { D with nx := N, ct := N, bk := D.nx } σ2 H2) := by
  refine ⟨fun i m σ H => m = n - i ∧ i ≤ n ∧ Pv i σ H, ⟨n, by simp, Nat.zero_le _, h0⟩, ?_⟩
  rintro i m σ H ⟨rfl, hi, p⟩
  by_cases hlt : i < n
  · refine .inr ⟨hlt, Pv (i + 1), fun σ' H' p' => ⟨n - (i + 1), by omega, rfl, hlt, p'⟩, fun x H' y => ?_⟩
    obtain ⟨e, y⟩ := y
    subst e y
    exact hs i σ _ hlt p
  · have e : i = n := by omega
    subst e
    exact .inl ⟨Nat.le_refl _, hd σ H p⟩
end L2

namespace L2
open PySem PySem.Spec PyProof.Rows

abbrev R2 := V → V → Hp → VK → Prop
/-- a two-place operation on values: f is binaryOp op, inplaceOp op or compareOp op -/
def OpR (X : Cx) (f : Value → Value → Sem Value) (r : R2) : Prop :=
  ∀ (pins : List (Addr × Obj)) (s : Shared) (σ : St) (H : Hp) (x y : V) (v u : Value) (Q : VK), Inv X pins σ H s → RelV x v → RelV y u → r x y H Q →
    wpAny (model X.prog X.w) X.A (f v u) (EP X pins σ Q) X.xe s
/-- a one-place operation -/
def UnR (X : Cx) (f : Value → Sem Value) (r : V → Hp → VK → Prop) : Prop :=
  ∀ (pins : List (Addr × Obj)) (s : Shared) (σ : St) (H : Hp) (x : V) (v : Value) (Q : VK), Inv X pins σ H s → RelV x v → r x H Q →
    wpAny (model X.prog X.w) X.A (f v) (EP X pins σ Q) X.xe s
/-- a call of a value that is known (a builtin, a type) with values -/
def CallR (X : Cx) (f : Value) (r : List V → Hp → VK → Prop) : Prop :=
  ∀ (pins : List (Addr × Obj)) (s : Shared) (σ : St) (H : Hp) (xs : List V) (us : List Value) (Q : VK), Inv X pins σ H s → Vals xs us → r xs H Q →
    wpAny (model X.prog X.w) X.A (call f us) (EP X pins σ Q) X.xe s

def tOp (r : R2) (ta tb : TE) : TE := fun σ H Q => ta σ H fun x H1 => tb σ H1 fun y H2 => r x y H2 Q
def tUn (r : V → Hp → VK → Prop) (ta : TE) : TE := fun σ H Q => ta σ H fun x H1 => r x H1 Q
/-- ints in, under C, and a value out -/
def rI (C : Int → Int → Prop) (g : Int → Int → V) : R2 := fun x y H Q => ∃ i j, x = .int i ∧ y = .int j ∧ C i j ∧ Q (g i j) H
def rI0 (g : Int → Int → V) : R2 := fun x y H Q => ∃ i j, x = .int i ∧ y = .int j ∧ Q (g i j) H
def rU (g : Int → V) : V → Hp → VK → Prop := fun x H Q => ∃ i, x = .int i ∧ Q (g i) H

section
variable {X : Cx} {a b c : Expr} {ta tb tc : TE} {pos : Pos}

theorem binT (ha : PE X a ta) (hb : PE X b tb) {pins : List (Addr × Obj)} {s : Shared} {σ : St} {H : Hp} {R : V → V → Hp → Prop} (I : Inv X pins σ H s)
    (h : ta σ H fun x H1 => tb σ H1 fun y H2 => R x y H2) {Q : Value → Shared → Prop} {f : Value → Value → Sem Value}
    (hf : ∀ v u s2 x y H2, Inv X pins σ H2 s2 → RelV x v → RelV y u → R x y H2 → wpAny (model X.prog X.w) X.A (f v u) Q X.xe s2) :
    wpAny (model X.prog X.w) X.A (eval a X.env) (fun v s₁ => wpAny (model X.prog X.w) X.A (eval b X.env) (fun u s₂ => wpAny (model X.prog X.w) X.A (f v u) Q X.xe s₂) X.xe s₁) X.xe s := by
  refine thn (ha pins s σ H _ I h) fun v s1 ⟨x, H1, I1, r1, q1⟩ => ?_
  refine thn (hb pins s1 σ H1 _ I1 q1) fun u s2 ⟨y, H2, I2, r2, q2⟩ => ?_
  exact hf v u s2 x y H2 I2 r1 r2 q2

theorem pe_op {op : Operator} {r : R2} (ho : OpR X (binaryOp op) r) (ha : PE X a ta) (hb : PE X b tb) : PE X (.BinOp a op b pos) (tOp r ta tb) := by
  intro pins s σ H Q I h
  exact wpAny_BinOp (binT ha hb I h fun v u s2 x y H2 I2 rx ry q => ho pins s2 σ H2 x y v u Q I2 rx ry q)
theorem pe_un {op : UnaryOp} {r : V → Hp → VK → Prop} (ho : UnR X (unaryOp op) r) (ha : PE X a ta) : PE X (.UnaryOp op a pos) (tUn r ta) := by
  intro pins s σ H Q I h
  exact UnaryOp_ (thn (ha pins s σ H _ I h) fun v s1 ⟨x, H1, I1, r1, q1⟩ => ho pins s1 σ H1 x v Q I1 r1 q1)

/-! ### ints -/
theorem opI {f : Value → Value → Sem Value} {C : Int → Int → Prop} {g : Int → Int → Int}
    (rule : ∀ (i j : Int) (t u : Tok) (s : Shared) (Q : Value → Shared → Prop) (E : Value → Shared → Prop), C i j → Q (.int (g i j) s.toks) { s with toks := s.toks + 1 } → wpAny (model X.prog X.w) X.A (f (.int i t) (.int j u)) Q E s) :
    OpR X f (rI C fun i j => .int (g i j)) := by
  intro pins s σ H x y v u Q I rx ry h
  obtain ⟨i, j, rfl, rfl, hc, q⟩ := h
  obtain ⟨t, rfl⟩ := rx
  obtain ⟨t', rfl⟩ := ry
  exact rule i j t t' s _ _ hc ⟨.int (g i j), H, I.tok _, ⟨_, rfl⟩, q⟩
theorem opI0 {f : Value → Value → Sem Value} {g : Int → Int → Int}
    (rule : ∀ (i j : Int) (t u : Tok) (s : Shared) (Q : Value → Shared → Prop) (E : Value → Shared → Prop), Q (.int (g i j) s.toks) { s with toks := s.toks + 1 } → wpAny (model X.prog X.w) X.A (f (.int i t) (.int j u)) Q E s) :
    OpR X f (rI0 fun i j => .int (g i j)) := by
  intro pins s σ H x y v u Q I rx ry h
  obtain ⟨i, j, rfl, rfl, q⟩ := h
  obtain ⟨t, rfl⟩ := rx
  obtain ⟨t', rfl⟩ := ry
  exact rule i j t t' s _ _ ⟨.int (g i j), H, I.tok _, ⟨_, rfl⟩, q⟩
theorem opB0 {f : Value → Value → Sem Value} {g : Int → Int → Bool}
    (rule : ∀ (i j : Int) (t u : Tok) (s : Shared) (Q : Value → Shared → Prop) (E : Value → Shared → Prop), Q (.bool (g i j)) s → wpAny (model X.prog X.w) X.A (f (.int i t) (.int j u)) Q E s) :
    OpR X f (rI0 fun i j => .bl (g i j)) := by
  intro pins s σ H x y v u Q I rx ry h
  obtain ⟨i, j, rfl, rfl, q⟩ := h
  obtain ⟨t, rfl⟩ := rx
  obtain ⟨t', rfl⟩ := ry
  exact rule i j t t' s _ _ ⟨.bl (g i j), H, I, rfl, q⟩

def CDiv (i j : Int) : Prop := 0 < j ∧ j < 1073741824
def CPow (i j : Int) : Prop := 0 ≤ j ∧ j ≤ 1000000 ∧ i.natAbs < 2 ^ 64
def CMul (i j : Int) : Prop := (-(2 ^ 64) < i ∧ i < 2 ^ 64) ∨ (-(2 ^ 64) < j ∧ j < 2 ^ 64)
theorem CMul.ok {i j : Int} (h : CMul i j) : IntMulOk i j := by
  rcases h with ⟨h1, h2⟩ | ⟨h1, h2⟩
  · exact .of_left (intBits_le_64 h1 h2)
  · exact .of_right (intBits_le_64 h1 h2)

theorem op_add : OpR X (binaryOp .Add) (rI0 fun i j => .int (i + j)) := opI0 fun _ _ _ _ _ _ _ q => add_int q
theorem op_sub : OpR X (binaryOp .Sub) (rI0 fun i j => .int (i - j)) := opI0 fun _ _ _ _ _ _ _ q => sub_int q
theorem op_mul : OpR X (binaryOp .Mult) (rI CMul fun i j => .int (i * j)) := opI fun _ _ _ _ _ _ _ hc q => mul_int q hc.ok
/-- // by a positive divisor -/
theorem op_fdiv : OpR X (binaryOp .FloorDiv) (rI CDiv fun i j => .int (i / j)) := opI fun i j _ _ _ _ _ hc q => by
  have h1 : (0 : Int) < j := hc.1
  have h2 : j < 1073741824 := hc.2
  exact floordiv_int (by omega) (by rw [Int.fdiv_eq_ediv_of_nonneg i (by omega)]; exact q) (.inl (PyProof.noPylong_small (by omega)))
/-- % by a positive divisor of any size -/
theorem op_mod : OpR X (binaryOp .Mod) (rI (fun _ j => 0 < j) fun i j => .int (i % j)) := opI fun i j _ _ _ _ _ hc q => by
  have h1 : (0 : Int) < j := hc
  exact mod_int' (by omega) (by rw [Int.fmod_eq_emod_of_nonneg i (by omega)]; exact q)
theorem op_pow : OpR X (binaryOp .Pow) (rI CPow fun i j => .int (i ^ j.toNat)) := opI fun _ _ _ _ _ _ _ hc q => pow_int_small hc.1 hc.2.1 hc.2.2 q


theorem unI {f : Value → Sem Value} {g : Int → Int}
    (rule : ∀ (i : Int) (t : Tok) (s : Shared) (Q : Value → Shared → Prop) (E : Value → Shared → Prop), Q (.int (g i) s.toks) { s with toks := s.toks + 1 } → wpAny (model X.prog X.w) X.A (f (.int i t)) Q E s) :
    UnR X f (rU fun i => .int (g i)) := by
  intro pins s σ H x v Q I rx h
  obtain ⟨i, rfl, q⟩ := h
  obtain ⟨t, rfl⟩ := rx
  exact rule i t s _ _ ⟨.int (g i), H, I.tok _, ⟨_, rfl⟩, q⟩
theorem un_neg : UnR X (unaryOp .USub) (rU fun i => .int (-i)) := unI fun _ _ _ _ _ q => neg_int q

/-! ### bools among ints: n += (a < b) -/
end

/-! ### comparisons -/
/-- the scalars that == tells apart as data does -/
def scal : V → V → Bool
  | .non, .non => true | .non, .int _ => true | .int _, .non => true | .non, .bl _ => true | .bl _, .non => true | .non, .str _ => true | .str _, .non => true
  | .int _, .int _ => true | .bl _, .bl _ => true | .str _, .str _ => true | .byt _, .byt _ => true
  | .int _, .str _ => true | .str _, .int _ => true | .bl _, .str _ => true | .str _, .bl _ => true
  | _, _ => false
def rNe : R2 := fun x y H Q => scal x y = true ∧ Q (.bl (!decide (x = y))) H

theorem dec_int {i j : Int} : decide (V.int i = V.int j) = (i == j) := by
  rw [Bool.eq_iff_iff]
  simp
theorem dec_bl {i j : Bool} : decide (V.bl i = V.bl j) = (i == j) := by
  rw [Bool.eq_iff_iff]
  simp
theorem dec_str {i j : Str} : decide (V.str i = V.str j) = (i == j) := by
  rw [Bool.eq_iff_iff]
  simp
theorem dec_byt {i j : Array UInt8} : decide (V.byt i = V.byt j) = (i.toList == j.toList) := by
  rw [Bool.eq_iff_iff]
  cases i
  cases j
  simp

section
variable {X : Cx} {a b c : Expr} {ta tb tc : TE} {pos : Pos}
theorem fin_bl {pins : List (Addr × Obj)} {σ : St} {H : Hp} {s : Shared} {Q : VK} {k k' : Bool} (I : Inv X pins σ H s) (q : Q (.bl k) H) (e : k = k') : EP X pins σ Q (.bool k') s := by
  subst e
  exact ⟨.bl k, H, I, rfl, q⟩
theorem op_ne : OpR X (compareOp .NotEq) rNe := by
  intro pins s σ H x y v u Q I rx ry h
  obtain ⟨hs, q⟩ := h
  cases x with
  | non =>
    cases rx
    cases y with
    | non => cases ry; exact PySem.EqNone.ne_none_none (fin_bl I q (by simp))
    | bl j => cases ry; exact PySem.EqNone.ne_none_bool (fin_bl I q (by simp))
    | int j => obtain ⟨t', rfl⟩ := ry; exact PySem.EqNone.ne_none_int (fin_bl I q (by simp))
    | str j => obtain ⟨t', rfl⟩ := ry; exact PySem.EqNone.ne_none_str (fin_bl I q (by simp))
    | _ => exact absurd (show false = true from hs) Bool.false_ne_true
  | bl i =>
    cases rx
    cases y with
    | non => cases ry; exact PySem.EqNone.ne_bool_none (fin_bl I q (by simp))
    | bl j => cases ry; exact ne_bool (fin_bl I q (congrArg not dec_bl))
    | str j => obtain ⟨t', rfl⟩ := ry; exact PySem.EqMixed.ne_bool_str (fin_bl I q (by simp))
    | _ => exact absurd (show false = true from hs) Bool.false_ne_true
  | int i =>
    obtain ⟨t, rfl⟩ := rx
    cases y with
    | non => cases ry; exact PySem.EqNone.ne_int_none (fin_bl I q (by simp))
    | int j => obtain ⟨t', rfl⟩ := ry; exact ne_int (fin_bl I q (congrArg not dec_int))
    | str j => obtain ⟨t', rfl⟩ := ry; exact PySem.EqMixed.ne_int_str (fin_bl I q (by simp))
    | _ => exact absurd (show false = true from hs) Bool.false_ne_true
  | str i =>
    obtain ⟨t, rfl⟩ := rx
    cases y with
    | non => cases ry; exact PySem.EqNone.ne_str_none (fin_bl I q (by simp))
    | bl j => cases ry; exact PySem.EqMixed.ne_str_bool (fin_bl I q (by simp))
    | int j => obtain ⟨t', rfl⟩ := ry; exact PySem.EqMixed.ne_str_int (fin_bl I q (by simp))
    | str j => obtain ⟨t', rfl⟩ := ry; exact ne_str (fin_bl I q (congrArg not dec_str))
    | _ => exact absurd (show false = true from hs) Bool.false_ne_true
  | byt i =>
    obtain ⟨t, rfl⟩ := rx
    cases y with
    | byt j => obtain ⟨t', rfl⟩ := ry; exact PySem.W.ne_bytes (fin_bl I q (congrArg not dec_byt))
    | _ => exact absurd (show false = true from hs) Bool.false_ne_true
  | _ => cases y <;> exact absurd (show false = true from hs) Bool.false_ne_true

theorem op_lt : OpR X (compareOp .Lt) (rI0 fun i j => .bl (decide (i < j))) := opB0 fun _ _ _ _ _ _ _ q => lt_int q
theorem op_gt : OpR X (compareOp .Gt) (rI0 fun i j => .bl (decide (j < i))) := opB0 fun _ _ _ _ _ _ _ q => gt_int q

/-- is None, is not None: the right side a value none -/
theorem op_isN : OpR X (compareOp .Is) (fun x y H Q => y = .non ∧ Q (.bl (decide (x = .non))) H) := by
  intro pins s σ H x y v u Q I rx ry h
  obtain ⟨rfl, q⟩ := h
  cases ry
  refine is_none_gen (fin_bl I q ?_)
  cases x <;> first
    | (cases rx; rfl)
    | (obtain ⟨t, rfl⟩ := rx; rfl)
theorem op_notN : OpR X (compareOp .IsNot) (fun x y H Q => y = .non ∧ Q (.bl (!decide (x = .non))) H) := by
  intro pins s σ H x y v u Q I rx ry h
  obtain ⟨rfl, q⟩ := h
  cases ry
  refine isnot_none_gen (fin_bl I q ?_)
  cases x <;> first
    | (cases rx; rfl)
    | (obtain ⟨t, rfl⟩ := rx; rfl)



theorem nomark (b : Expr) {op : CmpOp} (h : op ≠ .In := by decide) (h2 : op ≠ .NotIn := by decide) : behindInMarks op b = false := by
  have e1 : (op == CmpOp.In) = false := by cases op <;> first | rfl | exact absurd rfl h
  have e2 : (op == CmpOp.NotIn) = false := by cases op <;> first | rfl | exact absurd rfl h2
  cases b <;> simp [behindInMarks, e1, e2]
/-- a reading of a value as a test -/
def tTest (t : TE) : TT := fun σ H Q => t σ H fun x H' => ∃ k, x = .bl k ∧ Q k H'
theorem pt_cmpR {op : CmpOp} {r : R2} (ho : OpR X (compareOp op) r) (ha : PE X a ta) (hb : PE X b tb) (hm : behindInMarks op b = false) : PT X (.Compare a [op] [b] pos) (tTest (tOp r ta tb)) := by
  intro pins s σ H Q I h
  refine wpAny_isTrue_Compare1 (thn (ha pins s σ H _ I h) fun v s1 ⟨x, H1, I1, r1, q1⟩ => thn (hb pins s1 σ H1 _ I1 q1) fun u s2 ⟨y, H2, I2, r2, q2⟩ =>
    thn (ho pins s2 σ H2 x y v u _ I2 r1 r2 q2) fun c s3 ⟨z, H3, I3, r3, k, e, q3⟩ => ?_) hm
  subst e
  cases r3
  exact wpAny_truthy_bool ⟨H3, I3, q3⟩

/-! ### truth -/
theorem line63 : (sizeLine : Nat) < 2 ^ 63 := by rw [sizeLine_eq]; decide

/-! ### strs and bytes -/
theorem op_add_str : OpR X (binaryOp .Add) (fun x y H Q => ∃ i j, x = .str i ∧ y = .str j ∧ i.length + j.length ≤ sizeLine ∧ Q (.str (i ++ j)) H) := by
  intro pins s σ H x y v u Q I rx ry h
  obtain ⟨i, j, rfl, rfl, hz, q⟩ := h
  obtain ⟨t, rfl⟩ := rx
  obtain ⟨t', rfl⟩ := ry
  exact add_str (fun t' tk => ⟨.str (i ++ j), H, I.tok _, ⟨_, rfl⟩, q⟩) hz
theorem iop_add_str : OpR X (inplaceOp .Add) (fun x y H Q => ∃ i j, x = .str i ∧ y = .str j ∧ i.length + j.length ≤ sizeLine ∧ Q (.str (i ++ j)) H) := by
  intro pins s σ H x y v u Q I rx ry h
  obtain ⟨i, j, rfl, rfl, hz, q⟩ := h
  obtain ⟨t, rfl⟩ := rx
  obtain ⟨t', rfl⟩ := ry
  exact iadd_str (fun t' tk => ⟨.str (i ++ j), H, I.tok _, ⟨_, rfl⟩, q⟩) hz

def PlainIxT (b : Expr) : Prop := ∀ o i, subscripted b false o i = operate [o, i] (getItem o i)
/-- s[i], 0 ≤ i < len -/
theorem pe_item_str (ha : PE X a ta) (hb : PE X b tb) (hs : PlainIxT b) :
    PE X (.Subscript a b pos) (tOp (fun x y H Q => ∃ z i c, x = .str z ∧ y = .int i ∧ 0 ≤ i ∧ i < 2 ^ 63 ∧ i < z.length ∧ z.cps[i.toNat]? = some c ∧ Q (.str ⟨#[c]⟩) H) ta tb) := by
  intro pins s σ H Q I h
  refine Subscript_ (binT ha hb I h fun v u s2 x y H2 I2 rx ry q => ?_)
  obtain ⟨z, i, c, rfl, rfl, h0, h63, h1, hc, q⟩ := q
  obtain ⟨t, rfl⟩ := rx
  obtain ⟨t', rfl⟩ := ry
  have e : seqIndex? i z.length = some i.toNat := PySem.StrLaws.seqIndex_nonneg h0 h1
  exact tail_any (typeIs_str s2 z t) slot_str_getitem.lookup (getItem_str (c := c) (by
    have e1 : decide (i < -(2 ^ 63 : Int)) = false := decide_eq_false (by omega)
    have e2 : decide (i ≥ 2 ^ 63) = false := decide_eq_false (by omega)
    rw [e1, e2] <;> rfl) (by rw [e]; exact hc) ⟨.str ⟨#[c]⟩, H2, I2.tok _, ⟨_, rfl⟩, q⟩) (hs _ _)

/-! ### scalar builtins, by CallR -/
theorem vals1 {x : V} {us : List Value} (r : Vals [x] us) : ∃ u, us = [u] ∧ RelV x u := by
  cases r with
  | cons r1 r2 => cases r2; exact ⟨_, rfl, r1⟩
theorem vals2 {x y : V} {us : List Value} (r : Vals [x, y] us) : ∃ u w', us = [u, w'] ∧ RelV x u ∧ RelV y w' := by
  cases r with
  | cons r1 r2 =>
    cases r2 with
    | cons r3 r4 => cases r4; exact ⟨_, _, rfl, r1, r3⟩
theorem call_max2 (hc : X.calm = true) : CallR X (.builtin "max") (fun xs H Q => ∃ i j, xs = [.int i, .int j] ∧ Q (.int (if j > i then j else i)) H) := by
  intro pins s σ H xs us Q I r h
  obtain ⟨i, j, rfl, q⟩ := h
  obtain ⟨u, w', rfl, ⟨t, rfl⟩, ⟨t', rfl⟩⟩ := vals2 r
  refine max_two_ints (I.ok.hd hc) fun h' tk k => ⟨_, H, I.kept k, ?_, q⟩
  by_cases hj : j > i
  · rw [if_pos hj, if_pos hj]; exact ⟨_, rfl⟩
  · rw [if_neg hj, if_neg hj]; exact ⟨_, rfl⟩
theorem call_int1 : CallR X (.type "int") (fun xs H Q => (∃ i, xs = [.int i] ∧ Q (.int i) H) ∨ ∃ k, xs = [.bl k] ∧ Q (.int (if k then 1 else 0)) H) := by
  intro pins s σ H xs us Q I r h
  rcases h with ⟨i, rfl, q⟩ | ⟨k, rfl, q⟩
  · obtain ⟨u, rfl, t, rfl⟩ := vals1 r
    exact call_int_int ⟨.int i, H, I, ⟨_, rfl⟩, q⟩
  · obtain ⟨u, rfl, r1⟩ := vals1 r
    cases r1
    exact call_int_bool ⟨.int (if k then 1 else 0), H, I.tok _, ⟨_, rfl⟩, q⟩
end
end L2

namespace L2
open PySem PySem.Spec PyProof.Rows

/-! ### an instance, its attributes a map -/
structure ObjM (h : Heap) (x dx C : Addr) (mA : Str → Option Value) : Prop where
  obj : h.get? x = some (PySem.W.instObj C dx)
  ns : h.Ns1 dx mA
  ne : dx ≠ x

theorem lookIn_ns {h : Heap} {dx : Addr} {mA : Str → Option Value} (n : h.Ns1 dx mA) : ∃ od, h.get? dx = some od ∧ ∀ name, PySem.W.lookIn name od = some (mA name) := by
  obtain ⟨o, es, ep, ho, hd, hk, _, hm⟩ := n
  refine ⟨o, ho, fun name => ?_⟩
  have e := hm name
  unfold nsFind findBy at e
  rw [← Array.find?_toList] at e
  unfold PySem.W.lookIn
  rw [hd]
  dsimp only
  split
  · rename_i y q
    rw [q] at e
    exact congrArg some e
  · rename_i q
    rw [q] at e
    have a : es.toList.any (·.refKey) = false := by
      rw [List.any_eq_false]
      intro y hy
      obtain ⟨z, t, hkey⟩ := hk y (Array.mem_toList_iff.mp hy)
      simp [DictEntry.refKey, hkey]
    have a' : ¬ es.toList.any (·.refKey) = true := by rw [a]; exact Bool.false_ne_true
    rw [if_neg a']
    exact congrArg some e

theorem ObjM.look {h : Heap} {x dx C : Addr} {mA : Str → Option Value} (I : ObjM h x dx C mA) : ∃ od, PySem.W.InstAt h x (PySem.W.instObj C dx) C (some od) ∧ ∀ name, PySem.W.lookIn name od = some (mA name) :=
  let ⟨od, ho, hl⟩ := lookIn_ns I.ns
  ⟨od, ⟨I.obj, rfl, rfl, ho⟩, hl⟩

section
variable {prog : Program} {w : World} {A : Around} {E : Value → Shared → Prop} {s : Shared} {K : PySem.W.Frag} {x dx C f : Addr} {mA : Str → Option Value} {name : Str} {v : Value}

theorem get_map {expr : Bool} {Q : Value → Shared → Prop} (X : K.In s.heap) (I : ObjM s.heap x dx C mA) (hg : PySem.W.plainGet K C name = true) (hh : PySem.W.hasDictIn K C = true)
    (ha : PySem.W.findIn K (.ref C) name = some none) (hv : mA name = some v) (hv' : PySem.W.handedIn v = true) (h : Q v { s with toks := s.toks + 1 }) :
    wpAny (model prog w) A (getAttr (.ref x) name expr) Q E s := by
  obtain ⟨od, J, hl⟩ := I.look
  exact PySem.W.get_value X J (PySem.W.plainGet_of hg).1 (PySem.W.findObj_own hh ha rfl (by rw [hl, hv])) hv' h


theorem get_meth {pl : Sem Bool} {Q : Value × List Value → Shared → Prop} (X : K.In s.heap) (I : ObjM s.heap x dx C mA) (hg : PySem.W.plainGet K C name = true)
    (hf : PySem.W.findIn K (.ref C) name = some (some (.ref f))) (ht : PySem.W.isFn K (.ref f) = true) (hv : mA name = none) (h : Q (.ref f, [.ref x]) s) :
    wpAny (model prog w) A (getMethod (.ref x) name pl) Q E s := by
  obtain ⟨od, J, hl⟩ := I.look
  exact PySem.W.method_fn X J (PySem.W.plainGet_of hg).1 (PySem.W.plainGet_of hg).2 hf (beq_iff_eq.mp ht) (by show (PySem.W.lookIn name od).map (·.isSome) = some false; rw [hl, hv]; rfl) h

theorem set_map {ns : List Str} {Q : Unit → Shared → Prop} (X : K.In s.heap) (I : ObjM s.heap x dx C mA)
    (hs : PySem.W.findIn K (.ref C) "__setattr__" = some (some (.builtin "object.__setattr__"))) (hp : PySem.W.plainOver K C = true) (ht : PySem.W.takerIn K C name = some none) (hh : PySem.W.hasDictIn K C = true)
    (hw : PySem.Within mA ns) (hsz : ns.length ≤ sizeLine)
    (h : ∀ h', ObjM h' x dx C (fun y => if y = name then some v else mA y) → Heap.SameBut dx s.heap h' → Q () { s with heap := h', toks := s.toks + 2 }) :
    wpAny (model prog w) A (setAttr (.ref x) name v) Q E s := by
  obtain ⟨od, J, hl⟩ := I.look
  refine PySem.W.set_plain X J hs (PySem.W.osa_open (s := { s with toks := s.toks + 1 }) (r := none) X J hp ht fun b => ?_)
  obtain ⟨cd, hc, hd'⟩ := PySem.W.any_some hh
  have hx : s.heap.get? x = some ⟨.ref C, some dx, .plain, #[]⟩ := I.obj
  refine wpAny_bind (wpAny_pure (wpAny_bind (wpAny_bind (wpAny_loadPart hx (wpAny_bind (PySem.W.Looks.here (s := { s with toks := s.toks + 1 }) (PySem.W.looks_clsIn X hc) ?_))))))
  rw [hd']
  refine wpAny_pure (a := some dx) (wpAny_bind (wpAny_pure (wpAny_bind ?_)))
  refine wpAny_nsSet1 (s := { s with toks := s.toks + 1 }) I.ns fun h' hn2 hs2 => ?_
  obtain ⟨oD, esD, epD, hoD, hdD, hcD⟩ := hn2.count (PySem.Within.cons name v hw)
  refine wpAny_bind (wpAny_lookBehind hoD (by rw [hdD]; exact pastItsLine_dict (Nat.le_trans hcD (by rw [List.length_cons]; omega))) ?_)
  exact wpAny_pure (h _ ⟨(hs2.2 _ (Ne.symm I.ne)).trans I.obj, hn2, I.ne⟩ hs2)

/-- C(..): the dict at the heap's end, the instance behind it; then its __init__ -/
theorem make_map {R : Result → Shared → Prop} {vs : List Value} {kw : List (Str × Value)} (X : K.In s.heap) (hm : PySem.W.makesIn K C = true)
    (hi : PySem.W.findIn K (.ref C) "__init__" = some (some (.ref f))) (hf : PySem.W.typeIn K (.ref f) = some (.type "function"))
    (h : codeAny (model prog w) (A.under (.builtin "type.__call__" ⟨.ref C :: vs, kw⟩)) (.call (.ref f) ⟨.ref (s.heap.objs.size + 1) :: vs, kw⟩) (PySem.W.InitBack (s.heap.objs.size + 1) R)
      { s with heap := (s.heap.push PySem.W.emptyDict).push (PySem.W.instObj C s.heap.objs.size) }) :
    codeAny (model prog w) A (.call (.ref C) ⟨vs, kw⟩) R s := by
  obtain ⟨hh, g, d, t, os⟩ := s
  exact PySem.W.make_core (PySem.W.makes_of X hm) (PySem.W.looks_findIn X hi) (fun self => PySem.W.bind_fn X self hf) (.inl rfl) h
end

/-! ### the attributes as a list of pairs -/
def putF (f : Str) (v : V) : List (Str × V) → List (Str × V)
  | [] => [(f, v)]
  | (g, x) :: r => if g = f then (g, v) :: r else (g, x) :: putF f v r
theorem lookup_putF (f g : Str) (v : V) : ∀ fs : List (Str × V), (putF f v fs).lookup g = if g = f then some v else fs.lookup g
  | [] => by
    show List.lookup g [(f, v)] = _
    by_cases h : g = f
    · have hb : (g == f) = true := beq_iff_eq.mpr h
      simp only [List.lookup, hb, if_pos h]
    · have hb : (g == f) = false := beq_eq_false_iff_ne.mpr h
      simp only [List.lookup, hb, if_neg h]
  | (k, x) :: r => by
    have ih := lookup_putF f g v r
    rw [show putF f v ((k, x) :: r) = (if k = f then (k, v) :: r else (k, x) :: putF f v r) from rfl]
    by_cases hk : k = f
    · rw [if_pos hk]
      by_cases h : g = k
      · have hb : (g == k) = true := beq_iff_eq.mpr h
        simp only [List.lookup, hb, if_pos (h.trans hk)]
      · have hb : (g == k) = false := beq_eq_false_iff_ne.mpr h
        simp only [List.lookup, hb, if_neg (fun e : g = f => h (e.trans hk.symm))]
    · rw [if_neg hk]
      by_cases h : g = k
      · have hb : (g == k) = true := beq_iff_eq.mpr h
        simp only [List.lookup, hb, if_neg (fun e : g = f => hk (h.symm.trans e))]
      · have hb : (g == k) = false := beq_eq_false_iff_ne.mpr h
        simp only [List.lookup, hb]
        exact ih
theorem keys_putF (f : Str) (v : V) : ∀ fs : List (Str × V), f ∈ (putF f v fs).map (·.1) ∧ ∀ g, g ∈ fs.map (·.1) → g ∈ (putF f v fs).map (·.1)
  | [] => ⟨by simp [putF], fun g h => by simp at h⟩
  | (k, x) :: r => by
    obtain ⟨i1, i2⟩ := keys_putF f v r
    rw [show putF f v ((k, x) :: r) = (if k = f then (k, v) :: r else (k, x) :: putF f v r) from rfl]
    by_cases hk : k = f
    · rw [if_pos hk]
      subst hk
      exact ⟨by simp, fun g h => by simpa using h⟩
    · rw [if_neg hk]
      refine ⟨?_, fun g h => ?_⟩
      · rw [List.map_cons]
        exact List.mem_cons_of_mem _ i1
      · rw [List.map_cons] at h ⊢
        rcases List.mem_cons.mp h with e | e
        · exact List.mem_cons.mpr (.inl e)
        · exact List.mem_cons_of_mem _ (i2 g e)
theorem length_putF (f : Str) (v : V) : ∀ fs : List (Str × V), (putF f v fs).length ≤ fs.length + 1
  | [] => by simp [putF]
  | (k, x) :: r => by
    have ih := length_putF f v r
    rw [show putF f v ((k, x) :: r) = (if k = f then (k, v) :: r else (k, x) :: putF f v r) from rfl]
    by_cases hk : k = f
    · rw [if_pos hk, List.length_cons, List.length_cons]; omega
    · rw [if_neg hk, List.length_cons, List.length_cons]; omega

theorem RelO.some_of {v : V} {o : Option Value} (r : RelO (some v) o) : ∃ u, o = some u ∧ RelV v u := by
  cases o with
  | none => exact (show False from r).elim
  | some u => exact ⟨u, rfl, r⟩
theorem RelO.none_of {o : Option Value} (r : RelO none o) : o = none := by
  cases o with
  | none => rfl
  | some u => exact (show False from r).elim
theorem handed_of {v : V} {u : Value} (r : RelV v u) : PySem.W.handedIn u = true := by
  cases v with
  | non => cases (show u = Value.none from r); rfl
  | bl b => cases (show u = Value.bool b from r); rfl
  | int i => obtain ⟨t, e⟩ := (show ∃ t, u = Value.int i t from r); cases e; rfl
  | str x => obtain ⟨t, e⟩ := (show ∃ t, u = Value.str x t from r); cases e; rfl
  | byt b => obtain ⟨t, e⟩ := (show ∃ t, u = Value.bytes b t from r); cases e; rfl
  | flt b => obtain ⟨t, e⟩ := (show ∃ t, u = Value.float b t from r); cases e; rfl
  | ref a => cases (show u = Value.ref a from r); rfl
  | ty n => cases (show u = Value.type n from r); rfl

section
variable {P : Program} {w : World} {H H' : Hp} {h h' : Heap} {a C dx : Addr} {fs fs' : List (Str × V)}
theorem ins_get (hok : HOk P w H h) (e : H a = some (.ins C dx fs)) : ∃ mA, ObjM h a dx C mA ∧ (∀ f, RelO (fs.lookup f) (mA f)) ∧ PySem.Within mA (fs.map (·.1)) ∧ fs.length ≤ 1000 ∧ H dx = some (.own a) := by
  obtain ⟨d, z, ne, ob, mA, n, r, q⟩ := (show ObjOk P w H h a (.ins C dx fs) from hok a _ e)
  exact ⟨mA, ⟨ob, n, ne⟩, r, q, z, d⟩
end

/-! ### what of the text a class must have -/
structure Cls (K : PySem.W.Frag) (C : Addr) : Prop where
  pg : PySem.W.plainGet K C Str.empty = true
  hd : PySem.W.hasDictIn K C = true
  po : PySem.W.plainOver K C = true
  sa : PySem.W.findIn K (.ref C) "__setattr__" = some (some (.builtin "object.__setattr__"))
theorem Cls.get {K : PySem.W.Frag} {C : Addr} (c : Cls K C) (f : Str) : PySem.W.plainGet K C f = true := c.pg
/-- no class of it has the name -/
def NoAttr (K : PySem.W.Frag) (C : Addr) (f : Str) : Prop := PySem.W.findIn K (.ref C) f = some none
theorem NoAttr.taker {K : PySem.W.Frag} {C : Addr} {f : Str} (n : NoAttr K C f) : PySem.W.takerIn K C f = some none := by
  unfold PySem.W.takerIn
  rw [show PySem.W.findIn K (.ref C) f = some none from n]
  rfl
/-- a method: a plain def of the class or of one above it -/
structure Meth (K : PySem.W.Frag) (C : Addr) (m : Str) (f : Addr) : Prop where
  at_ : PySem.W.findIn K (.ref C) m = some (some (.ref f))
  fn : PySem.W.isFn K (.ref f) = true
  kp : PySem.W.keepIn K (.ref f) = true

section
variable {X : Cx} {pins : List (Addr × Obj)} {σ : St} {H : Hp} {s : Shared} {a C dx : Addr} {fs : List (Str × V)} {f : Str} {v : V} {A : Around} {E : Value → Shared → Prop}

theorem getattr_ok {b : Bool} {Q : Value → Shared → Prop} (I : Inv X pins σ H s) (e : H a = some (.ins C dx fs)) (c : Cls X.K C) (n : NoAttr X.K C f) (l : fs.lookup f = some v)
    (h : ∀ u s', Inv X pins σ H s' → RelV v u → Q u s') : wpAny (model X.prog X.w) A (getAttr (.ref a) f b) Q E s := by
  obtain ⟨mA, O, r, _, _, _⟩ := ins_get I.hok e
  obtain ⟨u, hu, ru⟩ := RelO.some_of (v := v) (o := mA f) (by rw [← l]; exact r f)
  exact get_map I.kIn O (c.get f) c.hd n hu (handed_of ru) (h u _ (I.tok _) ru)


theorem getmeth_ok {m : Str} {g : Addr} {pl : Sem Bool} {Q : Value × List Value → Shared → Prop} (I : Inv X pins σ H s) (e : H a = some (.ins C dx fs)) (c : Cls X.K C) (k : Meth X.K C m g) (l : fs.lookup m = none)
    (h : Q (.ref g, [.ref a]) s) : wpAny (model X.prog X.w) A (getMethod (.ref a) m pl) Q E s := by
  obtain ⟨mA, O, r, _, _, _⟩ := ins_get I.hok e
  have hn : mA m = none := RelO.none_of (by rw [← l]; exact r m)
  exact get_meth I.kIn O (c.get m) k.at_ k.fn hn h

theorem setattr_ok {y : V} {u : Value} {Q : Unit → Shared → Prop} (I : Inv X pins σ H s) (e : H a = some (.ins C dx fs)) (c : Cls X.K C) (n : NoAttr X.K C f) (hl : fs.length < 1000) (ry : RelV y u)
    (h : ∀ s', Inv X pins σ (upd H a (.ins C dx (putF f y fs))) s' → Q () s') : wpAny (model X.prog X.w) A (setAttr (.ref a) f u) Q E s := by
  obtain ⟨mA, O, r, wi, _, ho⟩ := ins_get I.hok e
  have hz : (fs.map (·.1)).length ≤ sizeLine := by rw [List.length_map, sizeLine_eq]; omega
  refine set_map I.kIn O c.sa c.po n.taker c.hd wi hz fun h' O' sb => h _ ?_
  have hd : ∃ o, h'.get? dx = some o := let ⟨o, _, _, e', _⟩ := O'.ns; ⟨o, e'⟩
  refine I.write (x := a) (e := dx) (by rw [e]; exact True.intro) (.inr ho) (fun b q hb z => (sb.2 b hb).trans z) hd ?_
  refine ⟨by rw [upd_ne O.ne]; exact ho, ?_, O.ne, O'.obj, _, O'.ns, fun g => ?_, fun g hg => ?_⟩
  · have := length_putF f y fs; omega
  · show RelO ((putF f y fs).lookup g) (if g = f then some u else mA g)
    rw [lookup_putF]
    by_cases q : g = f
    · rw [if_pos q, if_pos q]; exact ry
    · rw [if_neg q, if_neg q]; exact r g
  · by_cases q : g = f
    · rw [q]; exact (keys_putF f y fs).1
    · refine (keys_putF f y fs).2 g (wi g fun z => hg ?_)
      show (if g = f then some u else mA g) = none
      rw [if_neg q]; exact z

/-- a new instance, tracked, without attributes -/
theorem Inv.made (I : Inv X pins σ H s) : Inv X pins σ (upd (upd H s.heap.objs.size (.own (s.heap.objs.size + 1))) (s.heap.objs.size + 1) (.ins C s.heap.objs.size []))
    { s with heap := (s.heap.push PySem.W.emptyDict).push (PySem.W.instObj C s.heap.objs.size) } := by
  have e1 : (s.heap.push PySem.W.emptyDict).get? s.heap.objs.size = some PySem.W.emptyDict := Heap.get?_push_size s.heap rfl
  have e2 : ((s.heap.push PySem.W.emptyDict).push (PySem.W.instObj C s.heap.objs.size)).get? (s.heap.objs.size + 1) = some (PySem.W.instObj C s.heap.objs.size) := by
    have := Heap.get?_push_size (s.heap.push PySem.W.emptyDict) (o := PySem.W.instObj C s.heap.objs.size) rfl
    rwa [Heap.size_push] at this
  have e3 : (s.heap.push PySem.W.emptyDict).Ns s.heap.objs.size (fun _ => none) := ⟨PySem.W.emptyDict, #[], _, e1, rfl, (fun e he => absurd he (by simp)), fun _ => rfl⟩
  have I1 := I.laid (a := s.heap.objs.size) (o := .own (s.heap.objs.size + 1)) (h' := s.heap.push PySem.W.emptyDict) (t' := s.toks) (fun b u q => Heap.get?_push_of_some _ q) (Nat.le_refl _) ⟨_, e1⟩
  refine I1.laid (a := s.heap.objs.size + 1) (o := .ins C s.heap.objs.size []) (t' := s.toks) (fun b u q => Heap.get?_push_of_some _ q) (Nat.le_of_eq (Heap.size_push _ _)) ?_
  have ne : s.heap.objs.size ≠ s.heap.objs.size + 1 := Nat.ne_of_lt (Nat.lt_succ_self _)
  refine ⟨by rw [upd_ne ne, upd_same], Nat.zero_le _, ne, e2, fun _ => none, (Heap.Ns1.of_empty e3).at fun o q => Heap.get?_push_of_some _ q, fun _ => True.intro, fun y hy => absurd rfl hy⟩

/-- e.f where nothing but the object is asked: through attributeBase (super) and the last hold -/
theorem attr_of {prog : Program} {w : World} {env : Env} {e : Expr} {f : Str} {pos : Pos} {s : Shared} {Q : Value → Shared → Prop} (hb : attributeBase e f env (eval e env) = eval e env)
    (h : wpAny (model prog w) A (eval e env) (fun o s₁ => wpAny (model prog w) A (getAttr o f true) Q E s₁) E s) : wpAny (model prog w) A (eval (.Attribute e f pos) env) Q E s :=
  Attribute_any_ h (by rw [arm_eval_Attribute, hb])
end

/-! ### readings and rules -/
/-- e.f, an attribute of the instance -/
def tFld (K : PySem.W.Frag) (ta : TE) (f : Str) : TE := fun σ H Q => ta σ H fun x H1 => ∃ a C dx fs v, x = .ref a ∧ H1 a = some (.ins C dx fs) ∧ Cls K C ∧ NoAttr K C f ∧ fs.lookup f = some v ∧ Q v H1
/-- e.f = value -/
def sFld (K : PySem.W.Frag) (ta tv : TE) (f : Str) : TS := fun D σ H => tv σ H fun y H1 => ta σ H1 fun x H2 => ∃ a C dx fs, x = .ref a ∧ H2 a = some (.ins C dx fs) ∧ Cls K C ∧ NoAttr K C f ∧ fs.length < 1000 ∧
  D.nx σ (upd H2 a (.ins C dx (putF f y fs)))
/-- an augmented operator on two values -/
def InOp (X : Cx) (op : Operator) (rd : V → V → Hp → VK → Prop) : Prop :=
  ∀ (pins : List (Addr × Obj)) (s : Shared) (σ : St) (H : Hp) (x y : V) (u v : Value) (Q : VK), Inv X pins σ H s → RelV x u → RelV y v → rd x y H Q → wpAny (model X.prog X.w) X.A (inplaceOp op u v) (EP X pins σ Q) X.xe s
/-- e.f op= value -/
def sFldAug (K : PySem.W.Frag) (ta tv : TE) (rd : V → V → Hp → VK → Prop) (f : Str) : TS := fun D σ H => ta σ H fun x H1 => ∃ a C dx fs v, x = .ref a ∧ H1 a = some (.ins C dx fs) ∧ Cls K C ∧ NoAttr K C f ∧ fs.lookup f = some v ∧
  tv σ H1 fun y H2 => rd v y H2 fun z H3 => ∃ dx' fs', H3 a = some (.ins C dx' fs') ∧ fs'.length < 1000 ∧ D.nx σ (upd H3 a (.ins C dx' (putF f z fs')))

section
variable {X : Cx} {o e value : Expr} {f : Str} {pos pos' tpos : Pos} {ta tv : TE}
theorem pe_fld (he : PE X e ta) (hb : attributeBase e f X.env (eval e X.env) = eval e X.env) : PE X (.Attribute e f pos) (tFld X.K ta f) := by
  intro pins s σ H Q I h
  refine attr_of hb (thn (he pins s σ H _ I h) fun u s1 ⟨x, H1, I1, rx, a, C, dx, fs, v, ex, ea, c, n, l, q⟩ => ?_)
  subst ex
  obtain rfl : u = Value.ref a := rx
  exact getattr_ok I1 ea c n l fun u' s2 I2 ru => ⟨v, H1, I2, ru, q⟩
theorem ps_fld (ha : PE X o ta) (hv : PE X value tv) (hs : swapsWith value (some (.Attribute o f pos')) pos.line X.env = pure false) : PS X (.Assign [.Attribute o f pos'] value pos) (sFld X.K ta tv f) := by
  intro pins s σ H D I h
  refine plainObj_wpAny_Assign_Attribute (thn (hv pins s σ H _ I h) fun u s1 ⟨y, H1, I1, ry, q⟩ => thn (ha pins s1 σ H1 _ I1 q) fun ov s2 ⟨x, H2, I2, rx, a, C, dx, fs, ex, ea, c, n, l, q2⟩ => ?_) hs
  subst ex
  obtain rfl : ov = Value.ref a := rx
  exact setattr_ok I2 ea c n l ry fun s3 I3 => ⟨σ, _, I3, q2⟩
theorem ps_fldaug {op : Operator} {rd : V → V → Hp → VK → Prop} (ha : PE X o ta) (hv : PE X value tv) (hop : InOp X op rd) : PS X (.AugAssign (.Attribute o f tpos) op value pos) (sFldAug X.K ta tv rd f) := by
  intro pins s σ H D I h
  refine wpAny_AugAssign_AttributeAny (thn (ha pins s σ H _ I h) fun ov s1 ⟨x, H1, I1, rx, a, C, dx, fs, v, ex, ea, c, n, l, q⟩ => ?_)
  subst ex
  obtain rfl : ov = Value.ref a := rx
  refine getattr_ok I1 ea c n l fun u s2 I2 ru => thn (hv pins s2 σ H1 _ I2 q) fun w3 s3 ⟨y, H2, I3, ry, q3⟩ => thn (hop pins s3 σ H2 v y u w3 _ I3 ru ry q3) fun w4 s4 ⟨z, H3, I4, rz, dx', fs', ea', l', q4⟩ => ?_
  exact setattr_ok I4 ea' c n l' rz fun s5 I5 => ⟨σ, _, I5, q4⟩

end

/-! ### isinstance -/
section
variable {X : Cx} {pins : List (Addr × Obj)} {σ : St} {H : Hp} {s : Shared} {A : Around} {E : Value → Shared → Prop} {Q : Value → Shared → Prop} {c : Value} {b : Bool}
/-- the type of a value, as the fragment's deciders take it; for an instance its class -/
inductive TyOf (K : PySem.W.Frag) (H : Hp) : V → Value → Prop where
  | non : TyOf K H .non (.type "NoneType")
  | bl (x : Bool) : TyOf K H (.bl x) (.type "bool")
  | int (i : Int) : TyOf K H (.int i) (.type "int")
  | str (x : Str) : TyOf K H (.str x) (.type "str")
  | flt (x : UInt64) : TyOf K H (.flt x) (.type "float")
  | lst {a : Addr} {xs : List V} (e : H a = some (.lst xs)) : TyOf K H (.ref a) (.type "list")
  | frz {a : Addr} {o : Obj} {xs : List V} (e : H a = some (.frz o (.lst xs))) : TyOf K H (.ref a) (.type "list")
  | tup {a : Addr} {xs : List V} (e : H a = some (.tup xs)) : TyOf K H (.ref a) (.type "tuple")
  | dK {a : Addr} {kvs : List (Key × V)} (e : H a = some (.dK kvs)) : TyOf K H (.ref a) (.type "dict")
  | dT {a : Addr} {kvs : List (List Key × V)} (e : H a = some (.dT kvs)) : TyOf K H (.ref a) (.type "dict")
  | ins {a C dx : Addr} {fs : List (Str × V)} (e : H a = some (.ins C dx fs)) (cl : Cls K C) (ha : PySem.W.findIn K (.ref C) "__class__" = some (some (.builtin "object.__class__")))
      (hn : PySem.W.specialIn K (.builtin "object.__class__") "__get__" = some (some (.builtin "getset_descriptor.__get__"))) (htk : PySem.W.takesIn K (.builtin "object.__class__") = some true)
      (hm : PySem.W.mroIn K C (.type "object") = some true) : TyOf K H (.ref a) (.ref C)
/-- isinstance(x, c) for one class c, a built-in or an own one: kitOne's answer -/
theorem isinst_ok {x : V} {u t : Value} (I : Inv X pins σ H s) (rx : RelV x u) (ty : TyOf X.K H x t) (e : PySem.W.kitOne X.K t c = some b) (h : ∀ tk, Q (.bool b) { s with toks := tk }) :
    wpAny (model X.prog X.w) A (call (.builtin "isinstance") [u, c]) Q E s := by
  cases ty with
  | non => cases (show u = Value.none from rx); exact PySem.W.kia_one PySem.W.kitx_none I.kIn True.intro e (fun z => nomatch z) h
  | bl y => cases (show u = Value.bool y from rx); exact PySem.W.kia_one PySem.W.kitx_bool I.kIn True.intro e (fun z => nomatch z) h
  | int i => obtain ⟨t, q⟩ := (show ∃ t, u = Value.int i t from rx); cases q; exact PySem.W.kia_one PySem.W.kitx_int I.kIn True.intro e (fun z => nomatch z) h
  | str y => obtain ⟨t, q⟩ := (show ∃ t, u = Value.str y t from rx); cases q; exact PySem.W.kia_one PySem.W.kitx_str I.kIn True.intro e (fun z => nomatch z) h
  | flt y => obtain ⟨t, q⟩ := (show ∃ t, u = Value.float y t from rx); cases q; exact PySem.W.kia_one PySem.W.kitx_float I.kIn True.intro e (fun z => nomatch z) h
  | @lst a xs ea =>
    cases (show u = Value.ref a from rx)
    obtain ⟨_, _, n, _, h1⟩ := (show ObjOk X.prog X.w H s.heap a (.lst xs) from I.hok a _ ea)
    exact PySem.W.kia_one PySem.W.kitx_list I.kIn ⟨_, h1, rfl⟩ e (fun z => nomatch z) h
  | @frz a ob xs ea =>
    cases (show u = Value.ref a from rx)
    obtain ⟨_, _, _, n, _, h1⟩ := (show ObjOk X.prog X.w H s.heap a (.frz ob (.lst xs)) from I.hok a _ ea)
    exact PySem.W.kia_one PySem.W.kitx_list I.kIn ⟨_, h1, rfl⟩ e (fun z => nomatch z) h
  | @tup a xs ea =>
    cases (show u = Value.ref a from rx)
    obtain ⟨_, _, _, p⟩ := (show ObjOk X.prog X.w H s.heap a (.tup xs) from I.hok a _ ea)
    obtain ⟨o, h1, h2, _⟩ := p
    exact PySem.W.kia_one PySem.W.kitx_tuple I.kIn ⟨o, h1, h2⟩ e (fun z => nomatch z) h
  | @dK a kvs ea =>
    cases (show u = Value.ref a from rx)
    obtain ⟨_, _, vs, _, p⟩ := (show ObjOk X.prog X.w H s.heap a (.dK kvs) from I.hok a _ ea)
    obtain ⟨o, es, ep, h1, h2, _⟩ := p
    exact PySem.W.kia_one PySem.W.kitx_dict I.kIn ⟨o, h1, h2.1⟩ e (fun z => nomatch z) h
  | @dT a kvs ea =>
    cases (show u = Value.ref a from rx)
    obtain ⟨_, _, xs, _, o, es, ep, h1, h2, _⟩ := (show ObjOk X.prog X.w H s.heap a (.dT kvs) from I.hok a _ ea)
    exact PySem.W.kia_one PySem.W.kitx_dict I.kIn ⟨o, h1, h2.1⟩ e (fun z => nomatch z) h
  | @ins a C dx fs ea cl ha hn htk hm =>
    cases (show u = Value.ref a from rx)
    obtain ⟨mA, O, _⟩ := ins_get I.hok ea
    obtain ⟨od, J, _⟩ := O.look
    exact PySem.W.kia_one (PySem.W.kitx_own (cl.get _) cl.hd ha hn htk hm) I.kIn J e (fun z => nomatch z) h
end
end L2

namespace L2
open PySem PySem.Spec PyProof.Rows

/-! ### room -/
structure Room (k : Nat) (A : Around) : Prop where
  hd : A.handled = none
  dp : A.depth + 3 * k + 5 < recursionLimit
  un : A.units + 16 * k + 200 < cLine
theorem Room.mono {j k : Nat} {A : Around} (r : Room k A) (h : j ≤ k) : Room j A := ⟨r.hd, by have := r.dp; omega, by have := r.un; omega⟩
theorem Room.deeper {k : Nat} {A : Around} (r : Room (k + 1) A) (env : Env) : Room k (A.deeper env) :=
  ⟨r.hd, by have := r.dp; show A.depth + 1 + 3 * k + 5 < _; omega, by have := r.un; show A.units + 3 + 16 * k + 200 < _; omega⟩
theorem make_depth {A : Around} {C : Addr} {us : List Value} {kw : List (Str × Value)} : (A.under (.builtin "type.__call__" ⟨.ref C :: us, kw⟩)).depth = A.depth + 1 := by
  first | rfl | simp [Around.under, Code.weight, Code.isCreation, Code.isGuard, Code.isCaller, Code.frames, Code.isFrame, guardIds]
theorem make_units {A : Around} {C : Addr} {us : List Value} {kw : List (Str × Value)} : (A.under (.builtin "type.__call__" ⟨.ref C :: us, kw⟩)).units = A.units + 1 := by
  first | rfl | simp [Around.under, Code.cUnits, Code.frames, Code.isFrame]
theorem Room.make {k : Nat} {A : Around} (r : Room (k + 1) A) (C : Addr) (us : List Value) (kw : List (Str × Value)) : Room k (A.under (.builtin "type.__call__" ⟨.ref C :: us, kw⟩)) :=
  ⟨r.hd, by have := r.dp; rw [make_depth]; omega, by have := r.un; rw [make_units]; omega⟩
theorem Room.depth {k : Nat} {A : Around} (r : Room k A) : A.depth < recursionLimit := by have := r.dp; omega
theorem Room.units {k : Nat} {A : Around} (r : Room k A) : A.units + 64 < cLine := by have := r.un; omega

/-! ### argument lists and displays -/
def tNil : TA := fun _ H Q => Q [] H
def tCons (ta : TE) (tr : TA) : TA := fun σ H Q => ta σ H fun x H1 => tr σ H1 fun xs H2 => Q (x :: xs) H2
section
variable {X : Cx} {e : Expr} {es : List Expr} {te : TE} {t : TA} {pos : Pos}
theorem pa_nil : PA X [] tNil := fun _ _ _ _ H Q I h => Calls.spliced_nil ⟨[], H, I, .nil, h⟩
theorem pa_cons (ha : PE X e te) (hr : PA X es t) (hs : starEach (e :: es) X.env = (false, eval e X.env) :: starEach es X.env := by rfl) : PA X (e :: es) (tCons te t) := by
  intro pos pins s σ H Q I h
  rw [hs]
  show wpAny _ _ (spliced ((false, eval e X.env) :: backTo pos (starEach es X.env))) _ _ s
  refine Calls.spliced_cons (thn (ha pins s σ H _ I h) fun u s1 ⟨x, H1, I1, r1, q1⟩ => ?_)
  exact thn (hr pos pins s1 σ H1 _ I1 q1) fun us s2 ⟨xs, H2, I2, r2, q2⟩ => ⟨x :: xs, H2, I2, .cons r1 r2, q2⟩

/-- a tuple, a list of written items -/
def tTup (t : TA) : TE := fun σ H Q => t σ H fun xs H1 => xs.length ≤ sizeLine ∧ ∀ p, H1 p = none → Q (.ref p) (upd H1 p (.tup xs))
def tLst (t : TA) : TE := fun σ H Q => t σ H fun xs H1 => xs.length ≤ sizeLine ∧ ∀ p, H1 p = none → Q (.ref p) (upd H1 p (.lst xs))
theorem pe_tup {x1} (h : PA X es t) : PE X (.Tuple es x1 pos) (tTup t) := by
  intro pins s σ H Q I hq
  refine wpAny_Tuple_spliced (thn (h pos pins s σ H _ I hq) fun us s1 ⟨xs, H1, I1, r, z, q⟩ => ⟨by rw [← r.length]; exact z, ?_⟩)
  have hf : H1 s1.heap.objs.size = none := I1.hok.fresh (Nat.le_refl _)
  refine ⟨.ref s1.heap.objs.size, upd H1 s1.heap.objs.size (.tup xs), I1.laid (t' := s1.toks) (fun b u e => Heap.get?_push_of_some _ e) (Nat.le_refl _) ?_, rfl, q _ hf⟩
  exact ⟨z, us, r, ⟨_, Heap.get?_push_size _ rfl, rfl, _, rfl⟩⟩
theorem pe_lst (h : PA X es t) : PE X (.List es pos) (tLst t) := by
  intro pins s σ H Q I hq
  refine wpAny_List_spliced (thn (h pos pins s σ H _ I hq) fun us s1 ⟨xs, H1, I1, r, z, q⟩ => ⟨by rw [← r.length]; exact z, ?_⟩)
  have hf : H1 s1.heap.objs.size = none := I1.hok.fresh (Nat.le_refl _)
  refine ⟨.ref s1.heap.objs.size, upd H1 s1.heap.objs.size (.lst xs), I1.laid (t' := s1.toks) (fun b u e => Heap.get?_push_of_some _ e) (Nat.le_refl _) ?_, rfl, q _ hf⟩
  exact ⟨z, us, 0, r, Heap.get?_push_size _ rfl⟩
end

/-! ### what a def promises -/
/-- a def's promise: the bound arguments in the parameters' order, the heap, the wanted end, the wanted exception -/
abbrev Sp := List V → Hp → VK → XK → Prop
/-- how an exception lies behind a call (file 08 gives it): the callers' frames, abstract heap and state ahead of the call, the wish, the exception, the state -/
abbrev CXT := List Env → Hp → Shared → XK → Value → Shared → Prop

/-- the state at a call -/
structure Env0 (P : Program) (w : World) (K : PySem.W.Frag) (mg : Str → Option Value) (base : Heap) (A : Around) (outer : List Env) (s : Shared) (H : Hp) : Prop where
  frames : A.frames = some outer
  mod : Mod K mg base
  bs : ∀ b o, base.get? b = some o → s.heap.get? b = some o ∧ H b = none
  bsz : base.objs.size ≤ s.heap.objs.size
  funs : s.heap.FunFrames base outer
  frf : ∀ b ∈ frs outer, H b = none
  hok : HOk P w H s.heap
  bare : AllBare s.gens
/-- a call's end -/
def CE (outer : List Env) (P : Program) (w : World) (H : Hp) (s : Shared) (Q : VK) (u : Value) (s' : Shared) : Prop :=
  ∃ v H', s'.os = s.os ∧ AllBare s'.gens ∧ Un (frs outer) [] H H' s.heap s'.heap ∧ HOk P w H' s'.heap ∧ RelV v u ∧ Q v H'
def CR (CX : CXT) (outer : List Env) (P : Program) (w : World) (H : Hp) (s : Shared) (Q : VK) (E : XK) (r : Result) (s' : Shared) : Prop :=
  match r with
  | .ok (.ret u) => CE outer P w H s Q u s'
  | .ok _ => False
  | .error e => CX outer H s E e s'
structure FnOk (P : Program) (w : World) (K : PySem.W.Frag) (mg : Str → Option Value) (base : Heap) (CX : CXT) (k : Nat) (f : Addr) (fd : FuncData) (ps : List Str) (sp : Sp) : Prop where
  len : ∀ vs H Q E, sp vs H Q E → vs.length = ps.length
  run : ∀ (A : Around) (outer : List Env) (s : Shared) (H : Hp) (args : Args) (us : List Value) (vs : List V) (Q : VK) (E : XK), Room k A → Env0 P w K mg base A outer s H → BindsTo s fd args (ps.zip us) → Vals vs us → sp vs H Q E →
    codeAny (model P w) A (.call (.ref f) args) (CR CX outer P w H s Q E) s
theorem FnOk.mono {P : Program} {w : World} {K : PySem.W.Frag} {mg : Str → Option Value} {base : Heap} {CX : CXT} {j k : Nat} {f : Addr} {fd : FuncData} {ps : List Str} {sp : Sp} (F : FnOk P w K mg base CX j f fd ps sp) (h : j ≤ k) :
    FnOk P w K mg base CX k f fd ps sp := ⟨F.len, fun A outer s H args us vs Q E hr => F.run A outer s H args us vs Q E (hr.mono h)⟩

theorem Env0.make {P : Program} {w : World} {K : PySem.W.Frag} {mg : Str → Option Value} {base : Heap} {A : Around} {outer : List Env} {s : Shared} {H : Hp} (e : Env0 P w K mg base A outer s H) (C : Addr) (us : List Value) (kw : List (Str × Value)) :
    Env0 P w K mg base (A.under (.builtin "type.__call__" ⟨.ref C :: us, kw⟩)) outer s H := ⟨by first | exact e.frames | (simpa [Around.under, Code.envs, Code.isFrame, pushEnvs] using e.frames), e.mod, e.bs, e.bsz, e.funs, e.frf, e.hok, e.bare⟩

section
variable {X : Cx} {pins : List (Addr × Obj)} {σ : St} {H : Hp} {s s' : Shared}
/-- from a body: what a callee wants -/
theorem Inv.env0 (I : Inv X pins σ H s) : Env0 X.prog X.w X.K X.mg X.base X.A X.stack s H :=
  ⟨I.ok.frames, I.ok.mod, I.bs, Nat.le_trans I.ok.bsz I.sz, I.stack, I.stkFree, I.hok, I.bare⟩
/-- behind a call -/
theorem Inv.after {Q : VK} {u : Value} (I : Inv X pins σ H s) (h : CE X.stack X.prog X.w H s Q u s') : EP X pins σ Q u s' := by
  obtain ⟨v, H', os, bare, un, hok, r, q⟩ := h
  obtain ⟨hh, g, d, t, os'⟩ := s'
  obtain rfl : os' = s.os := os
  exact ⟨v, H', I.call (h' := hh) (g' := g) (d' := d) (t' := t) (ch := []) un hok bare (fun b z => absurd z (by simp)), r, q⟩
end

/-! ### calls -/
/-- f(..): the written arguments, then the defaults dvs; E: what is wanted of an exception -/
def tCall (sp : Sp) (dvs : List V) (E : XK) (t : TA) : TE := fun σ H Q => t σ H fun vs H1 => sp (vs ++ dvs) H1 Q E
/-- o.m(..) of an instance of the class at C -/
def tMeth (C : Addr) (m : Str) (sp : Sp) (dvs : List V) (E : XK) (ta : TE) (t : TA) : TE := fun σ H Q => ta σ H fun x H1 => ∃ a dx fs, x = .ref a ∧ H1 a = some (.ins C dx fs) ∧ fs.lookup m = none ∧
  t σ H1 fun vs H2 => sp (x :: (vs ++ dvs)) H2 Q E
/-- C(..): a new instance and its dict, then __init__ -/
def tMake (C : Addr) (sp : Sp) (dvs : List V) (E : XK) (t : TA) : TE := fun σ H Q => t σ H fun vs H1 => ∀ x dx, H1 x = none → H1 dx = none → dx ≠ x →
  sp (.ref x :: (vs ++ dvs)) (upd (upd H1 dx (.own x)) x (.ins C dx [])) (fun v H2 => v = .non ∧ Q (.ref x) H2) E

/-- how the parameters are bound: us the positional arguments, kw the keywords' values by name, ds the defaults that fill up -/
def Binds (K : PySem.W.Frag) (fd : FuncData) (ps : List Str) (ds : List Value) : Prop :=
  ∀ (s : Shared) (us : List Value), K.In s.heap → (us ++ ds).length = ps.length → BindsTo s fd ⟨us, []⟩ (ps.zip (us ++ ds))
/-- every parameter is given -/
theorem Binds.all {K : PySem.W.Frag} {fd : FuncData} {ps : List Str} (h : ∀ us : List Value, us.length = ps.length → bindArgs fd ⟨us, []⟩ = pure (ps.zip us)) : Binds K fd ps [] := fun s us _ hl => by
  rw [List.append_nil] at hl ⊢
  exact .of_eq (h us hl)

/-- an exception of a callee reaches what this body wants of exceptions -/
def Passes (CX : CXT) (X : Cx) (E : XK) : Prop := ∀ (pins : List (Addr × Obj)) (σ : St) (H : Hp) (s : Shared) (e : Value) (s' : Shared), Inv X pins σ H s → CX X.stack H s E e s' → X.xe e s'

section
variable {X : Cx} {CX : CXT} {k : Nat} {f C : Addr} {fd : FuncData} {ps : List Str} {sp : Sp} {dvs : List V} {ds : List Value} {E : XK} {x m : Str} {p pos apos : Pos} {e o : Expr} {es : List Expr} {ta : TE} {t : TA}

/-- the callee runs -/
theorem run_fn {pins : List (Addr × Obj)} {σ : St} {H : Hp} {s : Shared} {Q : VK} {us : List Value} {vs : List V} (F : FnOk X.prog X.w X.K X.mg X.base CX k f fd ps sp) (hr : Room k X.A) (hb : Binds X.K fd ps ds) (hd : Vals dvs ds) (hx : Passes CX X E)
    (I : Inv X pins σ H s) (r : Vals vs us) (h : sp (vs ++ dvs) H Q E) : wpAny (model X.prog X.w) X.A (call (.ref f) us) (EP X pins σ Q) X.xe s := by
  have r2 : Vals (vs ++ dvs) (us ++ ds) := r.append hd
  have hl : (us ++ ds).length = ps.length := by rw [← r2.length]; exact F.len _ _ _ _ h
  refine wpAny_call (codeAny_mono (F.run X.A X.stack s H ⟨us, []⟩ (us ++ ds) (vs ++ dvs) Q E hr I.env0 (hb s us I.kIn hl) r2 h) fun r s' hq => ?_)
  cases r with
  | error e => exact hx pins σ H s e s' I hq
  | ok fl =>
    cases fl with
    | ret u => exact I.after hq
    | next => exact False.elim hq
    | brk => exact False.elim hq
    | cont => exact False.elim hq

theorem pe_call (F : FnOk X.prog X.w X.K X.mg X.base CX k f fd ps sp) (hr : Room k X.A) (hg : Gl X x) (hm : X.mg x = some (.ref f)) (hk : PySem.W.keepIn X.K (.ref f) = true) (hb : Binds X.K fd ps ds) (hd : Vals dvs ds) (hx : Passes CX X E)
    (ha : PA X (e :: es) t) (hdb : (x == ("__debug__" : Str)) = false := by decide) (he : starEach (e :: es) X.env = (false, eval e X.env) :: starEach es X.env := by rfl) (hpl : (backTo pos (starEach es X.env)).any (·.1) = false := by rfl) :
    PE X (.Call (.Name x p) (e :: es) [] pos) (tCall sp dvs E t) := by
  intro pins s σ H Q I h
  refine wpAny_Call_Name_kw (ld_glob I hg hm ?_ hdb)
  refine PySem.W.callWith_K (h₀ := X.base) I.ok.mod.kin hk (thn (ha pos pins s σ H _ I h) fun us s1 ⟨vs, H1, I1, r, q⟩ => ⟨I1.kIn, ?_⟩) he hpl
  exact run_fn F hr hb hd hx I1 r q

/-- o.m(e, ..) -/
theorem pe_meth {pl : Sem Bool} (he : PE X o ta) (c : Cls X.K C) (hm : Meth X.K C m f) (F : FnOk X.prog X.w X.K X.mg X.base CX k f fd ps sp) (hr : Room k X.A) (hb : Binds X.K fd ps ds) (hd : Vals dvs ds) (hx : Passes CX X E) (ha : PA X (e :: es) t)
    (hst : starEach (e :: es) X.env = (false, eval e X.env) :: starEach es X.env := by rfl) (hpl : (backTo pos (starEach es X.env)).any (·.1) = false := by rfl)
    (ht : eval (.Call (.Attribute o m apos) (e :: es) [] pos) X.env = (do
      let ov ← eval o X.env
      standAt apos.atName
      let (f, first) ← holding [ov] (getMethod ov m pl)
      callWith pos f first (backTo pos (starEach (e :: es) X.env)) (backToKw pos (keywordEach [] X.env))) := by rfl) :
    PE X (.Call (.Attribute o m apos) (e :: es) [] pos) (tMeth C m sp dvs E ta t) := by
  intro pins s σ H Q I h
  refine PySem.W.methodCall_KW (pl := pl) (thn (he pins s σ H _ I h) fun u s1 ⟨x, H1, I1, rx, a, dx, fs, ex, ea, l, q⟩ => ?_) ht
  subst ex
  obtain rfl : u = Value.ref a := rx
  refine getmeth_ok I1 ea c hm l ?_
  refine PySem.W.callWith_K (first := [.ref a]) (h₀ := X.base) I.ok.mod.kin hm.kp (thn (ha pos pins s1 σ H1 _ I1 q) fun us s2 ⟨vs, H2, I2, r, q2⟩ => ⟨I2.kIn, ?_⟩) hst hpl
  exact run_fn (us := .ref a :: us) (vs := .ref a :: vs) F hr hb hd hx I2 (.cons rfl r) q2
/-- o.m() -/
theorem pe_meth0 {pl : Sem Bool} (he : PE X o ta) (c : Cls X.K C) (hm : Meth X.K C m f) (F : FnOk X.prog X.w X.K X.mg X.base CX k f fd ps sp) (hr : Room k X.A) (hb : Binds X.K fd ps ds) (hd : Vals dvs ds) (hx : Passes CX X E)
    (ht : eval (.Call (.Attribute o m apos) [] [] pos) X.env = (do
      let ov ← eval o X.env
      standAt apos.atName
      let (f, first) ← holding [ov] (getMethod ov m pl)
      callWith pos f first (backTo pos (starEach [] X.env)) (backToKw pos (keywordEach [] X.env))) := by rfl) :
    PE X (.Call (.Attribute o m apos) [] [] pos) (tMeth C m sp dvs E ta tNil) := by
  intro pins s σ H Q I h
  refine PySem.W.methodCall_KW (pl := pl) (thn (he pins s σ H _ I h) fun u s1 ⟨x, H1, I1, rx, a, dx, fs, ex, ea, l, q⟩ => ?_) ht
  subst ex
  obtain rfl : u = Value.ref a := rx
  refine getmeth_ok I1 ea c hm l ?_
  exact PySem.W.callWith_K0 (first := [.ref a]) I1.kIn hm.kp (run_fn (us := [.ref a]) (vs := [.ref a]) F hr hb hd hx I1 (.cons rfl .nil) q)

/-- what a class must have to be made -/
structure Mk (K : PySem.W.Frag) (C f : Addr) : Prop where
  makes : PySem.W.makesIn K C = true
  init : PySem.W.findIn K (.ref C) "__init__" = some (some (.ref f))
  fn : PySem.W.isFn K (.ref f) = true
  kp : PySem.W.keepIn K (.ref C) = true

theorem run_make {pins : List (Addr × Obj)} {σ : St} {H : Hp} {s : Shared} {Q : VK} {us : List Value} {vs : List V} (M : Mk X.K C f) (F : FnOk X.prog X.w X.K X.mg X.base CX k f fd ps sp) (hr : Room (k + 1) X.A) (hb : Binds X.K fd ps ds) (hd : Vals dvs ds)
    (hx : Passes CX X E) (I : Inv X pins σ H s) (r : Vals vs us)
    (h : ∀ x dx, H x = none → H dx = none → dx ≠ x → sp (.ref x :: (vs ++ dvs)) (upd (upd H dx (.own x)) x (.ins C dx [])) (fun v H2 => v = .non ∧ Q (.ref x) H2) E) :
    wpAny (model X.prog X.w) X.A (call (.ref C) us) (EP X pins σ Q) X.xe s := by
  have hq := h (s.heap.objs.size + 1) s.heap.objs.size (I.hok.fresh (Nat.le_succ _)) (I.hok.fresh (Nat.le_refl _)) (Nat.ne_of_lt (Nat.lt_succ_self _))
  have I2 := Inv.made (C := C) I
  have r2 : Vals (V.ref (s.heap.objs.size + 1) :: (vs ++ dvs)) (Value.ref (s.heap.objs.size + 1) :: (us ++ ds)) := .cons rfl (r.append hd)
  have hl : (Value.ref (s.heap.objs.size + 1) :: us ++ ds).length = ps.length := by
    have e := r2.length
    rw [F.len _ _ _ _ hq] at e
    exact e.symm
  refine wpAny_call (make_map (f := f) I.kIn M.makes M.init (beq_iff_eq.mp M.fn) (codeAny_mono (F.run _ X.stack _ _ ⟨Value.ref (s.heap.objs.size + 1) :: us, []⟩ (Value.ref (s.heap.objs.size + 1) :: (us ++ ds)) _ _ E (hr.make C us [])
    (I2.env0.make C us []) (hb _ (Value.ref (s.heap.objs.size + 1) :: us) I2.kIn hl) r2 hq) fun r s' hq' => ?_))
  cases r with
  | error e => exact hx pins σ _ _ e s' I2 hq'
  | ok fl =>
    cases fl with
    | ret u =>
      obtain ⟨v, H', I3, rv, ev, q3⟩ := I2.after hq'
      subst ev
      exact ⟨rv, ⟨V.ref (s.heap.objs.size + 1), H', I3, rfl, q3⟩⟩
    | next => exact False.elim hq'
    | brk => exact False.elim hq'
    | cont => exact False.elim hq'
theorem pe_make (M : Mk X.K C f) (F : FnOk X.prog X.w X.K X.mg X.base CX k f fd ps sp) (hr : Room (k + 1) X.A) (hg : Gl X x) (hm : X.mg x = some (.ref C)) (hb : Binds X.K fd ps ds) (hd : Vals dvs ds) (hx : Passes CX X E)
    (ha : PA X (e :: es) t) (hdb : (x == ("__debug__" : Str)) = false := by decide) (he : starEach (e :: es) X.env = (false, eval e X.env) :: starEach es X.env := by rfl) (hpl : (backTo pos (starEach es X.env)).any (·.1) = false := by rfl) :
    PE X (.Call (.Name x p) (e :: es) [] pos) (tMake C sp dvs E t) := by
  intro pins s σ H Q I h
  refine wpAny_Call_Name_kw (ld_glob I hg hm ?_ hdb)
  refine PySem.W.callWith_K (h₀ := X.base) I.ok.mod.kin M.kp (thn (ha pos pins s σ H _ I h) fun us s1 ⟨vs, H1, I1, r, q⟩ => ⟨I1.kIn, ?_⟩) he hpl
  exact run_make M F hr hb hd hx I1 r q
theorem pe_make0 (M : Mk X.K C f) (F : FnOk X.prog X.w X.K X.mg X.base CX k f fd ps sp) (hr : Room (k + 1) X.A) (hg : Gl X x) (hm : X.mg x = some (.ref C)) (hb : Binds X.K fd ps ds) (hd : Vals dvs ds) (hx : Passes CX X E)
    (hdb : (x == ("__debug__" : Str)) = false := by decide) : PE X (.Call (.Name x p) [] [] pos) (tMake C sp dvs E tNil) := by
  intro pins s σ H Q I h
  refine wpAny_Call_Name_kw (ld_glob I hg hm ?_ hdb)
  exact PySem.W.callWith_K0 I.kIn M.kp (run_make (us := []) M F hr hb hd hx I .nil h)
end

/-! ### keywords -/
section
variable {X : Cx} {CX : CXT} {k : Nat} {f C : Addr} {fd : FuncData} {ps ks : List Str} {sp : Sp} {E : XK} {x m : Str} {p pos apos kpos : Pos} {e o : Expr} {es : List Expr} {kws : List Keyword} {te ta : TE} {t tk : TA} {nm : Option Str}

variable {g : List Value → List Value → List Value} {gV : List V → List V → List V}
end

/-! ### a def's body keeps its promise -/
/-- names: the parameters first -/
structure FnScope (N P : List Str) (sc : Scope) : Prop where
  kind : sc.kind = .function
  co : sc.isCoroutine = false
  gen : sc.isGenerator = false
  nd : N.Nodup
  pre : N.take P.length = P
  par : ∀ x ∈ P, sc.names.lookup x = some .local ∨ sc.names.lookup x = some .cell
  nofree : ∀ y ∈ sc.names, y.2 ≠ .free

theorem bindL_out {kindOf : Str → Option NameKind} {x : Str} : ∀ {binds : List (Str × Value)} {m : Str → Option Value}, (∀ v, (x, v) ∉ binds) → bindL kindOf binds m x = m x
  | [], _, _ => rfl
  | (n, v) :: r, m, h => by
    unfold bindL
    rw [bindL_out fun w hw => h w (List.mem_cons_of_mem _ hw)]
    split
    · have : x ≠ n := by rintro rfl; exact h v List.mem_cons_self
      simp [this]
    · rfl
theorem bindC_out {kindOf : Str → Option NameKind} {x : Str} : ∀ {binds : List (Str × Value)} {m : Str → Option Value}, (∀ v, (x, v) ∉ binds) → bindC kindOf binds m x = m x
  | [], _, _ => rfl
  | (n, v) :: r, m, h => by
    unfold bindC
    rw [bindC_out fun w hw => h w (List.mem_cons_of_mem _ hw)]
    split
    · rfl
    · have : x ≠ n := by rintro rfl; exact h v List.mem_cons_self
      simp [this]
theorem bindL_get {kindOf : Str → Option NameKind} {x : Str} {v : Value} : ∀ {P : List Str} {vs : List Value} {i : Nat} {m : Str → Option Value}, P.Nodup → P[i]? = some x → vs[i]? = some v → kindOf x = some .local →
    bindL kindOf (P.zip vs) m x = some v
  | [], _, _, _, _, h, _, _ => by simp at h
  | _ :: _, [], _, _, _, _, h, _ => by simp at h
  | p :: P, w :: vs, 0, m, nd, h1, h2, hk => by
    simp at h1 h2; subst h1; subst h2
    show bindL kindOf ((p, w) :: P.zip vs) m p = _
    unfold bindL
    rw [bindL_out fun v hv => (List.nodup_cons.mp nd).1 (List.of_mem_zip hv).1, if_pos hk]
    simp
  | p :: P, w :: vs, i + 1, m, nd, h1, h2, hk => by
    show bindL kindOf ((p, w) :: P.zip vs) m x = _
    unfold bindL
    exact bindL_get (i := i) (List.nodup_cons.mp nd).2 (by simpa using h1) (by simpa using h2) hk
theorem bindC_get {kindOf : Str → Option NameKind} {x : Str} {v : Value} : ∀ {P : List Str} {vs : List Value} {i : Nat} {m : Str → Option Value}, P.Nodup → P[i]? = some x → vs[i]? = some v → kindOf x ≠ some .local →
    bindC kindOf (P.zip vs) m x = some v
  | [], _, _, _, _, h, _, _ => by simp at h
  | _ :: _, [], _, _, _, _, h, _ => by simp at h
  | p :: P, w :: vs, 0, m, nd, h1, h2, hk => by
    simp at h1 h2; subst h1; subst h2
    show bindC kindOf ((p, w) :: P.zip vs) m p = _
    unfold bindC
    rw [bindC_out fun v hv => (List.nodup_cons.mp nd).1 (List.of_mem_zip hv).1, if_neg hk]
    simp
  | p :: P, w :: vs, i + 1, m, nd, h1, h2, hk => by
    show bindC kindOf ((p, w) :: P.zip vs) m x = _
    unfold bindC
    exact bindC_get (i := i) (List.nodup_cons.mp nd).2 (by simpa using h1) (by simpa using h2) hk

/-- the names' values at the entry -/
def start (N : List Str) (vs : List V) : St := vs.map some ++ List.replicate (N.length - vs.length) none

/-- the context of a def's body, at its entry; an exception leaves the frame, then lies as CX says -/
def cxOf (CX : CXT) (P : Program) (w : World) (K : PySem.W.Frag) (mg : Str → Option Value) (base : Heap) (N : List Str) (qual : Str) (scope : Scope) (f : Addr) (cd : Value) (A : Around) (outer : List Env) (s : Shared) (H : Hp) (E : XK) : Cx where
  prog := P
  w := w
  K := K
  mg := mg
  base := base
  A := A.deeper (envOfC qual scope s.heap.objs.size f cd)
  N := N
  s₀ := s
  H₀ := H
  env := envOfC qual scope s.heap.objs.size f cd
  outer := outer
  stack := envOfC qual scope s.heap.objs.size f cd :: outer
  ex := []
  calm := true
  fn := fun _ => true
  pn := []
  xe := fun e s' => wpAny (model P w) (A.deeper (envOfC qual scope s.heap.objs.size f cd)) (leaving (envOfC qual scope s.heap.objs.size f cd) e) (fun _ s'' => CX outer H s E e s'') (fun e' s'' => CX outer H s E e' s'') s'

theorem cell_has {sc : Scope} {n : Nat} {x : Str} (h : sc.names.lookup x = some .cell) : ∃ c, (cellsFrom n sc.names []).lookup x = some c := by
  have q := PySem.W.cellsFrom_some sc.names n [] (.inl h)
  exact Option.isSome_iff_exists.mp q

theorem inv_start {CX : CXT} {P : Program} {w : World} {K : PySem.W.Frag} {mg : Str → Option Value} {base : Heap} {N ps : List Str} {qual : Str} {scope : Scope} {f : Addr} {cd : Value} {A : Around} {outer : List Env} {s s1 : Shared} {H : Hp} {E : XK} {us : List Value} {vs : List V}
    (S : FnScope N ps scope) (hd : A.handled = none) (e0 : Env0 P w K mg base A outer s H) (hl : vs.length = ps.length) (r : Vals vs us)
    (x : InCallC s s.heap.objs.size (bindL (envOfC qual scope s.heap.objs.size f cd).kindOf (ps.zip us) fun _ => none) (cellsFrom (s.heap.objs.size + 1) scope.names []) (bindC (envOfC qual scope s.heap.objs.size f cd).kindOf (ps.zip us) fun _ => none) s1) :
    Inv (cxOf CX P w K mg base N qual scope f cd A outer s H E) [] (start N vs) H s1 := by
  have hpl : ps.length ≤ N.length := by have := congrArg List.length S.pre; rw [List.length_take] at this; omega
  obtain ⟨h1, tk, rfl, hk⟩ := x.done
  have noA : ∀ b : Addr, b ∉ (cxOf CX P w K mg base N qual scope f cd A outer s H E).ex := fun b z => absurd (show b ∈ ([] : List Addr) from z) (by simp)
  refine ⟨⟨e0.mod, S.kind, rfl, rfl, Nat.le_refl _, fun y z c h1 h2 => ?_, fun y hy => ?_, fun y c _ h => ?_, fun _ => hd, Around.frames_deeper e0.frames, .inr ⟨rfl, rfl⟩, fun b z => absurd z (noA b), e0.bs, e0.bsz, fun b _ _ => noA b, fun b z => absurd z (noA b), e0.funs, e0.frf⟩,
    rfl, e0.bare, Un.kept hk, ⟨_, x.toInCall.ns, fun i y v h1 h2 h3 => ?_⟩, fun y c h => ⟨_, x.cell y c h⟩, e0.hok.fresh (Nat.le_refl _), fun y c h => ?_, fun p hp => absurd (show p ∈ ([] : List (Addr × Obj)) from hp) (by simp), e0.hok.kept hk, ?_⟩
  · exact name_of_addr x.apart (PySem.mem_of_lookup h1) (PySem.mem_of_lookup h2)
  · have hy : scope.names.lookup y = some .cell ∨ scope.names.lookup y = some .free := hy
    rcases hy with hy | hy
    · exact cell_has hy
    · exact absurd rfl (S.nofree _ (PySem.mem_of_lookup hy))
  · exact Nat.le_of_lt (x.above y c (PySem.mem_of_lookup h))
  · have hi : i < vs.length := by
      unfold start at h2
      by_cases hi : i < vs.length
      · exact hi
      · rw [List.getElem?_append_right (by simpa using hi)] at h2
        rw [List.getElem?_replicate] at h2
        split at h2 <;> cases h2
    have ha : vs[i]? = some v := by
      unfold start at h2
      rw [List.getElem?_append_left (by simpa using hi), List.getElem?_map] at h2
      cases e : vs[i]? with
      | none => rw [e] at h2; cases h2
      | some a => rw [e] at h2; cases h2; rfl
    obtain ⟨u, hu, rv⟩ := r.get ha
    have hp : ps[i]? = some y := by
      rw [← S.pre, List.getElem?_take_of_lt (by omega)]; exact h1
    have ndP : ps.Nodup := by rw [← S.pre]; exact S.nd.sublist (List.take_sublist _ _)
    refine ⟨u, rv, ?_⟩
    rcases S.par y (List.mem_of_getElem? hp) with k | k
    · exact .inl ⟨k, bindL_get ndP hp hu k⟩
    · obtain ⟨c, e⟩ := cell_has (n := s.heap.objs.size + 1) k
      refine .inr ⟨.inl k, c, e, ?_⟩
      have q := x.cell y c e
      rw [bindC_get ndP hp hu (by show scope.names.lookup y ≠ _; rw [k]; decide)] at q
      exact q
  · exact e0.hok.fresh (Nat.le_of_lt (x.above y c (PySem.mem_of_lookup h)))
  · unfold start
    show _ = N.length
    rw [List.length_append, List.length_map, List.length_replicate]
    omega

/-- THE RULE: a def (or a method) of the text, by its body. The body's reading t is chosen for each entry; it is run at the parameters' values -/
theorem fn_of {CX : CXT} {P : Program} {w : World} {K : PySem.W.Frag} {mg : Str → Option Value} {base : Heap} {k : Nat} {f : Addr} {name qual : Str} {params : Arguments} {body : List Stmt} {scope : Scope} {dV kV doc pm cdv ct oc : Value} {an od : Option Addr}
    {osl : Array (Option Value)} {N ps : List Str} {sp : Sp} (lk : K.lookup f = some ⟨oc, od, .func (PySem.W.fnOf name qual params body scope dV kV doc pm an cdv ct), osl⟩) (hcd : PySem.W.codeIn K cdv qual = true) (S : FnScope N ps scope)
    (len : ∀ vs H Q E, sp vs H Q E → vs.length = ps.length)
    (hbody : ∀ (A : Around) (outer : List Env) (s : Shared) (H : Hp) (vs : List V) (Q : VK) (E : XK), Room k (A.deeper (envOfC qual scope s.heap.objs.size f cdv)) → sp vs H Q E →
      ∃ t, PSs (cxOf CX P w K mg base N qual scope f cdv A outer s H E) body t ∧ t { nx := fun _ H' => Q .non H', rt := Q } (start N vs) H) :
    FnOk P w K mg base CX (k + 1) f (PySem.W.fnOf name qual params body scope dV kV doc pm an cdv ct) ps sp := by
  refine ⟨len, fun A outer s H args us vs Q E hr e0 hb r hsp => ?_⟩
  have hl := len _ _ _ _ hsp
  have KX : K.In s.heap := e0.mod.kin.keeps fun b o e => (e0.bs b o e).1
  have lim : s.heap.NoLimit := e0.mod.nolimit.keeps fun b o e => (e0.bs b o e).1
  have hkind : ∀ y ∈ ps.zip us, scope.names.lookup y.1 = some .local ∨ (scope.names.lookup y.1 = some .cell ∧ ((cellsFrom (s.heap.objs.size + 1) scope.names []).lookup y.1).isSome = true) := fun ⟨n, v⟩ hy => by
    rcases S.par n (List.of_mem_zip hy).1 with q | q
    · exact .inl q
    · exact .inr ⟨q, PySem.W.cellsFrom_some _ _ _ (.inl q)⟩
  refine codeAny_call_function hr.depth (KX _ _ lk) rfl S.co S.gen rfl (PySem.W.codeRec_of KX hcd) (hb _ _ _ _ ?_)
  refine wpAny_newFunctionEnv_cells S.kind hkind fun env he s1 x => ?_
  subst he
  refine ⟨lim.keeps x.toInCall.keep, codeAny_func ?_⟩
  obtain ⟨t, ht, hq⟩ := hbody A outer s H vs Q E (hr.deeper _) hsp
  have I : Inv (cxOf CX P w K mg base N qual scope f cdv A outer s H E) [] (start N vs) H s1 := inv_start S hr.hd e0 hl r x
  refine wpAny_mono (ht [] s1 (start N vs) H _ I hq) (fun fl s' hs => ?_) fun e s' hs => hs
  have fin : ∀ {σ' : St} {H' : Hp} {v : V} {u : Value}, Inv (cxOf CX P w K mg base N qual scope f cdv A outer s H E) [] σ' H' s' → RelV v u → Q v H' → CE outer P w H s Q u s' :=
    fun {σ' H' v u} J rv q => ⟨v, H', J.os, J.bare, J.base, J.hok, rv, q⟩
  cases fl with
  | ret u =>
    obtain ⟨v, σ', H', J, rv, q⟩ := hs
    exact fin J rv q
  | next =>
    obtain ⟨σ', H', J, q⟩ := hs
    exact fin (v := V.non) (u := Value.none) J rfl q
  | brk =>
    obtain ⟨_, _, _, q⟩ := hs
    exact False.elim q
  | cont =>
    obtain ⟨_, _, _, q⟩ := hs
    exact False.elim q
end L2

namespace L2
open PySem PySem.Spec PyProof.Rows
section
variable {X : Cx} {x : Str} {p pos : Pos} {e : Expr} {es : List Expr} {t : TA} {id T : String} {r : List V → Hp → VK → Prop}

def tCB (r : List V → Hp → VK → Prop) (t : TA) : TE := fun σ H Q => t σ H fun vs H1 => r vs H1 Q
/-- f(e, ..), f a built-in function -/
theorem pe_callB (hc : CallR X (.builtin id) r) (hg : Gl X x) (hm : X.mg x = none) (hv : bootBuiltins x = some (.builtin id)) (ha : PA X (e :: es) t) (hn : x ≠ "__name__" := by decide) (hdb : (x == ("__debug__" : Str)) = false := by decide)
    (he : starEach (e :: es) X.env = (false, eval e X.env) :: starEach es X.env := by rfl) (hpl : (backTo pos (starEach es X.env)).any (·.1) = false := by rfl) : PE X (.Call (.Name x p) (e :: es) [] pos) (tCB r t) := by
  intro pins s σ H Q I h
  refine wpAny_Call_Name_kw (ld_blt I hg hm hv ?_ hn hdb)
  exact PyProof.Rows.callWith_builtin1 (thn (ha pos pins s σ H _ I h) fun us s1 ⟨vs, H1, I1, r1, q1⟩ => hc pins s1 σ H1 vs us Q I1 r1 q1) he hpl
/-- T(e, ..), T a built-in type -/
theorem pe_callTy (hc : CallR X (.type T) r) (hg : Gl X x) (hm : X.mg x = none) (hv : bootBuiltins x = some (.type T)) (ha : PA X (e :: es) t) (hn : x ≠ "__name__" := by decide) (hdb : (x == ("__debug__" : Str)) = false := by decide)
    (he : starEach (e :: es) X.env = (false, eval e X.env) :: starEach es X.env := by rfl) (hpl : (backTo pos (starEach es X.env)).any (·.1) = false := by rfl) : PE X (.Call (.Name x p) (e :: es) [] pos) (tCB r t) := by
  intro pins s σ H Q I h
  refine wpAny_Call_Name_kw (ld_blt I hg hm hv ?_ hn hdb)
  exact PyProof.Rows.callWith_type1 (thn (ha pos pins s σ H _ I h) fun us s1 ⟨vs, H1, I1, r1, q1⟩ => hc pins s1 σ H1 vs us Q I1 r1 q1) he hpl
end
end L2

namespace HT
open PySem PyProof.Rows



section
open PySem.SeqAt
open PySem.AutoSeq1 (wpAny_loadPart')
open PySem.MeetsSeq PySem.MeetsSeq2 PySem.MeetsSeq3

end

section
variable {prog : Program} {w : World} {A : Around} {E : Value → Shared → Prop} {s : Shared}



/-! ### t[a:b], not the whole -/
/-- a slice's bound as a place among n (d where it is left out) -/
def sIx (n d : Nat) : Option Int → Nat
  | none => d
  | some v => if v < 0 then (v + (n : Int)).toNat else min v.toNat n

end
end HT

namespace L2
open PySem PySem.Spec PyProof.Rows

/-! ### the parts of a slice -/
abbrev TO := St → Hp → (Option Int → Hp → Prop) → Prop
/-- a slice's part (left out, or an int) -/
def PO (X : Cx) (e : Option Expr) (t : TO) : Prop :=
  ∀ (pins : List (Addr × Obj)) (s : Shared) (σ : St) (H : Hp) (Q : Option Int → Hp → Prop), Inv X pins σ H s → t σ H Q →
    wpAny (model X.prog X.w) X.A (evalPart e X.env) (fun u s' => ∃ o H', Inv X pins σ H' s' ∧ IsPart u o ∧ Q o H') X.xe s
def tNoPart : TO := fun _ H Q => Q none H
def tPart (t : TE) : TO := fun σ H Q => t σ H fun x H1 => ∃ i, x = .int i ∧ Q (some i) H1


section
variable {X : Cx} {e : Expr} {te : TE} {lo hi : Option Expr} {tl th : TO} {pos p2 : Pos}

theorem po_none : PO X none tNoPart := by
  intro pins s σ H Q I h
  rw [evalPart_none]
  exact wpAny_pure ⟨none, H, I, .none, h⟩
theorem po_some (h : PE X e te) : PO X (some e) (tPart te) := by
  intro pins s σ H Q I hw
  rw [evalPart_some]
  refine thn (h pins s σ H _ I hw) fun u s1 ⟨x, H1, I1, r1, q1⟩ => ?_
  obtain ⟨i, rfl, q⟩ := q1
  obtain ⟨t, rfl⟩ := r1
  exact ⟨some i, H1, I1, .int i t, q⟩

/-- what a slice of a value is, by values: the slice object stands at sl -/
def SlR (X : Cx) (r : V → Option Int → Option Int → Hp → VK → Prop) : Prop :=
  ∀ (pins : List (Addr × Obj)) (s : Shared) (σ : St) (H : Hp) (x : V) (v vl vu : Value) (lo hi : Option Int) (sl : Addr) (Q : VK), Inv X pins σ H s → RelV x v → s.heap.IsSliceOf sl vl vu .none → IsPart vl lo → IsPart vu hi → r x lo hi H Q →
    ∃ T id, typeLookup (.type T) "__getitem__" = pure (some (.builtin id)) ∧ s.TypeIs v T ∧ wpAny (model X.prog X.w) X.A (getItem v (.ref sl)) (EP X pins σ Q) X.xe s
def tSl (r : V → Option Int → Option Int → Hp → VK → Prop) (te : TE) (tl th : TO) : TE := fun σ H Q => te σ H fun x H1 => tl σ H1 fun l H2 => th σ H2 fun u H3 => r x l u H3 Q
/-- a[lo:hi], any a -/
theorem pe_slice {r : V → Option Int → Option Int → Hp → VK → Prop} (hr : SlR X r) (he : PE X e te) (hl : PO X lo tl) (hu : PO X hi th) : PE X (.Subscript e (.Slice lo hi none p2) pos) (tSl r te tl th) := by
  intro pins s σ H Q I h
  refine Subscript_ (thn (he pins s σ H _ I h) fun v s1 ⟨x, H1, I1, r1, q1⟩ => ?_)
  refine wpAny_Slice (thn (hl pins s1 σ H1 _ I1 q1) fun vl s2 ⟨l, H2, I2, pl, q2⟩ => thn (hu pins s2 σ H2 _ I2 q2) fun vu s3 ⟨u, H3, I3, pu, q3⟩ => ?_)
  rw [evalPart_none]
  refine wpAny_pure ?_
  have I4 : Inv X pins σ H3 { s3 with heap := s3.heap.push { cls := .type "slice", data := .fields #[vl, vu, .none] } } := I3.kept (t' := s3.toks) fun b ob q => Heap.get?_push_of_some _ q
  obtain ⟨T, id, hT, ht, hg⟩ := hr pins { s3 with heap := s3.heap.push { cls := .type "slice", data := .fields #[vl, vu, .none] } } σ H3 x v vl vu l u s3.heap.objs.size Q I4 r1 (Heap.IsSliceOf.new ..) pl pu q3
  show wpAny (model X.prog X.w) X.A (subscriptTail e (.Slice lo hi none p2) v (.ref s3.heap.objs.size)) (EP X pins σ Q) X.xe { s3 with heap := s3.heap.push { cls := .type "slice", data := .fields #[vl, vu, .none] } }
  exact tail_any (ops := [.ref s3.heap.objs.size, v]) ht hT hg (by with_unfolding_all rfl)

/-- the items of xs[lo:hi] -/
def cutV (xs : List V) (lo hi : Option Int) : List V := (xs.drop (HT.sIx xs.length 0 lo)).take (HT.sIx xs.length xs.length hi - HT.sIx xs.length 0 lo)
theorem cutV_length (xs : List V) (lo hi : Option Int) : (cutV xs lo hi).length ≤ xs.length := by
  unfold cutV
  rw [List.length_take, List.length_drop]
  omega

/-! ### t < u, t + u -/
end
end L2

namespace L2
open PySem PySem.Spec PyProof.Rows

/-! ### places -/
/-- the place that an index of any sign means -/
def ixN (n : Nat) (i : Int) : Option Nat := if 0 ≤ i then (if i < n then some i.toNat else none) else if -(n : Int) ≤ i then some (i + n).toNat else none
def atI {α : Type} (xs : List α) (i : Int) : Option α := (ixN xs.length i).bind fun j => xs[j]?
theorem ixN_seq {n : Nat} {i : Int} {j : Nat} (h : ixN n i = some j) : seqIndex? i n = some j ∧ j < n ∧ -(n : Int) ≤ i ∧ i < n := by
  unfold ixN at h
  by_cases h0 : 0 ≤ i
  · rw [if_pos h0] at h
    by_cases h1 : i < n
    · rw [if_pos h1] at h
      have e : i.toNat = j := Option.some.inj h
      exact ⟨by rw [seqIndex_of h0 h1, e], by omega, by omega, h1⟩
    · rw [if_neg h1] at h; cases h
  · rw [if_neg h0] at h
    by_cases h1 : -(n : Int) ≤ i
    · rw [if_pos h1] at h
      have e : (i + n).toNat = j := Option.some.inj h
      exact ⟨by rw [seqIndex_neg (by omega) h1, e], by omega, h1, by omega⟩
    · rw [if_neg h1] at h; cases h
theorem atI_get {α : Type} {xs : List α} {i : Int} {v : α} (h : atI xs i = some v) : ∃ j, seqIndex? i xs.length = some j ∧ xs[j]? = some v ∧ j < xs.length ∧ -(xs.length : Int) ≤ i ∧ i < xs.length := by
  unfold atI at h
  cases e : ixN xs.length i with
  | none => rw [e] at h; cases h
  | some j =>
    rw [e] at h
    obtain ⟨h1, h2, h3, h4⟩ := ixN_seq e
    exact ⟨j, h1, h, h2, h3, h4⟩
theorem atI_nat {α : Type} {xs : List α} {j : Nat} {v : α} (h : xs[j]? = some v) : atI xs (j : Int) = some v := by
  have hj : j < xs.length := (List.getElem?_eq_some_iff.mp h).1
  have e : ixN xs.length (j : Int) = some j := by
    unfold ixN
    rw [if_pos (by omega), if_pos (by omega)]; simp
  unfold atI; rw [e]; exact h

/-! ### what may be subscripted -/
/-- what stands as an index of a plain subscript -/
def PlainIx (b : Expr) : Prop := ∀ o i, subscripted b false o i = operate [o, i] (getItem o i)
/-- a subscript by values -/
def IxR (X : Cx) (r : R2) : Prop :=
  ∀ (value slice : Expr) (pins : List (Addr × Obj)) (s : Shared) (σ : St) (H : Hp) (x y : V) (v u : Value) (Q : VK), Inv X pins σ H s → RelV x v → RelV y u → r x y H Q →
    subscripted slice false v u = operate [v, u] (getItem v u) → wpAny (model X.prog X.w) X.A (subscriptTail value slice v u) (EP X pins σ Q) X.xe s
/-- a call of a builtin's method by values: the receiver, the arguments -/
def MtR (X : Cx) (id : String) (r : V → List V → Hp → VK → Prop) : Prop :=
  ∀ (pins : List (Addr × Obj)) (s : Shared) (σ : St) (H : Hp) (x : V) (xs : List V) (v : Value) (us : List Value) (Q : VK), Inv X pins σ H s → RelV x v → Vals xs us → r x xs H Q →
    wpAny (model X.prog X.w) X.A (call (.builtin id) (v :: us)) (EP X pins σ Q) X.xe s
section
variable {X : Cx} {a b : Expr} {ta tb : TE} {pos : Pos}
/-- a[b] -/
theorem pe_ix {r : R2} (hr : IxR X r) (ha : PE X a ta) (hb : PE X b tb) (hs : PlainIx b) : PE X (.Subscript a b pos) (tOp r ta tb) := by
  intro pins s σ H Q I h
  exact Subscript_ (binT ha hb I h fun v u s2 x y H2 I2 rx ry q => hr a b pins s2 σ H2 x y v u Q I2 rx ry q (hs _ _))

def rIxL (K : PySem.W.Frag) : R2 := fun x y H Q => ∃ p xs i v, x = .ref p ∧ y = .int i ∧ SqL K H p xs ∧ atI xs i = some v ∧ Q v H
theorem ix_list : IxR X (rIxL X.K) := by
  intro value slice pins s σ H x y v u Q I rx ry h hs
  obtain ⟨p, xs, i, z, rfl, rfl, hq, he, q⟩ := h
  cases rx
  obtain ⟨t, rfl⟩ := ry
  obtain ⟨its, r, pl, hz⟩ := I.list hq
  obtain ⟨j, h1, h2, h3, h4, h5⟩ := atI_get he
  obtain ⟨w, ew, rw'⟩ := r.get h2
  have hl := r.length
  have hn := line63
  have fin : EP X pins σ Q w s := ⟨z, H, I, rw', q⟩
  by_cases h0 : 0 ≤ i
  · have hj : i.toNat = j := by
      rw [seqIndex_of h0 h5] at h1
      exact Option.some.inj h1
    exact item_listR pl.isList h0 (by omega) (by rw [hj]; simpa using ew) fin hs
  · have hj : (i + (its.toArray.size : Int)).toNat = j := by
      rw [seqIndex_neg (by omega) h4] at h1
      rw [List.size_toArray, ← hl]
      exact Option.some.inj h1
    exact subscriptTail_builtinR (x := w) pl.isList.typeIs slot_list_getitem.lookup
      (wpAny_getItem_list_neg (Q := fun r s' => r = w ∧ EP X pins σ Q r s') pl.isList (by omega) (by rw [List.size_toArray] <;> omega) (by omega) (by rw [hj]; simpa using ew) ⟨rfl, fin⟩) hs

/-! ### xs[i] = v, any sign -/
/-- the list's object behind a store -/
theorem mapSeq_set (its : List Value) (n j : Nat) (u : Value) : Obj.mapSeq (·.setIfInBounds j u) { cls := .type "list", data := .seq its.toArray n } = { cls := .type "list", data := .seq (its.set j u).toArray n } := by
  simp [Obj.mapSeq]
theorem Inv.lst {pins : List (Addr × Obj)} {σ : St} {H : Hp} {s : Shared} {p : Addr} {xs : List V} (I : Inv X pins σ H s) (h : H p = some (.lst xs)) :
    ∃ (its : List Value) (n : Nat), Vals xs its ∧ s.heap.get? p = some { cls := .type "list", data := .seq its.toArray n } ∧ xs.length ≤ sizeLine := by
  obtain ⟨z, its, n, r, e⟩ := I.hok p _ h
  exact ⟨its, n, r, e, z⟩
/-- the list at p is written by an update of its object -/
theorem Inv.lstUpd {pins : List (Addr × Obj)} {σ : St} {H : Hp} {s : Shared} {p : Addr} {xs ys : List V} {its its' : List Value} {n n' : Nat} {f : Obj → Obj} (I : Inv X pins σ H s) (h : H p = some (.lst xs))
    (ho : s.heap.get? p = some { cls := .type "list", data := .seq its.toArray n }) (hf : f { cls := .type "list", data := .seq its.toArray n } = { cls := .type "list", data := .seq its'.toArray n' }) (r : Vals ys its') (hz : ys.length ≤ sizeLine) (t : Nat) :
    Inv X pins σ (upd H p (.lst ys)) { s with heap := s.heap.update p f, toks := t } := by
  have e : (s.heap.update p f).get? p = some { cls := .type "list", data := .seq its'.toArray n' } := by
    rw [Heap.get?_update_self f ho (by rw [hf] <;> rfl), hf]
  refine I.write (x := p) (e := p) (by rw [h]; trivial) (.inl rfl) (fun b u hb q => (Heap.get?_update_other _ _ (Ne.symm hb)).trans q) ⟨_, e⟩ ?_
  exact ⟨hz, its', n', r, e⟩
def rSetL : V → V → V → Hp → (Hp → Prop) → Prop := fun o i v H Q => ∃ p xs k j, o = .ref p ∧ i = .int k ∧ H p = some (.lst xs) ∧ ixN xs.length k = some j ∧ Q (upd H p (.lst (xs.set j v)))
theorem set_list : PSet X rSetL := by
  intro pins s σ H o i v ov iv u Q I ro ri rv h
  obtain ⟨p, xs, k, j, rfl, rfl, hp, hj, q⟩ := h
  cases ro
  obtain ⟨t, rfl⟩ := ri
  obtain ⟨its, n, r, ho, hz⟩ := I.lst hp
  obtain ⟨h1, h2, h3, h4⟩ := ixN_seq hj
  have hl := r.length
  have hn := line63
  have I' : Inv X pins σ (upd H p (.lst (xs.set j v))) { s with heap := s.heap.update p (Obj.mapSeq (·.setIfInBounds j u)) } :=
    I.lstUpd hp ho (mapSeq_set its n j u) (r.set rv j) (by rw [List.length_set]; exact hz) s.toks
  by_cases h0 : 0 ≤ k
  · have hk : k.toNat = j := by
      rw [seqIndex_of h0 h4] at h1
      exact Option.some.inj h1
    exact PySem.W.ki_setAt ho h0 (by omega) (by rw [List.size_toArray, ← hl]; exact h4) (by rw [hk]; exact ⟨_, I', q⟩)
  · have hk : (k + (its.toArray.size : Int)).toNat = j := by
      rw [seqIndex_neg (by omega) h3] at h1
      rw [List.size_toArray, ← hl]
      exact Option.some.inj h1
    exact PySem.W.ki_setBack ho (by omega) (by rw [List.size_toArray, ← hl]; exact h3) (by omega) (by rw [hk]; exact ⟨_, I', q⟩)

/-! ### slices -/
theorem slice_bounds (lo hi : Option Int) (n : Nat) : (sliceBounds lo hi none n).1 = ((HT.sIx n 0 lo : Nat) : Int) ∧ (sliceBounds lo hi none n).2.1 = ((HT.sIx n n hi : Nat) : Int) ∧ (sliceBounds lo hi none n).2.2 = 1 := by
  refine ⟨?_, ?_, rfl⟩
  · cases lo with
    | none => simp [sliceBounds, HT.sIx]
    | some i =>
      simp only [sliceBounds, HT.sIx, Option.getD_none, show (1 : Int) > 0 by decide, if_true]
      by_cases h : i < 0
      · simp only [h, if_true] <;> omega
      · simp only [h, if_false] <;> omega
  · cases hi with
    | none => simp [sliceBounds, HT.sIx]
    | some i =>
      simp only [sliceBounds, HT.sIx, Option.getD_none, show (1 : Int) > 0 by decide, if_true]
      by_cases h : i < 0
      · simp only [h, if_true] <;> omega
      · simp only [h, if_false] <;> omega
theorem slicePick_cut (its : List Value) (lo hi : Option Int) : slicePick its.toArray lo hi none = ((its.drop (HT.sIx its.length 0 lo)).take (HT.sIx its.length its.length hi - HT.sIx its.length 0 lo)).toArray := by
  obtain ⟨h1, h2, h3⟩ := slice_bounds lo hi its.toArray.size
  unfold slicePick
  rw [h1, h2, h3]
  simp only [sliceRange_one, pick_run, List.size_toArray] <;> rfl
/-- xs[lo:hi] of a list: a new list -/
def rSlL (K : PySem.W.Frag) : V → Option Int → Option Int → Hp → VK → Prop := fun x lo hi H Q => ∃ a xs, x = .ref a ∧ SqL K H a xs ∧ ∀ p, H p = none → Q (.ref p) (upd H p (.lst (cutV xs lo hi)))
theorem sl_list : SlR X (rSlL X.K) := by
  intro pins s σ H x v vl vu lo hi sl Q I rx hs pl pu h
  obtain ⟨a, xs, rfl, hx, q⟩ := h
  cases rx
  obtain ⟨its, r, ht, hz⟩ := I.list hx
  have hlen := r.length
  refine ⟨"list", _, slot_list_getitem.lookup, ht.isList.typeIs, ?_⟩
  refine wpAny_getItem_list_slice ht.isList hs pl pu .none (by simp) ?_ (by rw [List.size_toArray] <;> omega)
  rw [slicePick_cut, ← hlen]
  refine ⟨.ref s.heap.objs.size, _, I.laid (t' := s.toks) (o := .lst (cutV xs lo hi)) (fun b ob q => Heap.get?_push_of_some _ q) (Nat.le_refl _) ?_, rfl, q _ (I.hok.fresh (Nat.le_refl _))⟩
  exact ⟨Nat.le_trans (cutV_length xs lo hi) hz, _, 0, (r.drop (HT.sIx xs.length 0 lo)).take (HT.sIx xs.length xs.length hi - HT.sIx xs.length 0 lo), Heap.get?_push_size _ rfl⟩

/-! ### in, not in: flat items -/

/-! ### len, list(x), tuple(x) of any list or tuple that is read -/
theorem call_len_seq : CallR X (.builtin "len") (fun xs H Q => ∃ p ys, xs = [.ref p] ∧ (SqL X.K H p ys ∨ SqT X.K H p ys) ∧ Q (.int ys.length) H) := by
  intro pins s σ H xs us Q I r h
  obtain ⟨p, ys, rfl, hq, q⟩ := h
  obtain ⟨u, rfl, rx⟩ := vals1 r
  cases rx
  have hn := line63
  rcases hq with hq | hq
  · obtain ⟨its, r', pl, hz⟩ := I.list hq
    have hlen := r'.length
    exact Calls.call_len_list pl.isList (by simp only [List.size_toArray] <;> omega) ⟨.int ys.length, H, I.tok _, ⟨s.toks + 1, by rw [List.size_toArray, hlen]⟩, q⟩
  · obtain ⟨its, r', pl, hz⟩ := I.tuple hq
    have hlen := r'.length
    exact len_tuple pl (by simp only [List.size_toArray] <;> omega) ⟨.int ys.length, H, I.tok _, ⟨s.toks + 1, by rw [List.size_toArray, hlen]⟩, q⟩
theorem call_len_str : CallR X (.builtin "len") (fun xs H Q => ∃ z, xs = [.str z] ∧ z.length ≤ sizeLine ∧ Q (.int z.length) H) := by
  intro pins s σ H xs us Q I r h
  obtain ⟨z, rfl, hz, q⟩ := h
  obtain ⟨u, rfl, t, rfl⟩ := vals1 r
  have hn := line63
  exact len_str (by omega) ⟨.int z.length, H, I.tok _, ⟨_, rfl⟩, q⟩

/-! ### the call of a builtin's method: o.m(..) -/
/-- the value is of that builtin type -/
def tyV (K : PySem.W.Frag) (T : String) (x : V) (H : Hp) : Prop := match x with
  | .str _ => T = "str"
  | .int _ => T = "int"
  | .ref p => (T = "list" ∧ ∃ xs, SqL K H p xs) ∨ (T = "tuple" ∧ ∃ o, K.lookup p = some o ∧ o.cls = .type "tuple" ∧ o.dict = none) ∨
      (T = "dict" ∧ ((∃ kvs, H p = some (.dK kvs)) ∨ ∃ kvs, H p = some (.dT kvs))) ∨ (T = "set" ∧ ∃ S n, H p = some (.set S n))
  | _ => False
theorem tyV_is {pins : List (Addr × Obj)} {σ : St} {H : Hp} {s : Shared} {T : String} {x : V} {v : Value} (I : Inv X pins σ H s) (r : RelV x v) (ty : tyV X.K T x H) :
    s.TypeIs v T ∧ ∀ a, v = .ref a → ∃ ob, s.heap.get? a = some ob ∧ ob.dict = none := by
  cases x with
  | str z =>
    obtain ⟨t, rfl⟩ := r
    cases (show T = "str" from ty)
    exact ⟨typeIs_str s z t, fun _ e => nomatch e⟩
  | int i =>
    obtain ⟨t, rfl⟩ := r
    cases (show T = "int" from ty)
    exact ⟨typeIs_int s i t, fun _ e => nomatch e⟩
  | ref p =>
    cases r
    rcases ty with ⟨rfl, xs, hq⟩ | ⟨rfl, o, hk, hc, hd⟩ | ⟨rfl, hk⟩ | ⟨rfl, S, n, hk⟩
    · obtain ⟨its, _, pl, _⟩ := I.list hq
      refine ⟨pl.isList.typeIs, fun a e => ?_⟩
      cases e
      obtain ⟨o, n, e, c, hd, _⟩ := pl
      exact ⟨o, e, hd⟩
    · refine ⟨⟨o, I.kIn p o hk, hc⟩, fun a e => ?_⟩
      cases e
      exact ⟨o, I.kIn _ o hk, hd⟩
    · have z : ∃ o, s.heap.get? p = some o ∧ o.ExactDict := by
        rcases hk with ⟨kvs, hk⟩ | ⟨kvs, hk⟩
        · obtain ⟨_, _, _, _, o, _, _, e, ex, _⟩ := I.hok p _ hk
          exact ⟨o, e, ex⟩
        · obtain ⟨_, _, _, _, o, _, _, e, ex, _⟩ := I.hok p _ hk
          exact ⟨o, e, ex⟩
      obtain ⟨o, e, ex⟩ := z
      refine ⟨⟨o, e, ex.1⟩, fun a e2 => ?_⟩
      cases e2
      exact ⟨o, e, ex.2.1⟩
    · obtain ⟨o, _, _, _, e, ex, _⟩ := I.hok p _ hk
      refine ⟨⟨o, e, ex.1⟩, fun a e2 => ?_⟩
      cases e2
      exact ⟨o, e, ex.2.1⟩
  | _ => exact False.elim ty
def tBM (K : PySem.W.Frag) (T : String) (r : V → List V → Hp → VK → Prop) (to : TE) (t : TA) : TE := fun σ H Q => to σ H fun x H1 => tyV K T x H1 ∧ t σ H1 fun xs H2 => r x xs H2 Q
variable {o e : Expr} {es : List Expr} {to : TE} {t : TA} {name : Str} {apos cpos : Pos} {T id : String} {r : V → List V → Hp → VK → Prop}
theorem pe_bm (pa : PlainAttrs T) (slot : Slot T name id) (hty : typeOf (.builtin id) = pure (.type "method_descriptor")) (hm : MtR X id r) (ho : PE X o to) (ha : PA X (e :: es) t)
    (hbase : attributeBase o name X.env (eval o X.env) = eval o X.env := by rfl)
    (hfew : ((backTo cpos (starEach (e :: es) X.env)).all (fun x => !x.1) && (backToKw cpos (keywordEach [] X.env)).all (fun x => x.1.isSome)
      && decide ((e :: es).length + ([] : List Keyword).length + (if ([] : List Keyword).isEmpty then 0 else 1) < 30)) = true := by rfl)
    (hline : (apos.endLine == cpos.line) = true := by rfl) (hs : starEach (e :: es) X.env = (false, eval e X.env) :: starEach es X.env := by rfl) (hplain : (backTo cpos (starEach es X.env)).any (·.1) = false := by rfl) :
    PE X (.Call (.Attribute o name apos) (e :: es) [] cpos) (tBM X.K T r to t) := by
  intro pins s σ H Q I h
  refine wpAny_Call_method_late hbase hfew hline rfl (thn (ho pins s σ H _ I h) fun v s1 ⟨x, H1, I1, r1, ty, q1⟩ => ?_)
  obtain ⟨h1, h2⟩ := tyV_is I1 r1 ty
  refine ⟨T, id, pa, slot, hty, h1, h2, ?_⟩
  have hA := ha cpos pins s1 σ H1 _ I1 q1
  rw [hs] at hA ⊢
  refine Calls.callWith_builtin (by show (false || (backTo cpos (starEach es X.env)).any (·.1)) = false; rw [hplain] <;> rfl) (Calls.evalArgs_plain ?_)
  exact thn hA fun us s2 ⟨vs, H2, I2, r2, q2⟩ => hm pins s2 σ H2 x vs v us Q I2 r1 r2 q2
/- xs.append(e), list.index on a module's tuple .. are MtR facts of 06m -/
end
end L2

namespace L2
open PySem PySem.Spec PyProof.Rows

def MtM (X : Cx) (id : String) (r : V → List V → Hp → VK → Prop) : Prop :=
  ∀ (pins : List (Addr × Obj)) (s : Shared) (σ : St) (H : Hp) (x : V) (xs : List V) (v : Value) (us : List Value) (Q : VK), Inv X pins σ H s → RelV x v → Vals xs us → r x xs H Q →
    wpAny (model X.prog X.w) X.A (call (.builtin id) (v :: us)) (EP X pins σ Q) X.xe s

/-! ### lists of values -/
theorem Vals.one : ∀ {x : V} {us : List Value}, Vals [x] us → ∃ u, us = [u] ∧ RelV x u
  | _, _, .cons r .nil => ⟨_, rfl, r⟩

section
variable {X : Cx} {pins : List (Addr × Obj)} {σ : St} {H : Hp} {s : Shared} {l b : Addr} {xs ys zs : List V}

/-! ### the two steps: a tracked list is rewritten, a new list is laid -/
theorem Inv.lset {its its' : List Value} {n : Nat} {f : Array Value → Array Value} {t' : Nat} (I : Inv X pins σ H s) (hH : H l = some (.lst xs))
    (e : s.heap.get? l = some { cls := .type "list", data := .seq its.toArray n }) (hf : f its.toArray = its'.toArray) (hv : Vals ys its') (hz : ys.length ≤ sizeLine) :
    Inv X pins σ (upd H l (.lst ys)) { s with heap := s.heap.update l (Obj.mapSeq f), toks := t' } := by
  have q := PySem.IsL.update e f
  rw [hf] at q
  refine I.write (x := l) (e := l) (by rw [hH]; exact trivial) (.inl rfl) (fun b' u hb hu => (Heap.get?_update_other s.heap (Obj.mapSeq f) (Ne.symm hb)).trans hu) ⟨_, q⟩ ?_
  exact ⟨hz, its', _, hv, q⟩
theorem Inv.lnew {its : List Value} {t' : Nat} (I : Inv X pins σ H s) (hv : Vals ys its) (hz : ys.length ≤ sizeLine) :
    Inv X pins σ (upd H s.heap.objs.size (.lst ys)) { s with heap := s.heap.push { cls := .type "list", data := .seq its.toArray }, toks := t' } :=
  I.laid (fun _ _ q => Heap.get?_push_of_some _ q) (Nat.le_refl _) ⟨hz, its, 0, hv, Heap.get?_push_size _ rfl⟩
theorem Inv.fresh (I : Inv X pins σ H s) : H s.heap.objs.size = none := I.hok.fresh (Nat.le_refl _)
theorem Inv.lstM (I : Inv X pins σ H s) (hH : H l = some (.lst xs)) : xs.length ≤ sizeLine ∧ ∃ (its : List Value) (n : Nat), Vals xs its ∧ xs.length = its.length ∧ s.heap.get? l = some { cls := .type "list", data := .seq its.toArray n } := by
  obtain ⟨z, its, n, r, e⟩ := I.hok l _ hH
  exact ⟨z, its, n, r, r.length, e⟩

end

section
variable {X : Cx}

/-! ### methods -/
def rAppend : V → List V → Hp → VK → Prop := fun x vs H Q => ∃ l xs y, x = .ref l ∧ vs = [y] ∧ H l = some (.lst xs) ∧ xs.length < sizeLine ∧ Q .non (upd H l (.lst (xs ++ [y])))
theorem mt_append : MtM X "list.append" rAppend := by
  intro pins s σ H x vs v us Q I rx rv h
  obtain ⟨l, xs, y, rfl, rfl, hH, hz, q⟩ := h
  cases rx
  obtain ⟨u, rfl, ru⟩ := rv.one
  obtain ⟨z, its, n, r, hl, e⟩ := I.lstM hH
  refine call_meets F.slot_list_append ⟨_, e, rfl⟩ F.entry_list_append (F.args_list_append_2 _ _) (PySem.list_append l its.toArray n u (by rw [List.size_toArray]; omega)) ⟨e, ?_⟩
  refine ⟨.non, _, I.lset (its' := its ++ [u]) hH e (by simp) (r.append (.cons ru .nil)) ?_, rfl, q⟩
  rw [List.length_append, List.length_singleton]
  omega






/-! ### list + list, list += list, list * int -/
def rCat : R2 := fun x y H Q => ∃ l b xs zs, x = .ref l ∧ y = .ref b ∧ H l = some (.lst xs) ∧ H b = some (.lst zs) ∧ xs.length + zs.length ≤ sizeLine ∧ ∀ p, H p = none → Q (.ref p) (upd H p (.lst (xs ++ zs)))
theorem op_cat : OpR X (binaryOp .Add) rCat := by
  intro pins s σ H x y v u Q I rx ry h
  obtain ⟨l, b, xs, zs, rfl, rfl, hH, hB, hz, q⟩ := h
  cases rx
  cases ry
  obtain ⟨z, its, n, r, hl, e⟩ := I.lstM hH
  obtain ⟨z2, its2, n2, r2, hl2, e2⟩ := I.lstM hB
  refine PySem.P.add_list e e2 ?_ (by rw [List.size_toArray, List.size_toArray]; omega)
  have ea : its.toArray ++ its2.toArray = (its ++ its2).toArray := by simp
  rw [ea]
  exact ⟨.ref _, _, I.lnew (t' := s.toks) (r.append r2) (by rw [List.length_append]; omega), rfl, q _ I.fresh⟩

/-! ### del xs[i] -/
end

/-! ### xs[a:b] = ys -/
section
variable {prog : Program} {w : World} {A : Around} {E : Value → Shared → Prop} {s : Shared}
set_option maxRecDepth 100000 in
end

section
variable {X : Cx}
end
end L2

namespace Att
open PySem PySem.W PySem.Calls PyProof.Rows

/-! ### the script -/
theorem ints_of_wellAll {P : Params} {h : Heap} : ∀ (ns : List Int) (vs : List Value), WellAll P h vs (ns.map WData.int) → IntsAre vs ns := by
  intro ns
  induction ns with
  | nil =>
    intro vs w
    rw [List.map_nil] at w
    cases w
    exact .nil
  | cons n ns ih =>
    intro vs w
    rw [List.map_cons] at w
    cases w with
    | cons a b =>
      cases a
      exact .cons _ _ (ih _ b)

theorem script_of {l : OpenLaw} {n : Nat} (hn : l.most = some n) {P : Params} {h : Heap} {args : List WData} {vals : List Value}
    (hpre : l.row.toRowW.claim.pre args = true) (hwl : WellAll P h vals args) :
    ∃ a vs ns, vals = [Value.ref a] ∧ args = [WData.list (ns.map WData.int)] ∧ h.get? a = some { cls := .type "list", data := .seq vs.toArray } ∧ IntsAre vs ns ∧ ns.length ≤ n := by
  have hsh : WShape.hasAll [] args [.list .int] = true := (pre_splitW hpre).1
  have hc : l.pre.holds [] { args := args } = true := (pre_splitW hpre).2
  obtain ⟨d, r, rfl, h1, h2⟩ := hasAllW_cons hsh
  obtain rfl := hasAllW_nil h2
  obtain ⟨xs, rfl, h3⟩ := hasW_list h1
  obtain ⟨ns, rfl⟩ := items_int h3
  have hlen : ns.length ≤ n := by
    unfold OpenLaw.pre at hc
    have h4 : (WTm.not (.lt (.lit (.int (n : Int))) (.len (.arg 0)))).holds [] { args := [.list (ns.map .int)] } = true := by
      have h4 := (holds_andW hc).1
      rw [hn] at h4
      exact h4
    have h5 := condW_of h4 (w_not (w_lt w_lit (w_len_list (w_arg rfl))))
    rw [List.length_map] at h5
    refine Nat.le_of_not_lt fun q => ?_
    have q' : (n : Int) < ((ns.length : Nat) : Int) := by omega
    first
      | (rw [decide_eq_true q'] at h5; exact absurd h5 (by decide))
      | (simp at h5; omega)
  cases hwl with
  | cons w1 w2 =>
    cases w2
    cases w1 with
    | list ho hall => exact ⟨_, _, ns, rfl, rfl, ho, ints_of_wellAll ns _ hall, hlen⟩

theorem post_true (l : OpenLaw) (args : List WData) : l.row.toRowW.claim.post args (.bool true) args = true :=
  postW_of (r := l.row.toRowW) (X := (true == true))
    (show WShape.has [] (.bool true) .bool = true by first | rfl | decide | simp [WShape.has, WShape.arms, WShape.armsAll])
    (show (WTm.eq .res (.lit (.bool true))).value [] { args := args, res := some (.bool true), after := args } = some (.bool (true == true)) from w_eq_bool (w_res rfl) w_lit) rfl

/-! ### the attachment: holds_open's last premise (the goal 'hc' behind k_head) from a wpAny of the law's body -/

/-- the same from a codeAny of the CALL (for a layer whose function contracts speak of calls) -/
theorem attach_call {l : OpenLaw} {n : Nat} {q : Program} {loose : List Str} {XP : (Str → Option Value) → Heap → Prop} {YP : World → Heap → Prop} {d : DefRec}
    (hn : l.most = some n) (hdf : d.params.defaults = [])
    (call : ∀ (w : World) (s₀ s₁ : Shared) (mg mb : Str → Option Value) (fa : Addr) (o : Obj) (pm cd doc : Value) (a : Addr) (vs : List Value) (ns : List Int),
      Ground q loose [] XP w s₀ mg mb s₁.heap → YP w s₁.heap →
      s₁.heap.get? fa = some o → o.data = .func (docDef d.name d.params d.body d.scope pm cd doc) → s₁.heap.CodeRec cd d.name → mg d.name = some (.ref fa) →
      s₁.heap.get? a = some { cls := .type "list", data := .seq vs.toArray } → IntsAre vs ns → ns.length ≤ n → s₁.gens = #[] →
      codeAny (model l.prog w) callerA (.call (.ref fa) ⟨[.ref a], []⟩) (fun r s' => r = .ok (.ret (.bool true)) ∧ OldK s₁.heap s'.heap ∧ s'.os = s₁.os ∧ AllBare s'.gens) s₁) :
    WalkO q loose XP YP l.row.toRowW d [] (fun f vs => PySem.call f vs) := by
  intro w s₀ s₁ mg mb G Y fa o pm cd doc dV kV ho hd hcd hD hmg hg args vals as hpre hlay hrd hwl hlo
  obtain rfl : dV = .none := Dflts.none hD hdf
  obtain rfl : kV = .none := Dflts.noKw hD
  obtain ⟨a, vs, ns, rfl, rfl, hobj, hints, hlen⟩ := script_of hn hpre hwl
  refine enter_call (codeAny_mono (call w s₀ s₁ mg mb fa o pm cd doc a vs ns G Y ho (fd_plain hd) hcd hmg hobj hints hlen hg) fun r s' hq => ?_)
  obtain ⟨rfl, h2, h3, h4⟩ := hq
  exact ⟨.inl ⟨.bool true, .bool true, [], rfl, fun _ => rfl, .bool true, post_true l _, fun _ => ⟨List.Pairwise.nil, fun _ hm => (nomatch hm)⟩⟩, h2, h3, h4⟩


/-! ### rules over ANY heap (no ledger) from facts about the written part K: the library's own take a ledger (News) for what they write -/
section
variable {prog : Program} {w : World} {A : Around} {E : Value → Shared → Prop} {s : Shared} {K : Frag}





/-! the whole heap as the ledger: makes every rule that writes through a ledger a rule over any heap -/

end
end Att

namespace L2
open PySem PySem.Spec PyProof.Rows

theorem vals_ints : ∀ {vs : List Value} {ns : List Int}, IntsAre vs ns → Vals (ns.map V.int) vs
  | _, _, .nil => .nil
  | _, _, .cons n t h => .cons ⟨t, rfl⟩ (vals_ints h)


end L2

namespace L2
open PySem PySem.Spec PyProof.Rows


end L2

/- THE LAST THEOREM (shape; LID, My.* are yours):
   My.Adr: a structure of the addresses that your layer names (classes, functions); My.Txt K t: a structure (Prop) of the equations over K;
   My.txt_mk : {K} {implicit addresses ..} (e1 : nsIn K mainGlobals "law" = some (some (.ref f))) (e2 : K.lookup f = some ⟨oc, od, .func (fnOf "law" "law" params body scope dV kV doc pm an cdv ct), sl⟩) (e3 : codeIn K cdv "law" = true) .. : ∃ t, My.Txt K t

set_option maxRecDepth 100000 in
set_option maxHeartbeats 0 in
theorem PySem.Challenge.cw_LID_holds : PySem.Challenge.rw_LID.Holds := by
  w_on; o_law; k_head; (case hw => w_witness2)
  k_fill
  refine L2.walk_of (l := PySem.Challenge.rw_LID) (n := 63) (k := 40) (x := "script") (CX := fun w => ..) (sp := fun _ => My.sp_law) rfl (by decide) rfl ⟨rfl, by decide, by decide⟩ (fun w h Y => PySem.W.kIn_of Y) ?F ?S ?C
  case F =>
    intro w mg fa h KX G hmg
    have T : ∃ t, My.Txt (L2.KOf KX) t := by
      dsimp only [L2.KOf]                          -- K must stand as «<heap const> w.params» for k_is
      refine' My.txt_mk ?e1 ?e2 ?e3 ..
      (case e1 => PySem.W.k_is)                    -- in the order: a name -> its address -> its object -> its parts
      (case e2 => PySem.W.k_is)
      ..
    obtain ⟨t, T⟩ := T
    have e0 := hmg.symm.trans (PySem.W.mg_of KX G T.law)
    cases e0                                       -- fa is the law's own address
    exact ⟨_, fun s u => .of_eq rfl, fun base kb nb => My.law_fn T kb nb⟩     -- if «.of_eq rfl» comes too early: refine' ⟨_, ?b, fun base kb nb => My.law_fn T kb nb⟩; exact fun s u => .of_eq rfl
  case S => exact fun w H a ns hl hO hS => ..
  case C => exact ..
(the tactic k_is has no namespace: write k_is) -/

/-! SHORT WORDS over the layer: a def of the text, its body, what a loop and a test want. -/
namespace L2
open PySem PySem.Spec PyProof.Rows

/-! ### the text by places -/
def defArgs (s : Stmt) : Arguments := match s with
  | .FunctionDef _ a _ _ _ _ _ _ _ _ => a
  | _ => { posonlyargs := [], args := [], vararg := none, kwonlyargs := [], kw_defaults := [], kwarg := none, defaults := [] }
def defBody (s : Stmt) : List Stmt := match s with
  | .FunctionDef _ _ b _ _ _ _ _ _ _ => b
  | _ => []
def defScope (s : Stmt) : Scope := match s with
  | .FunctionDef _ _ _ _ _ _ sc _ _ _ => sc
  | _ => { kind := .function, names := [], isGenerator := false, isCoroutine := false }

/-! ### no exception leaves a def -/
abbrev CX0 : CXT := fun _ _ _ _ _ _ => False
abbrev E0 : XK := fun _ _ _ => False
theorem pass0 {X : Cx} : Passes CX0 X E0 := fun _ _ _ _ _ _ _ h => h.elim

/-! ### a def (or method) of the text as it stands behind the top -/
structure Fun (K : PySem.W.Frag) (x qual : Str) (st : Stmt) (f : Addr) (fd : FuncData) : Prop where
  ex : ∃ (oc : Value) (od : Option Addr) (kV doc pm : Value) (an : Option Addr) (cdv ct : Value) (osl : Array (Option Value)),
    fd = PySem.W.fnOf x qual (defArgs st) (defBody st) (defScope st) .none kV doc pm an cdv ct ∧ K.lookup f = some ⟨oc, od, .func fd, osl⟩ ∧ PySem.W.codeIn K cdv qual = true
  kp : PySem.W.keepIn K (.ref f) = true
section
variable {P : Program} {w : World} {K : PySem.W.Frag} {mg : Str → Option Value} {base : Heap}
/-- THE RULE for a def: its body as a term of rules, and the reading of that term -/
theorem Fun.ok {x qual : Str} {st : Stmt} {f : Addr} {fd : FuncData} {N ps : List Str} {k : Nat} {sp : Sp} (F : Fun K x qual st f fd) (S : FnScope N ps (defScope st)) (len : ∀ vs H Q E, sp vs H Q E → vs.length = ps.length)
    (hbody : ∀ (cdv : Value) (A : Around) (outer : List Env) (s : Shared) (H : Hp) (vs : List V) (Q : VK) (E : XK), Room k (A.deeper (envOfC qual (defScope st) s.heap.objs.size f cdv)) → sp vs H Q E →
      ∃ t, PSs (cxOf CX0 P w K mg base N qual (defScope st) f cdv A outer s H E).nox (defBody st) t ∧ t { nx := fun _ H' => Q .non H', rt := Q } (start N vs) H) : FnOk P w K mg base CX0 (k + 1) f fd ps sp := by
  obtain ⟨oc, od, kV, doc, pm, an, cdv, ct, osl, rfl, lk, hcd⟩ := F.ex
  refine fn_of lk hcd S len fun A outer s H vs Q E hr hsp => ?_
  obtain ⟨t, h, q⟩ := hbody cdv A outer s H vs Q E hr hsp
  exact ⟨t, h.nox, q⟩
/-- how its arguments bind (no defaults): h is «fun _ _ _ _ _ _ us hl => match us, hl with | [_, _], _ => rfl», one _ a parameter -/
theorem Fun.binds {x qual : Str} {st : Stmt} {f : Addr} {fd : FuncData} {ps : List Str} (F : Fun K x qual st f fd)
    (h : ∀ (kV doc pm : Value) (an : Option Addr) (cdv ct : Value) (us : List Value), us.length = ps.length → bindArgs (PySem.W.fnOf x qual (defArgs st) (defBody st) (defScope st) .none kV doc pm an cdv ct) ⟨us, []⟩ = pure (ps.zip us)) : Binds K fd ps [] := by
  obtain ⟨oc, od, kV, doc, pm, an, cdv, ct, osl, rfl, lk, hcd⟩ := F.ex
  exact .all (h kV doc pm an cdv ct)
theorem fun_mk {x qual : Str} {st : Stmt} {f : Addr} {oc : Value} {od an : Option Addr} {osl : Array (Option Value)} {kV doc pm cdv ct : Value} (l : K.lookup f = some ⟨oc, od, .func (PySem.W.fnOf x qual (defArgs st) (defBody st) (defScope st) .none kV doc pm an cdv ct), osl⟩)
    (c : PySem.W.codeIn K cdv qual = true) (k : PySem.W.keepIn K (.ref f) = true) : Fun K x qual st f (PySem.W.fnOf x qual (defArgs st) (defBody st) (defScope st) .none kV doc pm an cdv ct) := ⟨⟨oc, od, kV, doc, pm, an, cdv, ct, osl, rfl, l, c⟩, k⟩
end
theorem hu_of {A : Around} {k : Nat} (hr : Room k A) : A.units + 1 < cLine := Nat.lt_of_le_of_lt (Nat.add_le_add_left (by decide : 1 ≤ 64) _) hr.units

/-! ### expressions in short: the name that stands in the i-th slot -/
section
variable {X : Cx}
theorem pv (i : Nat) {x : Str} {pos : Pos} (hN : X.N[i]? = some x := by rfl) (hv : Vis X.env.scope x := by first | exact Or.inl rfl | exact Or.inr (Or.inl rfl) | exact Or.inr (Or.inr rfl)) (hd : (x == ("__debug__" : Str)) = false := by decide)
    (hcd : (x == ("__classdict__" : Str)) = false := by decide) : PE X (.Name x pos) (tVar i) := pe_var hN hv hd hcd
end

/-! ### tests -/
theorem iteF {A B : Prop} (h : B) : if false = true then A else B := by
  rw [if_neg Bool.false_ne_true]
  exact h
theorem iteT {A B : Prop} (h : A) : if true = true then A else B := by
  rw [if_pos rfl]
  exact h
theorem ite2 {c A B : Prop} [Decidable c] (h1 : c → A) (h2 : ¬ c → B) : if c then A else B := by
  by_cases h : c
  · rw [if_pos h]
    exact h1 h
  · rw [if_neg h]
    exact h2 h
theorem iteNS {c A B : Prop} [Decidable c] (hc : c) (h : B) : if (!decide c) = true then A else B := by
  rw [decide_eq_true hc]
  exact iteF h

/-! ### heaps -/
/-- all that was tracked is as it was -/
def Same (H H' : Hp) : Prop := ∀ b o, H b = some o → H' b = some o
theorem Same.refl (H : Hp) : Same H H := fun _ _ h => h
theorem Same.trans {H H1 H2 : Hp} (a : Same H H1) (b : Same H1 H2) : Same H H2 := fun c o h => b c o (a c o h)
theorem Same.free {H H' : Hp} (e : Same H H') {l : Addr} (h : H' l = Option.none) : H l = Option.none := by
  cases q : H l with
  | none => rfl
  | some o =>
    rw [e l o q] at h
    cases h
theorem Same.seq {K : PySem.W.Frag} {H H' : Hp} {a : Addr} {xs : List V} (e : Same H H') (h : SqL K H a xs) : SqL K H' a xs := by
  rcases h with (h | ⟨o, h⟩) | h
  · exact .inl (.inl (e _ _ h))
  · exact .inl (.inr ⟨o, e _ _ h⟩)
  · exact .inr h

end L2

set_option maxHeartbeats 4000000
namespace L2
open PySem PySem.Spec PyProof.Rows

/-! ### an exception in flight -/
theorem ObjOk.is {P : Program} {w : World} {H : Hp} {h : Heap} {a : Addr} {o : HO} (x : ObjOk P w H h a o) : ∃ ob, h.get? a = some ob := by
  cases o with
  | lst xs => obtain ⟨_, _, _, _, q⟩ := x; exact ⟨_, q⟩
  | tup xs => obtain ⟨_, _, _, ob, q, _⟩ := x; exact ⟨_, q⟩
  | dK kvs => obtain ⟨_, _, _, _, ob, _, _, q, _⟩ := x; exact ⟨_, q⟩
  | dT kvs => obtain ⟨_, _, _, _, ob, _, _, q, _⟩ := x; exact ⟨_, q⟩
  | set S n => obtain ⟨ob, _, _, _, q, _⟩ := x; exact ⟨_, q⟩
  | ins C dx fs => obtain ⟨_, _, _, q, _⟩ := x; exact ⟨_, q⟩
  | own y => exact x
  | xd fs => obtain ⟨_, ⟨_, _, _, q, _⟩, _⟩ := x; exact ⟨_, q⟩
  | rng lo hi => obtain ⟨_, _, _, q⟩ := x; exact ⟨_, q⟩
  | frz ob u => obtain ⟨q, _⟩ := x; exact ⟨_, q⟩
  | tbl ps => exact ⟨_, (show h.get? a = some _ from x)⟩
  | met f y => exact ⟨_, (show h.get? a = some _ from x)⟩
  | ext φ => obtain ⟨_, q, _⟩ := x; exact q

structure Fly (P : Program) (w : World) (outer : List Env) (H : Hp) (h : Heap) (ea : Addr) (cls a0 : Value) (H' : Hp) (B h' : Heap) : Prop where
  fly : Heap.FlyingW B outer ea cls a0 h'
  hok : HOk P w H' B
  new : h.get? ea = none
  keepB : ∀ b o, h.get? b = some o → H b = none → b ∉ frs outer → B.get? b = some o
  slot : ∀ b o, h.get? b = some o → b ∈ frs outer → ∃ sl, h'.get? b = some { o with slots := sl }
  free : ∀ b o, h.get? b = some o → H b = none → H' b = none
  thereB : ∀ b o, h.get? b = some o → b ∉ frs outer → ∃ o', B.get? b = some o'
  tups : ∀ b xs, H b = some (.tup xs) → H' b = some (.tup xs)
  frzs : ∀ b o u, H b = some (.frz o u) → H' b = some (.frz o u)
  tbls : ∀ b ps, H b = some (.tbl ps) → ∃ more, H' b = some (.tbl (ps ++ more))

section
variable {P : Program} {w : World} {outer : List Env} {H H' : Hp} {h h' h2 B : Heap} {ea : Addr} {cls a0 : Value}
theorem Fly.freeE (F : Fly P w outer H h ea cls a0 H' B h') : H' ea = none := by
  cases q : H' ea with
  | none => rfl
  | some o =>
    obtain ⟨ob, z⟩ := (F.hok ea o q).is
    rw [F.fly.2.1] at z
    cases z
theorem Fly.later (F : Fly P w outer H h ea cls a0 H' B h') (fl : Heap.FlyingW B outer ea cls a0 h2) (up : h'.UpToSlots h2) : Fly P w outer H h ea cls a0 H' B h2 where
  fly := fl
  hok := F.hok
  new := F.new
  keepB := F.keepB
  slot := fun b o q hb => by
    obtain ⟨sl, z⟩ := F.slot b o q hb
    obtain ⟨_, o', z', nf⟩ := F.fly.2.2.1.mem hb
    rw [z] at z'
    cases z'
    obtain ⟨sl', z2⟩ := up b _ z nf
    exact ⟨sl', z2⟩
  free := F.free
  thereB := F.thereB
  tups := F.tups
  frzs := F.frzs
  tbls := F.tbls
theorem Fly.un (F : Fly P w outer H h ea cls a0 H' B h') : Un (frs outer) [] H H' h h' where
  keep := fun b o q n hb _ => F.fly.1 b o (F.keepB b o q n hb)
  slot := fun b o q _ hb _ => F.slot b o q hb
  free := fun b o q n _ => F.free b o q n
  there := fun b o q _ => by
    by_cases hb : b ∈ frs outer
    · obtain ⟨sl, z⟩ := F.slot b o q hb
      exact ⟨_, z⟩
    · obtain ⟨o', z⟩ := F.thereB b o q hb
      exact ⟨o', F.fly.1 b o' z⟩
  tups := F.tups
  frzs := F.frzs
  tbls := F.tbls
theorem Fly.hokN (F : Fly P w outer H h ea cls a0 H' B h') : HOk P w H' h' := F.hok.kept F.fly.1
end

def CXE (P : Program) (w : World) : CXT := fun outer H s E e s' => ∃ (ea : Addr) (cls a0 : Value) (H' : Hp) (B : Heap),
  e = Value.ref ea ∧ s'.os = s.os ∧ AllBare s'.gens ∧ Fly P w outer H s.heap ea cls a0 H' B s'.heap ∧ E cls none H'

/-! ### an exception is made and leaves its def -/
def RaisesTo (X : Cx) (C : Addr) (R : Hp → Prop) : Prop :=
  ∀ (pins : List (Addr × Obj)) (σ : St) (H : Hp) (s : Shared) (h' : Heap) (e : Addr) (vs : List Value), Inv X pins σ H s → Heap.MadeExcOf s.heap h' e (.ref C) vs → R H → X.xe (.ref e) { s with heap := h' }

theorem frs_cons {env : Env} {outer : List Env} {L : Addr} (hf : env.frame = some L) : frs (env :: outer) = L :: frs outer := by
  unfold frs
  rw [List.filterMap_cons, hf]

section
variable {P : Program} {w : World} {K : PySem.W.Frag} {mg : Str → Option Value} {base : Heap} {N : List Str} {qual : Str} {scope : Scope} {f : Addr} {cd : Value} {A : Around} {outer : List Env} {s₀ : Shared} {H₀ : Hp} {E : XK}

theorem raises_here {C : Addr} : RaisesTo (cxOf (CXE P w) P w K mg base N qual scope f cd A outer s₀ H₀ E) C (fun H => E (.ref C) none H) := by
  intro pins σ H s h' e vs I hx hE
  have stk : s.heap.FunFrames (PySem.W.hideAll s.heap (frs (envOfC qual scope s₀.heap.objs.size f cd :: outer))) (envOfC qual scope s₀.heap.objs.size f cd :: outer) :=
    PySem.W.funFrames_hide I.stack fun env he a ha => List.mem_filterMap.mpr ⟨env, he, ha⟩
  have nof : ∀ b, (H b).isSome = true → b ∉ frs (envOfC qual scope s₀.heap.objs.size f cd :: outer) := fun b hb z => by
    rw [I.stkFree b z] at hb
    cases hb
  have low : ∀ b o, s₀.heap.get? b = some o → b ∉ frs outer → b ∉ frs (envOfC qual scope s₀.heap.objs.size f cd :: outer) := fun b o q hb z => by
    rw [frs_cons (L := s₀.heap.objs.size) rfl] at z
    rcases List.mem_cons.mp z with z | z
    · rw [z] at q
      exact absurd (Heap.lt_size q) (Nat.lt_irrefl _)
    · exact hb z
  show wpAny _ _ (leaving _ (.ref e)) _ _ _
  refine wpAny_leaves_madeW (base := PySem.W.hideAll s.heap (frs (envOfC qual scope s₀.heap.objs.size f cd :: outer))) (h := s.heap) (outer := outer) I.ok.frames rfl (fun b o q => PySem.W.of_hideAll _ q) stk hx fun h2 t x1 x2 x3 x4 => ?_
  refine ⟨e, .ref C, .ref t, H, _, rfl, I.os, I.bare, ⟨x1, fun a o q => ?_, ?_, fun b o q n hb => ?_, fun b o q hb => ?_, fun b o q n => I.base.free b o q n (by intro z; cases z), fun b o q hb => ?_, I.base.tups, I.base.frzs, I.base.tbls⟩, hE⟩
  · refine (I.hok a o q).stay (fun b u hb r => PySem.W.hideAll_get _ r (nof b ?_)) (fun _ z => z) fun _ _ z => z
    rcases hb with rfl | hb
    · rw [q]; rfl
    · rw [hb]; rfl
  · cases q : s₀.heap.get? e with
    | none => rfl
    | some o =>
      obtain ⟨o', z⟩ := I.base.there e o q (by intro z; cases z)
      rw [hx.new] at z
      cases z
  · exact PySem.W.hideAll_get _ (I.base.keep b o q n hb (by intro z; cases z)) (low b o q hb)
  · obtain ⟨sl, z⟩ := I.base.slot b o q (I.ok.frf b hb) hb (by intro z; cases z)
    obtain ⟨_, o', z', nf⟩ := I.funs.mem hb
    rw [z] at z'
    cases z'
    obtain ⟨sl', z2⟩ := x4 b _ (hx.keeps b _ z) nf
    exact ⟨sl', z2⟩
  · obtain ⟨o', z⟩ := I.base.there b o q (by intro z; cases z)
    exact ⟨o', PySem.W.hideAll_get _ z (low b o q hb)⟩

end
end L2

set_option maxHeartbeats 4000000
namespace L2
open PySem PySem.Spec PyProof.Rows

/-! ### raise C(e): an own class under ValueError -/
abbrev veTail : List Value := [.type "ValueError", .type "Exception", .type "BaseException", .type "object"]
def ExcIs (K : PySem.W.Frag) (C : Addr) : Prop := PySem.W.excIn K C veTail "ValueError.__new__" = true

theorem exc_parts {K : PySem.W.Frag} {h : Heap} {C : Addr} (X : K.In h) (q : ExcIs K C) :
    ∃ bm N nm qn bs hdct sn sub ab col dd k0 k1 k2 k3 k5 mN, h.get? C = some (excClassObj nm qn C N bs bm hdct sn sub ab col dd k0 k1 k2 k3 k5 "ValueError.__new__") ∧ h.Ns N mN ∧ mN "__init__" = none ∧ OwnTail h veTail bm := by
  unfold ExcIs PySem.W.excIn at q
  split at q
  · next dd cd sl ho =>
    split at q
    · next C' bm k0 k1 k2 k3 n k5 hm hs =>
      simp only [Bool.and_eq_true, beq_iff_eq, Bool.not_eq_true'] at q
      obtain ⟨⟨⟨⟨⟨e1, e2⟩, e3⟩, e4⟩, e5⟩, e6⟩ := q
      subst e1
      subst e2
      obtain ⟨nm, bs, mro, ns, qn, hd, sn, sub, ab, col, del⟩ := cd
      dsimp only at hm e3 e5 e6
      subst hm
      subst e3
      have hsl : sl = #[k0, k1, k2, k3, some (.builtin "ValueError.__new__"), k5] := by
        cases sl with
        | mk l =>
          have hs' : l = [k0, k1, k2, k3, some (.builtin "ValueError.__new__"), k5] := hs
          rw [hs']
      subst hsl
      exact ⟨bm, ns, nm, qn, bs, hd, sn, sub, ab, col, dd, k0, k1, k2, k3, k5, _, X _ _ ho, .of_isNs (PySem.W.isNs_of_in X e5), PySem.W.nsMap_none_of_in X e5 e6, PySem.W.tail_of_in X e4⟩
    · cases q
  · cases q

section
variable {X : Cx} {x : Str} {C : Addr} {R : Hp → Prop} {e₀ : Expr} {ta : TA} {np cpos pos : Pos}
def tRaise (ta : TA) (R : Hp → Prop) : TS := fun _ σ H => ta σ H fun vs H1 => vs.length ≤ sizeLine ∧ R H1
theorem ps_raise (hc : X.calm = true) (EC : ExcIs X.K C) (hg : Gl X x) (hm : X.mg x = some (.ref C)) (hR : RaisesTo X C R) (ha : PA X [e₀] ta)
    (he : starEach [e₀] X.env = [(false, eval e₀ X.env)] := by rfl) (hd : (x == ("__debug__" : Str)) = false := by decide) :
    PS X (.Raise (some (.Call (.Name x np) [e₀] [] cpos)) none pos) (tRaise ta R) := by
  intro pins s σ H D I h
  obtain ⟨tl, N, nm, q, bs, hdct, sn, sub, ab, col, dd, k0, k1, k2, k3, k5, mN, hC, hN, hni, T⟩ := exc_parts I.mod.kin EC
  refine wpAny_Raise_call_subT (C := C) (nm := nm) (q := q) (N := N) (bs := bs) (bm := tl) (hdct := hdct) (sn := sn) (sub := sub) (ab := ab) (col := col) (dd := dd) (k0 := k0) (k1 := k1) (k2 := k2) (k3 := k3) (k5 := k5)
    PySem.F.excBase_ValueError (mN := mN) (T.hasType PySem.F.excBase_ValueError.hasBase) (I.ok.hd hc) (by rw [he]; rfl) hni (ld_glob I hg hm ⟨rfl, ?_⟩ hd)
  have key := ha cpos pins s σ H _ I h
  rw [he] at key ⊢
  refine Calls.evalArgs_plain (wpAny_mono key (fun us s2 hq => ?_) fun _ _ z => z)
  obtain ⟨vs, H1, I1, rv, hl, hR1⟩ := hq
  refine ⟨rfl, ?_, I1.bk _ _ hC, hN.keeps I1.bk, T.keeps I1.bk, fun h' e hx => hR pins σ H1 s2 h' e _ I1 hx hR1⟩
  show us.length ≤ sizeLine
  rw [← rv.length]
  exact hl
end
end L2

set_option maxHeartbeats 4000000
namespace L2
open PySem PySem.Spec PyProof.Rows PySem.W PySem.Calls Builtin Builtin.ObjectAttr Builtin.Getset_descriptor

/-! ### isinstance(e, c), e a caught exception of an own class -/
structure ExcK (K : Frag) (C : Addr) : Prop where
  exc : ExcIs K C
  cl : (clsIn K C).isSome = true
  ga : findIn K (.ref C) "__getattribute__" = some (some (.builtin "BaseException.__getattribute__"))
  gh : findIn K (.ref C) "__getattr__" = some none
  ca : findIn K (.ref C) "__class__" = some (some (.builtin "object.__class__"))
  cg : specialIn K (.builtin "object.__class__") "__get__" = some (some (.builtin "getset_descriptor.__get__"))
  ct : takesIn K (.builtin "object.__class__") = some true
  mo : mroIn K C (.type "object") = some true
  mb : mroIn K C (.type "BaseException") = some true

def ExcAt (e C : Addr) (h : Heap) : Prop := ∃ o, h.get? e = some o ∧ o.cls = .ref C

section
variable {K : Frag} {e C : Addr}
theorem ExcAt.ty {M : Model} {h : Heap} (p : ExcAt e C h) : Looks M h (typeOf (.ref e)) (.ref C) := by
  obtain ⟨o, h1, h2⟩ := p
  exact h2 ▸ (Looks.ld h1).andThen .now

theorem exc_found {M : Model} {h : Heap} (X : K.In h) (T : ExcK K C) : Looks M h (find (.ref e) (.ref C) "__class__") (.bind (.builtin "getset_descriptor.__get__") (.builtin "object.__class__")) := by
  have L1 := looks_findIn (M := M) X T.ca
  have L2 := looks_specialIn (M := M) X T.cg
  have L3 := looks_takesIn (M := M) X T.ct
  refine L1.andThen (L2.andThen ?_)
  exact (show Looks M h (dataDescriptor? (some _) (some _)) (some (_, _)) from L3.andThen .now).andThen (Looks.tag .now)

variable {prog : Program} {w : World} {A : Around} {E : Value → Shared → Prop} {s : Shared} {R : Result → Shared → Prop}
theorem exc_class_get {tp : Value} (X : K.In s.heap) (T : ExcK K C) (p : ExcAt e C s.heap) (h : R (.ok (.ret (.ref C))) s) :
    codeAny (model prog w) A (.call (.builtin "getset_descriptor.__get__") ⟨[.builtin "object.__class__", .ref e, tp], []⟩) R s := by
  obtain ⟨hh, g, dr, t, os⟩ := s
  have La := p.ty (M := model prog w)
  have Lb := looks_mroIn (M := model prog w) X T.mo
  refine codeAny_call_builtin KF.slot_gs.plain KF.entry_gs (KF.slot_gs.check _ _ _ _ _ _ _ _ KF.type_class (KF.args_gs _ _ _) ?_)
  unfold Builtin.«getset_descriptor.__get__» descrGet
  rw [dga_obj]
  refine wpAny_bind (wpAny_pure ?_)
  unfold descrGetter descrCheckInstance descrNameAndClass isInstance
  simp only [KF.owner_class]
  repeat lk
  refine ⟨Code.quiet_builtin _ (by decide +kernel), codeAny_builtin KF.entry_class ?_⟩
  unfold Builtin.«object.__class__» shownTypeOf
  repeat lk
  exact h
end
end L2

set_option maxHeartbeats 4000000
namespace L2
open PySem PySem.Spec PyProof.Rows PySem.W PySem.Calls Builtin Builtin.ObjectAttr Builtin.Getset_descriptor
section
variable {K : Frag} {e C : Addr} {prog : Program} {w : World} {A : Around} {E : Value → Shared → Prop} {s : Shared} {R : Result → Shared → Prop}

theorem exc_ga_check {M : Model} {nameV : Value} {Q : Unit → Shared → Prop} (X : K.In s.heap) (T : ExcK K C) (p : ExcAt e C s.heap) (hq : Q () s) :
    wpAny M A (checkBuiltinCall "BaseException.__getattribute__" ⟨[.ref e, nameV], []⟩) Q E s := by
  have hk : builtinKind "BaseException.__getattribute__" = some .slot := by decide +kernel
  have hsp : splitId "BaseException.__getattribute__" = some ("BaseException", "__getattribute__") := by decide +kernel
  have ha := F.args_bexc_ga (.ref e) nameV
  have Li : Looks M s.heap (isInstance (.ref e) (.type "BaseException")) true := p.ty.andThen (looks_mroIn X T.mb)
  obtain ⟨hh, g, dr, t, os⟩ := s
  simp only [checkBuiltinCall, hk, hsp]
  refine wpAny_bind (Li.at ?_)
  repeat (first | wp_step)
  exact hq

theorem exc_ga_body {tk : Tok} {Q : Fin → Shared → Prop} (X : K.In s.heap) (T : ExcK K C) (p : ExcAt e C s.heap) (hq : Q (.done (.ret (.ref C))) s) :
    wpAny (model prog w) A (Builtin.«object.__getattribute__» ⟨[.ref e, .str "__class__" tk], []⟩) Q E s := by
  have La := p.ty (M := model prog w)
  have Lf := exc_found (M := model prog w) (e := e) X T
  obtain ⟨hh, g, dr, t, os⟩ := s
  unfold Builtin.«object.__getattribute__»
  repeat (first | with_reducible refine La.at ?_ | with_reducible refine Lf.at ?_ | wp_step)
  refine exc_class_get X T p ?_
  exact wpAny_pure hq

theorem exc_getclass {Q : Option Value → Shared → Prop} (X : K.In s.heap) (T : ExcK K C) (p : ExcAt e C s.heap) (h : Q (some (.ref C)) { s with toks := s.toks + 1 }) :
    wpAny (model prog w) A (getAttr? (.ref e) "__class__") Q E s := by
  have La := p.ty (M := model prog w)
  have Lga := looks_findIn (M := model prog w) X T.ga
  have Lgh := looks_findIn (M := model prog w) X T.gh
  have f3 := F.attr_ValueError.ga.bind (.ref e)
  have hx2 : (Value.builtin "BaseException.__getattribute__" == Value.builtin "object.__getattribute__") = false := by decide +kernel
  obtain ⟨hh, g, dr, t, os⟩ := s
  unfold getAttr? getAttrBy? getAttrBy
  refine wpAny_bind (wpAny_mkText (wpAny_bind (wpAny_attempt (wpAny_holding (wpAny_bind (La.at (wpAny_bind (Lga.at ?_))))))))
  dsimp only
  rw [if_neg (by rw [hx2]; simp)]
  unfold getAttrByItsOwn hookBefore
  refine wpAny_bind (Lgh.at ?_)
  refine wpAny_bind (wpAny_attempt (wpAny_holding ?_))
  unfold callGetattribute boundAndCalled
  rw [if_neg (by simp)]
  rw [f3]
  refine wpAny_bind (wpAny_pure ?_)
  refine wpAny_call (codeAny_call_builtin F.attr_ValueError.ga.plain F.entry_bexc_ga (exc_ga_check X T p (exc_ga_body X T p ?_)))
  refine wpAny_pure (wpAny_pure ?_)
  exact h

theorem kitx_exc (T : ExcK K C) : KitX K (.ref e) (.ref C) (ExcAt e C) where
  ty := fun _ _ _ p => p.ty
  it := fun _ _ X _ => by
    have z0 := T.cl
    unfold clsIn at z0
    split at z0
    · next c' d' cd' sl' ho =>
      intro A' Q' E' s' k q
      unfold isType loadHead
      exact wpAny_bind (wpAny_loadPart (k _ _ (X _ _ ho)) (wpAny_pure q))
    · cases z0
  ne := fun h tp dd its n sl X htp => by
    have z0 := T.cl
    refine Bool.eq_false_iff.mpr fun q => ?_
    have eq : C = tp := Value.ref.inj (beq_iff_eq.mp q)
    subst eq
    unfold clsIn at z0
    split at z0
    · next c' d' cd' sl' ho =>
      have z := (X _ _ ho).symm.trans htp
      cases z
    · cases z0
  ca := fun X p k => exc_getclass X T p k
end

/-! a caught exception in the abstract heap -/
def excO (e C : Addr) : HO := .ext (ExcAt e C)
theorem excO_ok {P : Program} {w : World} {H : Hp} {h : Heap} {e C : Addr} (p : ExcAt e C h) : ObjOk P w H h e (excO e C) := by
  refine ⟨p, ?_, fun h1 h2 q k => ?_⟩
  · obtain ⟨o, z, _⟩ := p
    exact ⟨o, z⟩
  · obtain ⟨o, z, c⟩ := q
    exact ⟨o, k o z, c⟩

section
variable {X : Cx}
/-- isinstance(x, c): a value of a kind that TyOf knows, or a caught exception -/
inductive IsC : V → Value → Prop where
  | ty (n : String) : IsC (.ty n) (.type n)
  | ref (a : Addr) : IsC (.ref a) (.ref a)
def rIsi (K : PySem.W.Frag) : List V → Hp → VK → Prop := fun xs H Q => ∃ x y c b, xs = [x, y] ∧ IsC y c ∧ ((∃ t, TyOf K H x t ∧ PySem.W.kitOne K t c = some b) ∨ ∃ e C, x = .ref e ∧ H e = some (excO e C) ∧ ExcK K C ∧ PySem.W.kitOne K (.ref C) c = some b) ∧ Q (.bl b) H
theorem call_isinst : CallR X (.builtin "isinstance") (rIsi X.K) := by
  intro pins s σ H xs us Q I r h
  obtain ⟨x, y, c, b, rfl, ry, hh, q⟩ := h
  obtain ⟨u, v, rfl, rx, rv⟩ := vals2 r
  have ec : v = c := by
    cases ry with
    | ty n => exact rv
    | ref a => exact rv
  subst ec
  rcases hh with ⟨t, ty, e⟩ | ⟨ea, C, rfl, he, T, e⟩
  · exact isinst_ok I rx ty e fun tk => ⟨.bl b, H, I.tok tk, rfl, q⟩
  · cases (show u = Value.ref ea from rx)
    obtain ⟨p, _⟩ := (show ObjOk X.prog X.w H s.heap ea (excO ea C) from I.hok ea _ he)
    exact kia_one (kitx_exc T) I.kIn p e (fun z => nomatch z) fun tk => ⟨.bl b, H, I.tok tk, rfl, q⟩
end
end L2

set_option maxHeartbeats 4000000
namespace L2
open PySem PySem.Spec PyProof.Rows

/-! ### try: .. except C as n: .. -/
theorem Inv.re {X Y : Cx} {pins pins' : List (Addr × Obj)} {σ : St} {H : Hp} {s : Shared} (I : Inv X pins σ H s) (ok : Y.Ok) (e1 : Y.prog = X.prog) (e2 : Y.w = X.w) (e3 : Y.N = X.N) (e4 : Y.s₀ = X.s₀) (e5 : Y.H₀ = X.H₀) (e6 : Y.env = X.env) (e7 : Y.outer = X.outer) (e8 : Y.ex = X.ex)
    (hp : ∀ p ∈ Y.pn ++ pins', p ∈ X.pn ++ pins) : Inv Y pins' σ H s := by
  obtain ⟨prog, w, K, mg, base, A, N, s₀, H₀, env, outer, stack, ex, fn, calm, pn, xe⟩ := X
  obtain ⟨prog', w', K', mg', base', A', N', s₀', H₀', env', outer', stack', ex', fn', calm', pn', xe'⟩ := Y
  dsimp only at e1 e2 e3 e4 e5 e6 e7 e8
  subst e1 e2 e3 e4 e5 e6 e7 e8
  exact ⟨ok, I.os, I.bare, I.base, I.loc, I.cell, I.free, I.freeC, fun p z => I.pin p (hp p z), I.hok, I.len⟩

abbrev Cx.try_ (X : Cx) (pn : List (Addr × Obj)) (xe : Value → Shared → Prop) : Cx := { X with pn := pn, xe := xe }
abbrev Cx.suite (X : Cx) (e : Value) : Cx := { X with A := X.A.mark (some e), calm := false, xe := fun _ _ => False }
theorem Cx.Ok.try_ {X : Cx} (ok : X.Ok) (pn : List (Addr × Obj)) (xe : Value → Shared → Prop) : (X.try_ pn xe).Ok :=
  ⟨ok.mod, ok.kind, ok.glob, ok.blt, ok.above, ok.inj, ok.has, ok.cab, ok.hd, ok.frames, ok.stk, ok.exf, ok.bs, ok.bsz, ok.noex, ok.exfs, ok.funs, ok.frf⟩
theorem Cx.Ok.suite {X : Cx} (ok : X.Ok) (e : Value) : (X.suite e).Ok :=
  ⟨ok.mod, ok.kind, ok.glob, ok.blt, ok.above, ok.inj, ok.has, ok.cab, fun z => (nomatch z), ok.frames, ok.stk, ok.exf, ok.bs, ok.bsz, ok.noex, ok.exfs, ok.funs, ok.frf⟩

/-- the exception is tracked from now on -/
theorem Fly.laid {P : Program} {w : World} {outer : List Env} {H H' : Hp} {h h' B : Heap} {ea C : Addr} {a0 : Value} (F : Fly P w outer H h ea (.ref C) a0 H' B h') :
    Un (frs outer) [] H (upd H' ea (excO ea C)) h h' ∧ HOk P w (upd H' ea (excO ea C)) h' := by
  have nu := F.un
  have fe := F.freeE
  refine ⟨⟨nu.keep, nu.slot, fun b o q n hx => ?_, nu.there, fun b xs q => ?_, fun b o u q => ?_, fun b ps q => ?_⟩, fun b u q => ?_⟩
  · rw [upd_ne (fun z => by rw [z, F.new] at q; cases q)]
    exact nu.free b o q n hx
  · have z := nu.tups b xs q
    rw [upd_ne (ne_of_none z fe)]
    exact z
  · have z := nu.frzs b o u q
    rw [upd_ne (ne_of_none z fe)]
    exact z
  · obtain ⟨m, z⟩ := nu.tbls b ps q
    exact ⟨m, by rw [upd_ne (ne_of_none z fe)]; exact z⟩
  · by_cases hb : b = ea
    · subst hb
      rw [upd_same] at q
      cases q
      obtain ⟨o, z, c⟩ := F.fly.there
      exact excO_ok ⟨o, z, c⟩
    · rw [upd_ne hb] at q
      exact (F.hokN b u q).stay (fun _ _ _ z => z) (fun c z => by rw [upd_ne (ne_of_none z fe)]; exact z) fun c xs z => by rw [upd_ne (ne_of_none z fe)]; exact z

/-- what is wanted of an exception of the try's body: its class is one of the clause's; then the suite, in a frame of which nothing is known but the name -/
def tryE (K : PySem.W.Frag) (cv : Value) (i n : Nat) (ts : TS) (D : Ends) : XK := fun cls _ H => ∃ C, cls = .ref C ∧ PySem.W.exmOne K cls cv = some true ∧
  ∀ ea, H ea = none → ts { nx := fun σ H' => D.nx (σ.set i none) H', rt := D.rt, bk := fun σ H' => D.bk (σ.set i none) H', ct := fun σ H' => D.ct (σ.set i none) H' } ((List.replicate n none).set i (some (.ref ea))) (upd H ea (excO ea C))
def tTry (tb : XK → TS) (K : PySem.W.Frag) (cv : Value) (i n : Nat) (ts : TS) : TS := fun D σ H => tb (tryE K cv i n ts D) D σ H

section
variable {X : Cx}
/-- the clause's name goes -/
theorem name_goes {A : Around} {E : Value → Shared → Prop} {pins : List (Addr × Obj)} {σ : St} {H : Hp} {s : Shared} {i : Nat} {x : Str} {pos : Pos} {Q : Unit → Shared → Prop} (I : Inv X pins σ H s) (hN : X.N.Nodup) (hi : X.N[i]? = some x) (hx : X.env.scope.names.lookup x = some .local)
    (h : ∀ s', Inv X pins (σ.set i none) H s' → Q () s') : wpAny (model X.prog X.w) A (do bindName X.env x .none; unbindBehindTheSuite X.env x pos) Q E s := by
  obtain ⟨m, hn, hl⟩ := id I.loc
  have hcls : (X.env.scope.kind == .class || (X.env.scope.kind == .module && X.env.locals != X.env.globals)) = false := by rw [I.ok.kind]; rfl
  refine wpAny_nameGoes_keeps hx hn hcls fun h' v hn' hs => ?_
  obtain ⟨oL, _, _, hoL, _⟩ := id hn
  have neL : ∀ b o, X.s₀.heap.get? b = some o → b ≠ X.env.locals := fun b o q => Nat.ne_of_lt (Nat.lt_of_lt_of_le (Heap.lt_size q) I.ok.above)
  refine h _ ⟨I.ok, I.os, I.bare, ⟨fun b o q n hb he => (hs.2 b (neL b o q)).trans (I.base.keep b o q n hb he), fun b o q n hb he => ?_, I.base.free, fun b o q he => ?_, I.base.tups, I.base.frzs, I.base.tbls⟩,
    ⟨_, hn', fun j y v' e1 e2 e3 => ?_⟩, fun y c q => ?_, I.free, I.freeC, fun p hp => ?_, fun b ob q => ?_, by simpa using I.len⟩
  · obtain ⟨sl, z⟩ := I.base.slot b o q n hb he
    exact ⟨sl, (hs.2 b (neL b o q)).trans z⟩
  · obtain ⟨o', z⟩ := I.base.there b o q he
    exact ⟨o', (hs.2 b (neL b o q)).trans z⟩
  · by_cases hj : j = i
    · subst hj
      have hiσ : j < σ.length := by rw [I.len]; exact (List.getElem?_eq_some_iff.mp hi).1
      rw [List.getElem?_set_self hiσ] at e2
      cases e2
    · rw [List.getElem?_set_ne (Ne.symm hj)] at e2
      obtain ⟨u', r', z⟩ := hl j y v' e1 e2 e3
      refine ⟨u', r', ?_⟩
      rcases z with ⟨k, z⟩ | ⟨k, c, z, z2⟩
      · refine .inl ⟨k, ?_⟩
        have ny : y ≠ x := fun w => hj (nodup_ix hN e1 (w ▸ hi))
        show (if y = x then v else m y) = some u'
        rw [if_neg ny]
        exact z
      · exact .inr ⟨k, c, z, z2.sameBut hs (I.cne y c z)⟩
  · obtain ⟨w', z⟩ := I.cell y c q
    exact ⟨w', z.sameBut hs (I.cne y c q)⟩
  · obtain ⟨e, n, ne, nf, d⟩ := I.pin p hp
    exact ⟨(hs.2 p.1 ne).trans e, n, ne, nf, d⟩
  · refine (I.hok b ob q).stay (fun c w' hc r => (hs.2 c ?_).trans r) (fun _ r => r) fun _ _ r => r
    rintro rfl
    rcases hc with rfl | hc
    · rw [I.free] at q; cases q
    · rw [I.free] at hc; cases hc

theorem ps_try {body : List Stmt} {b₀ : Stmt} {suite : List Stmt} {x n : Str} {np hpos pos : Pos} {i : Nat} {tb : XK → TS} {ts : TS} {cv : Value} (hnx : X.xe = fun _ _ => False) (hN : X.N.Nodup) (hi : X.N[i]? = some n) (hx : X.env.scope.names.lookup n = some .local)
    (hst : X.stack = X.env :: X.outer ∧ X.env.frame = some X.env.locals) (hg : Gl X x) (hm : X.mg x = some cv)
    (hb : ∀ (pn : List (Addr × Obj)) (xe : Value → Shared → Prop) (E : XK), Passes (CXE X.prog X.w) (X.try_ pn xe) E → PSs (X.try_ pn xe) body (tb E))
    (hs : ∀ e, PSs (X.suite e) (b₀ :: suite) ts) (hd : (x == ("__debug__" : Str)) = false := by decide) :
    PS X (.Try body [.ExceptHandler (some (.Name x np)) (some n) (b₀ :: suite) hpos] [] [] pos) (tTry tb X.K cv i X.N.length ts) := by
  intro pins s σ H D I h
  rw [hnx]
  refine wpAny_Try_except ?_
  refine wpAny_mono (hb (X.pn ++ pins) (fun e s' => ∃ pins' σ' H0 s0, Inv (X.try_ (X.pn ++ pins) fun _ _ => False) pins' σ' H0 s0 ∧ CXE X.prog X.w X.stack H0 s0 (tryE X.K cv i X.N.length ts D) e s') _
    (fun pins' σ' H0 s0 e s' J hc => ⟨pins', σ', H0, s0, J.re (J.ok.try_ _ _) rfl rfl rfl rfl rfl rfl rfl rfl fun p z => z, hc⟩) [] s σ H D
    (I.re (I.ok.try_ _ _) rfl rfl rfl rfl rfl rfl rfl rfl fun p z => by simpa using z) h) (fun f s1 q => ?_) fun e s1 q => ?_
  · have back : SP X pins D f s1 := by
      cases f with
      | next => obtain ⟨σ', H', J, q⟩ := q; exact ⟨σ', H', J.re I.ok rfl rfl rfl rfl rfl rfl rfl rfl fun p z => by simpa using z, q⟩
      | brk => obtain ⟨σ', H', J, q⟩ := q; exact ⟨σ', H', J.re I.ok rfl rfl rfl rfl rfl rfl rfl rfl fun p z => by simpa using z, q⟩
      | cont => obtain ⟨σ', H', J, q⟩ := q; exact ⟨σ', H', J.re I.ok rfl rfl rfl rfl rfl rfl rfl rfl fun p z => by simpa using z, q⟩
      | ret u => obtain ⟨v, σ', H', J, r, q⟩ := q; exact ⟨v, σ', H', J.re I.ok rfl rfl rfl rfl rfl rfl rfl rfl fun p z => by simpa using z, r, q⟩
    cases f with
    | next => exact wpAny_execs_nil back
    | brk => exact back
    | cont => exact back
    | ret u => exact back
  · obtain ⟨pins', σ', H0, s0, J, ea, cls, a0, H', B, rfl, os, bare, F, C, rfl, hex, hsu⟩ := q
    have fr : X.A.frames = some (X.env :: X.outer) := by rw [← hst.1]; exact I.ok.frames
    have F' := F
    rw [hst.1] at F'
    refine wpAny_looks_onW fr hst.2 F'.fly fun h4 held up4 => ?_
    refine wpAny_landsW held fun h5 fl5 up5 => ?_
    have F5 := F'.later fl5 (up4.trans up5)
    have mkI : ∀ (hh : Heap), Fly X.prog X.w (X.env :: X.outer) H0 s0.heap ea (.ref C) a0 H' B hh → Inv (X.suite (.ref ea)) (X.pn ++ pins) (List.replicate X.N.length none) (upd H' ea (excO ea C)) { s1 with heap := hh } := fun hh FF => by
      obtain ⟨un, hok⟩ := FF.laid
      rw [← hst.1] at un
      have J1 : Inv (X.try_ (X.pn ++ pins) fun _ _ => False) pins' σ' (upd H' ea (excO ea C)) { s1 with heap := hh } :=
        J.call' (s' := { s1 with heap := hh }) os un hok bare (fun b z => absurd z (by simp))
      have J2 : Inv (X.suite (.ref ea)) (X.pn ++ pins) σ' (upd H' ea (excO ea C)) { s1 with heap := hh } := J1.re (I.ok.suite _) rfl rfl rfl rfl rfl rfl rfl rfl fun p z => by
        rcases List.mem_append.mp z with z | z
        · exact List.mem_append_left _ (List.mem_append_left _ z)
        · exact List.mem_append_left _ z
      refine J2.weak (by rw [List.length_replicate, J2.len]) fun k v z => ?_
      rw [List.getElem?_replicate] at z
      split at z <;> cases z
    have I5 := mkI h5 F5
    have up5' := up4.trans up5
    refine wpAny_handleBy_cons (codeAny_handlers_test (env := X.env) (ld_glob (X := X.suite (.ref ea)) I5 hg hm ?_ hd)) (by intro z; cases z)
    have Lm : PySem.W.Looks (model X.prog X.w) h5 (excMatches (.ref ea) cv) true := by
      refine PySem.W.exm_one I5.kIn ?_ hex
      obtain ⟨o, z, c⟩ := fl5.there
      exact ExcAt.ty ⟨o, z, c⟩
    refine Lm.at ?_
    refine codeAny_handlers_suite_as ?_
    refine lands_againW fl5 fun h6 fl6 up6 => ?_
    have I6 := mkI h6 (F5.later fl6 up6)
    refine store_ok (X := X.suite (.ref ea)) I6 hN hi (Or.inl hx) (v := .ref ea) rfl (fun s7 I7 => ?_) (.inr hx)
    refine wpAny_mono (hs (.ref ea) (X.pn ++ pins) s7 _ _ { nx := fun σ H' => D.nx (σ.set i none) H', rt := D.rt, bk := fun σ H' => D.bk (σ.set i none) H', ct := fun σ H' => D.ct (σ.set i none) H' } I7 (hsu ea F.freeE)) (fun f s8 q => ?_) fun _ _ z => z.elim
    have bk : ∀ {σ8 : St} {H8 : Hp} {s9 : Shared}, Inv (X.suite (.ref ea)) (X.pn ++ pins) σ8 H8 s9 → Inv X pins σ8 H8 s9 := fun J => J.re I.ok rfl rfl rfl rfl rfl rfl rfl rfl fun p z => by
      rcases List.mem_append.mp z with z | z
      · exact List.mem_append_left _ z
      · exact List.mem_append_right _ (List.mem_append_right _ z)
    cases f with
    | next => obtain ⟨σ8, H8, I8, q⟩ := q; exact name_goes (bk I8) hN hi hx fun s9 I9 => ⟨_, H8, I9, q⟩
    | brk => obtain ⟨σ8, H8, I8, q⟩ := q; exact name_goes (bk I8) hN hi hx fun s9 I9 => ⟨_, H8, I9, q⟩
    | cont => obtain ⟨σ8, H8, I8, q⟩ := q; exact name_goes (bk I8) hN hi hx fun s9 I9 => ⟨_, H8, I9, q⟩
    | ret u => obtain ⟨v, σ8, H8, I8, r, q⟩ := q; exact name_goes (bk I8) hN hi hx fun s9 I9 => ⟨v, _, H8, I9, r, q⟩
end
end L2

set_option maxHeartbeats 4000000
namespace L2
open PySem PySem.Spec PyProof.Rows

/-! ### [e for t in it if c]: the block's context -/

/-- the tests of a comprehension -/
def PTs (Y : Cx) (ifs : List Expr) (t : TT) : Prop :=
  ∀ (pins : List (Addr × Obj)) (s : Shared) (σ : St) (H : Hp) (Q : Bool → Hp → Prop), Inv Y pins σ H s → t σ H Q →
    wpAny (model Y.prog Y.w) Y.A (forIn ifs true fun c r => if r = true then do let ok ← isTrue c Y.env (eval c Y.env); pure (ForInStep.yield ok) else pure (ForInStep.yield r)) (TP Y pins σ Q) Y.xe s
def tYes : TT := fun _ H Q => Q true H
theorem pts_nil {Y : Cx} : PTs Y [] tYes := fun _ _ _ H _ I h => wpAny_tests_nil ⟨H, I, h⟩


section
variable {X : Cx} {NB : List Str} {scope : Scope}


end
end L2

set_option maxHeartbeats 4000000
namespace L2
open PySem PySem.Spec PyProof.Rows

/-! ### == and != of things of any depth -/
mutual
inductive RdV (K : PySem.W.Frag) (H : Hp) : V → PyData → Prop where
  | non : RdV K H .non .none
  | bl (b : Bool) : RdV K H (.bl b) (.bool b)
  | int (i : Int) : RdV K H (.int i) (.int i)
  | str (x : Str) : RdV K H (.str x) (.str x)
  | lst {a : Addr} {xs : List V} {ds : List PyData} : SqL K H a xs → RdVs K H xs ds → RdV K H (.ref a) (.list ds)
  | tup {a : Addr} {xs : List V} {ds : List PyData} : SqT K H a xs → RdVs K H xs ds → RdV K H (.ref a) (.tuple ds)
inductive RdVs (K : PySem.W.Frag) (H : Hp) : List V → List PyData → Prop where
  | nil : RdVs K H [] []
  | cons {x : V} {d : PyData} {xs : List V} {ds : List PyData} : RdV K H x d → RdVs K H xs ds → RdVs K H (x :: xs) (d :: ds)
end

section
variable {X : Cx} {pins : List (Addr × Obj)} {σ : St} {H : Hp} {s : Shared}
mutual
theorem RdV.reads (I : Inv X pins σ H s) : ∀ {x : V} {d : PyData} {u : Value}, RdV X.K H x d → RelV x u → ∃ as, Reads s.heap u d as
  | _, _, _, .non, r => by cases (show _ = Value.none from r); exact ⟨_, .none⟩
  | _, _, _, .bl b, r => by cases (show _ = Value.bool b from r); exact ⟨_, .bool b⟩
  | _, _, _, .int i, r => by obtain ⟨t, q⟩ := (show ∃ t, _ = Value.int i t from r); cases q; exact ⟨_, .int i t⟩
  | _, _, _, .str x, r => by obtain ⟨t, q⟩ := (show ∃ t, _ = Value.str x t from r); cases q; exact ⟨_, .str x t⟩
  | _, _, _, @RdV.lst _ _ a xs ds hq hs, r => by
    cases (show _ = Value.ref a from r)
    obtain ⟨its, rv, p, _⟩ := I.list hq
    obtain ⟨as, ra⟩ := RdVs.reads I hs rv
    obtain ⟨o, ho, hc, n, hd⟩ := p.isList
    exact ⟨_, .list ho hc hd (by simpa using ra)⟩
  | _, _, _, @RdV.tup _ _ a xs ds hq hs, r => by
    cases (show _ = Value.ref a from r)
    obtain ⟨its, rv, p, _⟩ := I.tuple hq
    obtain ⟨as, ra⟩ := RdVs.reads I hs rv
    obtain ⟨o, ho, hc, n, hd⟩ := (show s.heap.IsTuple a its.toArray from p)
    exact ⟨_, .tuple ho hc hd (by simpa using ra)⟩
theorem RdVs.reads (I : Inv X pins σ H s) : ∀ {xs : List V} {ds : List PyData} {us : List Value}, RdVs X.K H xs ds → Vals xs us → ∃ as, ReadsAll s.heap us ds as
  | _, _, _, .nil, .nil => ⟨_, .nil⟩
  | _, _, _, .cons h hs, .cons r rs => by
    obtain ⟨as, ra⟩ := RdV.reads I h r
    obtain ⟨bs, rb⟩ := RdVs.reads I hs rs
    exact ⟨_, .cons ra rb⟩
end
end

section
variable {X : Cx}
def rNeD (K : PySem.W.Frag) : R2 := fun x y H Q => ∃ dx dy, RdV K H x dx ∧ RdV K H y dy ∧ SeqAt.shaped dx = true ∧ SeqAt.shaped dy = true ∧ Q (.bl (!PyData.eqv dx dy)) H
theorem op_neD (hu : X.A.units + 64 < cLine) : OpR X (compareOp .NotEq) (rNeD X.K) := by
  intro pins s σ H x y v u Q I rx ry h
  obtain ⟨dx, dy, hx, hy, sx, sy, q⟩ := h
  obtain ⟨as, ra⟩ := hx.reads I rx
  obtain ⟨bs, rb⟩ := hy.reads I ry
  exact SeqAt.compareNe_shaped ra rb sx sy hu ⟨.bl _, H, I, rfl, q⟩
end
end L2

namespace PySem.SeqAt
open AutoSeq1 (wpAny_loadPart')
open MeetsSeq MeetsSeq2 MeetsSeq3
section
variable {A : Around} {s : Shared}
end
end PySem.SeqAt
namespace L2
open PySem PySem.Spec PyProof.Rows
section
variable {X : Cx}
end
end L2

set_option maxHeartbeats 4000000
namespace L2
open PySem PySem.Spec PyProof.Rows

/-! ### lists of pairs as tables -/
section
variable {κ : Type} [DecidableEq κ]
def valV (kvs : List (κ × V)) (k : κ) : Option V := (kvs.find? fun kv => decide (kv.1 = k)).map (·.2)
/-- in its place, or at the end -/
def putK (kvs : List (κ × V)) (k : κ) (v : V) : List (κ × V) :=
  if (kvs.any fun kv => decide (kv.1 = k)) = true then kvs.map (fun kv => if kv.1 = k then (kv.1, v) else kv) else kvs ++ [(k, v)]

theorem valV_pos {p : κ × V} {r : List (κ × V)} {k : κ} (e : p.1 = k) : valV (p :: r) k = some p.2 := by simp [valV, List.find?_cons, e]
theorem valV_neg {p : κ × V} {r : List (κ × V)} {k : κ} (e : ¬ p.1 = k) : valV (p :: r) k = valV r k := by simp [valV, List.find?_cons, e]
theorem valV_any (k : κ) : ∀ kvs : List (κ × V), (kvs.any fun kv => decide (kv.1 = k)) = (valV kvs k).isSome
  | [] => rfl
  | p :: r => by
    rw [List.any_cons]
    by_cases e : p.1 = k
    · simp only [valV_pos e, decide_eq_true e, Bool.true_or, Option.isSome_some]
    · rw [valV_neg e, decide_eq_false e, Bool.false_or]; exact valV_any k r
theorem length_putK (kvs : List (κ × V)) (k : κ) (v : V) : (putK kvs k v).length ≤ kvs.length + 1 := by
  unfold putK
  split
  · rw [List.length_map]; omega
  · rw [List.length_append, List.length_cons, List.length_nil]; omega
theorem putK_new {kvs : List (κ × V)} {k : κ} (v : V) (h : valV kvs k = none) : putK kvs k v = kvs ++ [(k, v)] := by
  unfold putK
  rw [valV_any, h]
  exact if_neg (by decide)

theorem RelO.isSome_eq {o : Option V} {u : Option Value} (r : RelO o u) : o.isSome = u.isSome := by
  cases o with
  | none => cases u with
    | none => rfl
    | some _ => exact (show False from r).elim
  | some _ => cases u with
    | none => exact (show False from r).elim
    | some _ => rfl

/-- raw tables of the same keys -/
theorem KV.val {kvs : List (κ × V)} {vs : List (κ × Value)} (r : KV kvs vs) (k : κ) : RelO (valV kvs k) (valueAt vs k) := by
  unfold KV at r
  induction r with
  | nil => exact True.intro
  | @cons p q ps qs h t ih =>
    obtain ⟨h1, h2⟩ := h
    by_cases e : p.1 = k
    · have e' : q.1 = k := h1.symm.trans e
      have b : valueAt (q :: qs) k = some q.2 := by simp [valueAt, List.find?_cons, e']
      rw [valV_pos e, b]; exact h2
    · have e' : ¬ q.1 = k := fun z => e (h1.trans z)
      have b : valueAt (q :: qs) k = valueAt qs k := by simp [valueAt, List.find?_cons, e']
      rw [valV_neg e, b]; exact ih
theorem KV.any {kvs : List (κ × V)} {vs : List (κ × Value)} (r : KV kvs vs) (k : κ) : (kvs.any fun kv => decide (kv.1 = k)) = vs.any fun kv => decide (kv.1 = k) := by
  unfold KV at r
  induction r with
  | nil => rfl
  | cons h t ih => rw [List.any_cons, List.any_cons, ih, h.1]
theorem KV.repl {kvs : List (κ × V)} {vs : List (κ × Value)} (r : KV kvs vs) (k : κ) {y : V} {u : Value} (ry : RelV y u) :
    KV (kvs.map fun kv => if kv.1 = k then (kv.1, y) else kv) (vs.map fun kv => if kv.1 = k then (kv.1, u) else kv) := by
  unfold KV at r ⊢
  induction r with
  | nil => exact .nil
  | @cons p q ps qs h t ih =>
    rw [List.map_cons, List.map_cons]
    refine .cons ?_ ih
    obtain ⟨h1, h2⟩ := h
    by_cases e : p.1 = k
    · rw [if_pos e, if_pos (h1.symm.trans e)]; exact ⟨h1, ry⟩
    · rw [if_neg e, if_neg (fun z => e (h1.trans z))]; exact ⟨h1, h2⟩
theorem KV.put {kvs : List (κ × V)} {vs : List (κ × Value)} (r : KV kvs vs) (k : κ) {y : V} {u : Value} (ry : RelV y u) : KV (putK kvs k y) (stored vs k u) := by
  unfold putK stored
  rw [r.any k]
  by_cases e : (vs.any fun kv => decide (kv.1 = k)) = true
  · rw [if_pos e, if_pos e]; exact r.repl k ry
  · rw [if_neg e, if_neg e]; exact Paired.snoc r ⟨rfl, ry⟩
theorem KV.length {kvs : List (κ × V)} {vs : List (κ × Value)} (r : KV kvs vs) : kvs.length = vs.length := Paired.length r
end


/-! ### a tracked dict, its keys ints and texts or tuples of these -/
theorem kV_is {P : Program} {w : World} {k : Key} {u : Value} (r : RelV (kV k) u) : (mixKind P w).is k u = true := by
  cases k with
  | inl i => obtain ⟨t, e⟩ := (show ∃ t, u = Value.int i t from r); subst e; exact mixKind_int P w i t
  | inr x => obtain ⟨t, e⟩ := (show ∃ t, u = Value.str x t from r); subst e; exact mixKind_str P w x t
theorem items_are {P : Program} {w : World} : ∀ {ks : List Key} {us : List Value}, Vals (ks.map kV) us → ItemsAre (mixKind P w) ks us
  | [], _, r => by rw [List.map_nil] at r; cases r; exact .nil
  | k :: ks, _, r => by
    rw [List.map_cons] at r
    cases r with
    | cons h t => exact .cons (kV_is h) (items_are t)

/-- raw entries of a dict with tuple keys -/
abbrev KT (H : Hp) : List (List Key × V) → List (List Key × Addr × Value) → Prop := Paired fun p q => p.1 = q.1 ∧ H q.2.1 = some (.tup (p.1.map kV)) ∧ RelV p.2 q.2.2
theorem KT.val {H : Hp} {kvs : List (List Key × V)} {xs : List (List Key × Addr × Value)} (r : KT H kvs xs) (k : List Key) : RelO (valV kvs k) ((atKey xs k).map (·.2)) := by
  induction r with
  | nil => exact True.intro
  | @cons p q ps qs h t ih =>
    obtain ⟨h1, _, h2⟩ := h
    by_cases e : p.1 = k
    · have e' : q.1 = k := h1.symm.trans e
      have b : atKey (q :: qs) k = some q.2 := by simp [atKey, List.find?_cons, e']
      rw [valV_pos e, b]; exact h2
    · have e' : ¬ q.1 = k := fun z => e (h1.trans z)
      have b : atKey (q :: qs) k = atKey qs k := by simp [atKey, List.find?_cons, e']
      rw [valV_neg e, b]; exact ih
theorem KT.repl {H : Hp} {kvs : List (List Key × V)} {xs : List (List Key × Addr × Value)} (r : KT H kvs xs) (k : List Key) {y : V} {u : Value} (ry : RelV y u) :
    KT H (kvs.map fun kv => if kv.1 = k then (kv.1, y) else kv) (xs.map (putAt k u)) := by
  induction r with
  | nil => exact .nil
  | @cons p q ps qs h t ih =>
    rw [List.map_cons, List.map_cons]
    refine .cons ?_ ih
    obtain ⟨h1, h2, h3⟩ := h
    unfold putAt
    by_cases e : p.1 = k
    · rw [if_pos e, if_pos (h1.symm.trans e)]; exact ⟨h1, h2, ry⟩
    · rw [if_neg e, if_neg (fun z => e (h1.trans z))]; exact ⟨h1, h2, h3⟩
theorem KT.put {H : Hp} {kvs : List (List Key × V)} {xs : List (List Key × Addr × Value)} (r : KT H kvs xs) (k : List Key) {b : Addr} {y : V} {u : Value} (hb : H b = some (.tup (k.map kV))) (ry : RelV y u) :
    KT H (putK kvs k y) (storedH xs k b u) := by
  have e : (kvs.any fun kv => decide (kv.1 = k)) = (atKey xs k).isSome := by
    rw [valV_any, (r.val k).isSome_eq, Option.isSome_map]
  unfold putK storedH
  rw [e]
  by_cases q : (atKey xs k).isSome = true
  · rw [if_pos q, if_pos q]; exact r.repl k ry
  · rw [if_neg q, if_neg q]; exact Paired.snoc r ⟨rfl, hb, ry⟩
theorem KT.keeps {H H' : Hp} {kvs : List (List Key × V)} {xs : List (List Key × Addr × Value)} (r : KT H kvs xs) (ht : ∀ b ys, H b = some (.tup ys) → H' b = some (.tup ys)) : KT H' kvs xs :=
  Paired.mapP r fun _ _ z => ⟨z.1, ht _ _ z.2.1, z.2.2⟩

section
variable {P : Program} {w : World} {H : Hp} {h : Heap} {a : Addr}
theorem rd_of {u : HO} (ok : HOk P w H h) (e : Rd H a u) : ObjOk P w H h a u := e.ok ok
theorem dk_rd {kvs : List (Key × V)} (ok : HOk P w H h) (e : Rd H a (.dK kvs)) : kvs.length ≤ sizeLine ∧ (a == sysModules) = false ∧ ∃ vs, KV kvs vs ∧ h.DictOf (mixKind P w) a vs :=
  show ObjOk P w H h a (.dK kvs) from rd_of ok e
theorem dk_of {kvs : List (Key × V)} (ok : HOk P w H h) (e : H a = some (.dK kvs)) : kvs.length ≤ sizeLine ∧ (a == sysModules) = false ∧ ∃ vs, KV kvs vs ∧ h.DictOf (mixKind P w) a vs := dk_rd ok (.inl e)
/-- a tracked tuple of ints and texts is a key -/
theorem key_of {ks : List Key} (ok : HOk P w H h) (e : H a = some (.tup (ks.map kV))) : (tupleKind (mixKind P w)).is h ks a := by
  obtain ⟨_, its, r, o, h1, h2, n, h3⟩ := (show ObjOk P w H h a (.tup (ks.map kV)) from ok a _ e)
  exact ⟨o, its.toArray, n, h1, h2, h3, by simpa using items_are r⟩
theorem dt_rd {kvs : List (List Key × V)} (ok : HOk P w H h) (e : Rd H a (.dT kvs)) : kvs.length ≤ sizeLine ∧ (a == sysModules) = false ∧
    ∃ xs, KT H kvs xs ∧ h.DictOfH (tupleKind (mixKind P w)) a xs := by
  obtain ⟨z, y, xs, r, o, es, ep, h1, h2, h3, h4, h5⟩ := (show ObjOk P w H h a (.dT kvs) from rd_of ok e)
  refine ⟨z, y, xs, r, o, es, ep, h1, h2, h3, h4, fun x hx => ?_, h5⟩
  have all : ∀ {l : List (List Key × V)} {m : List (List Key × Addr × Value)}, KT H l m → ∀ x ∈ m, (tupleKind (mixKind P w)).is h x.1 x.2.1 := by
    intro l m q
    induction q with
    | nil => intro x hx; exact nomatch hx
    | @cons p q ps qs hq t ih =>
      intro x hx
      rcases List.mem_cons.mp hx with e | hx
      · subst e
        exact key_of ok (by rw [← hq.1]; exact hq.2.1)
      · exact ih x hx
  exact all r x hx
theorem dt_of {kvs : List (List Key × V)} (ok : HOk P w H h) (e : H a = some (.dT kvs)) : kvs.length ≤ sizeLine ∧ (a == sysModules) = false ∧
    ∃ xs, KT H kvs xs ∧ h.DictOfH (tupleKind (mixKind P w)) a xs := dt_rd ok (.inl e)
end

/-- what the dict at a holds at the key y -/
def DGet (H : Hp) (a : Addr) (y : V) (r : Option V) : Prop :=
  (∃ kvs k, Rd H a (.dK kvs) ∧ y = kV k ∧ r = valV kvs k) ∨ ∃ kvs k b, Rd H a (.dT kvs) ∧ y = .ref b ∧ H b = some (.tup (k.map kV)) ∧ r = valV kvs k
/-- the heap behind a[y] = v -/
def DPut (H : Hp) (a : Addr) (y v : V) (H' : Hp) : Prop :=
  (∃ kvs k, H a = some (.dK kvs) ∧ y = kV k ∧ kvs.length < sizeLine ∧ H' = upd H a (.dK (putK kvs k v))) ∨
  ∃ kvs k b, H a = some (.dT kvs) ∧ y = .ref b ∧ H b = some (.tup (k.map kV)) ∧ kvs.length < sizeLine ∧ H' = upd H a (.dT (putK kvs k v))
theorem DGet.k {H : Hp} {a : Addr} {kvs : List (Key × V)} {k : Key} (e : H a = some (.dK kvs)) : DGet H a (kV k) (valV kvs k) := .inl ⟨kvs, k, .inl e, rfl, rfl⟩
theorem DPut.k {H : Hp} {a : Addr} {kvs : List (Key × V)} {k : Key} {v : V} (e : H a = some (.dK kvs)) (hl : kvs.length < sizeLine) : DPut H a (kV k) v (upd H a (.dK (putK kvs k v))) := .inl ⟨kvs, k, e, rfl, hl, rfl⟩


section
variable {X : Cx} {pins : List (Addr × Obj)} {σ : St} {H : Hp} {s : Shared} {a : Addr} {y v : V} {u r : Value} {o : Option V} {A : Around} {E : Value → Shared → Prop}

theorem Inv.big (I : Inv X pins σ H s) : sysModules < s.heap.objs.size := by
  have h : mainGlobals < s.heap.objs.size := (I.mod.glob.keeps I.bk).lt
  exact Nat.lt_trans (by decide) h

/-- d[y], there -/
theorem d_getItem {Q : Value → Shared → Prop} (hu : A.units + 1 < cLine) (I : Inv X pins σ H s) (g : DGet H a y (some v)) (ry : RelV y u) (h : ∀ w' s', Inv X pins σ H s' → RelV v w' → Q w' s') :
    wpAny (model X.prog X.w) A (getItem (.ref a) u) Q E s := by
  rcases g with ⟨kvs, k, e, ey, l⟩ | ⟨kvs, k, b, e, ey, eb, l⟩
  · subst ey
    obtain ⟨z, hd, vs, rel, dd⟩ := dk_rd I.hok e
    obtain ⟨w', hw, rw'⟩ := RelO.some_of (v := v) (o := valueAt vs k) (by rw [l]; exact rel.val k)
    exact wpAny_getItem_of (kV_is ry) dd.mapOf hw (h w' _ (I.tok _) rw')
  · subst ey
    cases (show u = Value.ref b from ry)
    obtain ⟨z, hd, xs, rel, dd⟩ := dt_rd I.hok e
    obtain ⟨w', hw, rw'⟩ := RelO.some_of (v := v) (o := (atKey xs k).map (·.2)) (by rw [l]; exact rel.val k)
    obtain ⟨p, hp, hp2⟩ := Option.map_eq_some_iff.mp hw
    refine wpAny_getItem_heap (tupleKind_room_in1 hu) (key_of I.hok eb) dd hp ?_
    rw [hp2]
    exact h w' _ (I.tok _) rw'
/-- a dict's object is replaced -/
theorem d_write {h' : Heap} {t' : Nat} {ob : HO} (I : Inv X pins σ H s) (mu : Mut (H a)) (hs : Heap.SameBut a s.heap h') (he : ∃ q, h'.get? a = some q) (new : ObjOk X.prog X.w (upd H a ob) h' a ob) :
    Inv X pins σ (upd H a ob) { s with heap := h', toks := t' } :=
  I.write (x := a) (e := a) mu (.inl rfl) (fun b q hb z => (hs.2 b hb).trans z) he new
theorem dk_new {P : Program} {w : World} {H' : Hp} {h' : Heap} {kvs : List (Key × V)} {vs : List (Key × Value)} (z : kvs.length ≤ sizeLine) (hd : (a == sysModules) = false) (rel : KV kvs vs) (dd : h'.DictOf (mixKind P w) a vs) :
    ObjOk P w H' h' a (.dK kvs) := ⟨z, hd, vs, rel, dd⟩
/-- d[y] = v -/
theorem d_setItem {H' : Hp} {Q : Unit → Shared → Prop} (hu : A.units + 1 < cLine) (I : Inv X pins σ H s) (g : DPut H a y v H') (ry : RelV y u) (rv : RelV v r) (h : ∀ s', Inv X pins σ H' s' → Q () s') :
    wpAny (model X.prog X.w) A (setItem (.ref a) u r) Q E s := by
  rcases g with ⟨kvs, k, e, ey, l, eH⟩ | ⟨kvs, k, b, e, ey, eb, l, eH⟩
  · subst ey eH
    obtain ⟨z, hd, vs, rel, dd⟩ := dk_of I.hok e
    have hz : vs.length ≤ sizeLine := by rw [← rel.length]; exact z
    have hl : (putK kvs k v).length ≤ sizeLine := by have := length_putK kvs k v; omega
    refine wpAny_setItem_pairs (hsz := hz) (kV_is ry) dd fun h' dd' hs => h _ ?_
    have he : ∃ q, h'.get? a = some q := let ⟨q, _, _, hq, _⟩ := dd'; ⟨q, hq⟩
    exact d_write I (by rw [e]; exact True.intro) hs he (dk_new hl hd (rel.put k rv) dd')
  · subst ey eH
    cases (show u = Value.ref b from ry)
    obtain ⟨z, hd, xs, rel, dd⟩ := dt_of I.hok e
    have hz : xs.length ≤ sizeLine := by rw [← Paired.length rel]; exact z
    have hl : (putK kvs k v).length ≤ sizeLine := by have := length_putK kvs k v; omega
    refine wpAny_setItem_heap (hsz := hz) (tupleKind_room_in1 hu) (key_of I.hok eb) dd fun h' dd' hs => h _ ?_
    obtain ⟨q, es, ep, hq, h2, h3, h4, _, h5⟩ := dd'
    refine d_write I (by rw [e]; exact True.intro) hs ⟨q, hq⟩ ⟨hl, hd, _, (rel.put k eb rv).keeps fun c ys ec => ?_, q, es, ep, hq, h2, h3, h4, h5⟩
    rw [upd_ne (ne_of ec e (fun z => nomatch z))]
    exact ec
end

section
variable {X : Cx} {pins : List (Addr × Obj)} {σ : St} {H : Hp} {s : Shared} {a : Addr} {kvs : List (Key × V)} {k : Key} {u : Value} {A : Around} {E : Value → Shared → Prop}
end


/-! ### readings and rules -/
/-- the element of a subscription, not a slice -/
def NoSl (i : Expr) : Prop := ∀ ov iv, subscripted i false ov iv = operate [ov, iv] (getItem ov iv)
theorem subD_of {prog : Program} {w : World} {A : Around} {E : Value → Shared → Prop} {s : Shared} {env : Env} {value slice : Expr} {pos : Pos} {T id : String} {Q : Value → Shared → Prop}
    (hl : typeLookup (.type T) "__getitem__" = pure (some (.builtin id))) (hs : NoSl slice)
    (h : wpAny (model prog w) A (eval value env) (fun o s₁ => wpAny (model prog w) A (eval slice env) (fun i s₂ => s₂.TypeIs o T ∧ wpAny (model prog w) A (getItem o i) Q E s₂) E s₁) E s) :
    wpAny (model prog w) A (eval (.Subscript value slice pos) env) Q E s := by
  refine Subscript_ (wpAny_mono h (fun o s₁ h₁ => wpAny_mono h₁ (fun i s₂ h₂ => ?_) fun _ _ x => x) fun _ _ x => x)
  obtain ⟨hT, h₂⟩ := h₂
  unfold subscriptTail
  refine wpAny_bind ?_
  rw [getitemInPython_of_ne hT.not_modules]
  refine wpAny_bind (wpAny_specialOf hT hl ?_)
  have fin : wpAny (model prog w) A (subscripted slice false o i) (fun r s₃ => wpAny (model prog w) A (letTemporaryGo value o r >>= fun _ => pure r) Q E s₃) E s₂ := by
    rw [hs o i]
    exact wpAny_operating (wpAny_mono h₂ (fun r s₃ h₃ => wpAny_bind (wpAny_letTemporaryGo (wpAny_pure h₃))) fun _ _ x => x)
  first
    | exact wpAny_pure (wpAny_bind fin)
    | exact wpAny_bind (wpAny_pure (wpAny_bind fin))
    | exact wpAny_bind fin

theorem dict_typeIs {X : Cx} {pins : List (Addr × Obj)} {σ : St} {H : Hp} {s : Shared} {a : Addr} {y : V} {o : Option V} (I : Inv X pins σ H s) (g : DGet H a y o) : s.TypeIs (.ref a) "dict" := by
  rcases g with ⟨kvs, k, e, _, _⟩ | ⟨kvs, k, b, e, _, _, _⟩
  · obtain ⟨_, _, vs, _, dd⟩ := dk_rd I.hok e
    exact dd.typeIs
  · obtain ⟨_, _, xs, _, dd⟩ := dt_rd I.hok e
    exact dd.typeIs

/-- d[y] -/
def tDGet (td ty : TE) : TE := fun σ H Q => td σ H fun x H1 => ty σ H1 fun y H2 => ∃ a v, x = .ref a ∧ DGet H2 a y (some v) ∧ Q v H2
/-- d[y] = v -/
def sDPut (td ty tv : TE) : TS := fun D σ H => tv σ H fun v H1 => td σ H1 fun x H2 => ty σ H2 fun y H3 => ∃ a H4, x = .ref a ∧ DPut H3 a y v H4 ∧ D.nx σ H4

section
variable {X : Cx} {o i e value : Expr} {pos pos' tpos : Pos} {td ty tv : TE}
theorem pe_dget (hu : X.A.units + 1 < cLine) (ho : PE X o td) (hi : PE X i ty) (hs : NoSl i) : PE X (.Subscript o i pos) (tDGet td ty) := by
  intro pins s σ H Q I h
  refine subD_of PySem.F.slot_dict_getitem.lookup hs (thn (ho pins s σ H _ I h) fun u s1 ⟨x, H1, I1, rx, q1⟩ => thn (hi pins s1 σ H1 _ I1 q1) fun iv s2 ⟨y, H2, I2, ry, a, v, ex, g, q2⟩ => ?_)
  subst ex
  obtain rfl : u = Value.ref a := rx
  exact ⟨dict_typeIs I2 g, d_getItem hu I2 g ry fun w' s3 I3 rw' => ⟨v, H2, I3, rw', q2⟩⟩
theorem ps_dput (hu : X.A.units + 1 < cLine) (ho : PE X o td) (hi : PE X i ty) (hv : PE X value tv) (hs : swapsWith value (some (.Subscript o i pos')) pos.line X.env = pure false) :
    PS X (.Assign [.Subscript o i pos'] value pos) (sDPut td ty tv) := by
  intro pins s σ H D I h
  refine wpAny_Assign_Subscript (thn (hv pins s σ H _ I h) fun r s1 ⟨v, H1, I1, rv, q1⟩ => thn (ho pins s1 σ H1 _ I1 q1) fun u s2 ⟨x, H2, I2, rx, q2⟩ => thn (hi pins s2 σ H2 _ I2 q2) fun iv s3 ⟨y, H3, I3, ry, a, H4, ex, g, q3⟩ => ?_) hs
  subst ex
  obtain rfl : u = Value.ref a := rx
  exact d_setItem hu I3 g ry rv fun s4 I4 => ⟨σ, H4, I4, q3⟩
end


/-! ### displays -/
theorem dk_empty {P : Program} {w : World} {H : Hp} (h : Heap) (hb : sysModules < h.objs.size) : ObjOk P w H (h.push { cls := .type "dict", data := .dict #[] }) h.objs.size (.dK []) :=
  ⟨Nat.zero_le _, beq_eq_false_iff_ne.mpr (Ne.symm (Nat.ne_of_lt hb)), [], .nil, Heap.DictOf.new h⟩
section
variable {X : Cx} {pos : Pos}
end

/-- the pairs of a display, from the left -/
def tPairs : List (TE × TE) → St → Hp → (List (V × V) → Hp → Prop) → Prop
  | [], _, H, Q => Q [] H
  | (tk, tv) :: r, σ, H, Q => tk σ H fun x H1 => tv σ H1 fun y H2 => tPairs r σ H2 fun ps H3 => Q ((x, y) :: ps) H3
abbrev VV : List (V × V) → List (Value × Value) → Prop := Paired fun p q => RelV p.1 q.1 ∧ RelV p.2 q.2
def PPs (X : Cx) (pos : Pos) (keys : List (Option Expr)) (values : List Expr) (trs : List (TE × TE)) : Prop :=
  ∀ (pins : List (Addr × Obj)) (s : Shared) (σ : St) (H : Hp) (Q : List (V × V) → Hp → Prop), Inv X pins σ H s → tPairs trs σ H Q →
    wpAny (model X.prog X.w) X.A (evalPairs (pairTrees keys values X.env pos)) (fun vs s' => ∃ ps H', Inv X pins σ H' s' ∧ VV ps vs ∧ Q ps H') X.xe s
theorem pps_nil {X : Cx} {pos : Pos} : PPs X pos [] [] [] := fun pins s σ H Q I h => pairTrees_nil_walk ⟨[], H, I, .nil, h⟩
theorem pps_cons {X : Cx} {pos : Pos} {k v : Expr} {ks : List (Option Expr)} {vs : List Expr} {tk tv : TE} {trs : List (TE × TE)} (hk : PE X k tk) (hv : PE X v tv) (hr : PPs X pos ks vs trs) :
    PPs X pos (some k :: ks) (v :: vs) ((tk, tv) :: trs) := fun pins s σ H Q I h =>
  pairTrees_cons_walk (thn (hk pins s σ H _ I h) fun u s1 ⟨x, H1, I1, rx, q1⟩ => thn (hv pins s1 σ H1 _ I1 q1) fun w2 s2 ⟨y, H2, I2, ry, q2⟩ =>
    thn (hr pins s2 σ H2 _ I2 q2) fun ws s3 ⟨ps, H3, I3, rel, q3⟩ => ⟨(x, y) :: ps, H3, I3, .cons ⟨rx, ry⟩ rel, q3⟩)

def mergeK (kvs more : List (Key × V)) : List (Key × V) := more.foldl (fun acc kv => putK acc kv.1 kv.2) kvs
theorem KV.merge : ∀ {more : List (Key × V)} {rs : List (Key × Value)} {kvs : List (Key × V)} {vs : List (Key × Value)}, KV more rs → KV kvs vs → KV (mergeK kvs more) (merged vs rs) := by
  intro more rs kvs vs r
  unfold KV at r
  induction r generalizing kvs vs with
  | nil => intro q; exact q
  | @cons p q ps qs h t ih =>
    intro r0
    have e : KV (putK kvs p.1 p.2) (stored vs q.1 q.2) := by
      have := r0.put p.1 h.2
      rw [← h.1]; exact this
    exact ih e
theorem length_mergeK : ∀ (more kvs : List (Key × V)), (mergeK kvs more).length ≤ kvs.length + more.length
  | [], kvs => by show kvs.length ≤ kvs.length + 0; omega
  | p :: r, kvs => by
    have h1 := length_mergeK r (putK kvs p.1 p.2)
    have h2 := length_putK kvs p.1 p.2
    show (mergeK (putK kvs p.1 p.2) r).length ≤ _
    rw [List.length_cons]; omega
theorem carries_of {P : Program} {w : World} : ∀ {kvs : List (Key × V)} {ws : List (Value × Value)}, VV (kvs.map fun kv => (kV kv.1, kv.2)) ws → ∃ rs, Carries (mixKind P w) ws rs ∧ KV kvs rs
  | [], _, r => by rw [List.map_nil] at r; cases r; exact ⟨[], True.intro, .nil⟩
  | p :: kvs, _, r => by
    rw [List.map_cons] at r
    cases r with
    | @cons a b as bs h t =>
      obtain ⟨rs, c, q⟩ := carries_of (P := P) (w := w) t
      obtain ⟨b1, b2⟩ := b
      exact ⟨(p.1, b2) :: rs, ⟨kV_is h.1, rfl, c⟩, .cons ⟨rfl, h.2⟩ q⟩
/-- {k: v, ..} with keys ints and texts; the new dict stands empty while the pairs are made -/
def tDisp (trs : List (TE × TE)) : TE := fun σ H Q => ∀ p, H p = none → tPairs trs σ (upd H p (.dK [])) fun ps H2 => H2 p = some (.dK []) ∧ ∃ kvs : List (Key × V), ps = kvs.map (fun kv => (kV kv.1, kv.2)) ∧ kvs.length ≤ 15 ∧ Q (.ref p) (upd H2 p (.dK (mergeK [] kvs)))
theorem pe_disp {X : Cx} {pos : Pos} {keys : List (Option Expr)} {values : List Expr} {trs : List (TE × TE)} (h : PPs X pos keys values trs) (hall : keys.all (·.isSome) = true) (hl : keys.length = values.length) (h0 : keys ≠ [])
    (h15 : keys.length ≤ 15) : PE X (.Dict keys values pos) (tDisp trs) := by
  intro pins s σ H Q I q
  have hn := I.hok.fresh (Nat.le_refl s.heap.objs.size)
  have I1 := I.laid (a := s.heap.objs.size) (o := .dK []) (h' := s.heap.push { cls := .type "dict", data := .dict #[] }) (t' := s.toks) (fun _ _ q => Heap.get?_push_of_some _ q) (Nat.le_refl _) (dk_empty s.heap I.big)
  refine wpAny_Dict_walk (knd := mixKind X.prog X.w) hall hl h0 h15 (thn (h pins _ σ _ _ I1 (q _ hn)) fun ws s2 ⟨ps, H2, I2, rel, e, kvs, ep, lk, q2⟩ => ?_)
  subst ep
  obtain ⟨rs, c, rk⟩ := carries_of (P := X.prog) (w := X.w) rel
  obtain ⟨z, hd, vs0, r0, dd⟩ := dk_of I2.hok e
  cases r0
  refine ⟨rs, c, dd, fun h' dd' hs => ⟨.ref s.heap.objs.size, _, ?_, rfl, q2⟩⟩
  have hz : (mergeK [] kvs).length ≤ sizeLine := by
    have h1 := length_mergeK kvs []
    rw [List.length_nil] at h1
    rw [sizeLine_eq]; omega
  have he : ∃ q, h'.get? s.heap.objs.size = some q := let ⟨q, _, _, hq, _⟩ := dd'; ⟨q, hq⟩
  exact d_write I2 (by rw [e]; exact True.intro) hs he (dk_new hz hd (rk.merge .nil) dd')


/-! ### methods -/


section
variable {X : Cx} {pins : List (Addr × Obj)} {σ : St} {H : Hp} {s : Shared} {a : Addr} {y d : V} {u r : Value} {o : Option V} {A : Around} {E : Value → Shared → Prop}
end

section
variable {X : Cx} {o e f : Expr} {apos cpos : Pos} {td ty tx : TE}
end

/-! ### dict(d): a copy -/
section
variable {X : Cx} {pins : List (Addr × Obj)} {σ : St} {H : Hp} {s : Shared} {a : Addr} {kvs : List (Key × V)} {A : Around} {E : Value → Shared → Prop}
end


section
variable {X : Cx} {pins : List (Addr × Obj)} {σ : St} {H : Hp} {s : Shared} {a : Addr} {y : V} {u : Value} {A : Around} {E : Value → Shared → Prop}
end
end L2

set_option maxHeartbeats 4000000
namespace L2
open PySem PySem.Spec PyProof.Rows

section
variable {X : Cx}
theorem same_upd {H : Hp} {p : Addr} {o : HO} (h : H p = none) : Same H (upd H p o) := fun b u q => by
  rw [upd_ne (ne_of_none q h)]
  exact q
theorem op_fdivB : OpR X (binaryOp .FloorDiv) (rI (fun _ j => 0 < j ∧ j < 2 ^ 64) fun i j => .int (i / j)) := opI fun i j _ _ _ _ _ hc q => by
  have e : i.fdiv j = i / j := Int.fdiv_eq_ediv_of_nonneg _ (Int.le_of_lt hc.1)
  rw [← e] at q
  refine floordiv_int (Int.ne_of_gt hc.1) q (.inl (PyProof.noPylong_of_log2 ?_))
  have h1 : j.natAbs < 2 ^ 64 := by omega
  have h2 : j.natAbs ≠ 0 := by omega
  have h3 : j.natAbs.log2 < 64 := (Nat.log2_lt h2).mpr h1
  omega
end
end L2

set_option maxHeartbeats 4000000
namespace HT
open PySem PyProof.Rows
section
variable {prog : Program} {w : World} {A : Around} {E : Value → Shared → Prop} {s : Shared}
end
end HT
namespace L2
open PySem PySem.Spec PyProof.Rows
section
variable {X : Cx}
end
end L2

set_option maxHeartbeats 4000000
namespace L2
open PySem PySem.Spec PyProof.Rows
/-! ### long displays: the same rules, behind a structure (the elaborator does not look into it) -/
def notStar : Expr → Bool
  | .Starred _ _ => false
  | _ => true
theorem starEach_ns {e : Expr} {es : List Expr} {env : Env} (h : notStar e = true) : starEach (e :: es) env = (false, eval e env) :: starEach es env := by
  cases e <;> first | rfl | cases h
structure PAc (X : Cx) (es : List Expr) (t : TA) : Prop where
  h : PA X es t
theorem pcn {X : Cx} : PAc X [] tNil := ⟨pa_nil⟩
theorem pcc {X : Cx} {e : Expr} {es : List Expr} {te : TE} {t : TA} (ha : PE X e te) (hr : PAc X es t) (h : notStar e = true := by rfl) : PAc X (e :: es) (tCons te t) := ⟨pa_cons ha hr.h (starEach_ns h)⟩
structure PEc (X : Cx) (e : Expr) (t : TE) : Prop where
  h : PE X e t
theorem pe_lstk {X : Cx} {es : List Expr} {t : TA} {pos : Pos} (h : PAc X es t) : PEc X (.List es pos) (tLst t) := ⟨pe_lst h.h⟩
end L2

set_option maxHeartbeats 4000000
namespace L2
open PySem PySem.Spec PyProof.Rows
section
variable {X : Cx}
end
end L2

set_option maxHeartbeats 4000000
namespace L2
open PySem PySem.Spec PyProof.Rows

/-! ### [e for t in it if c] with names of the def around it -/
abbrev Cx.blkF (X : Cx) (NB : List Str) (scope : Scope) (cl : List (Str × Addr)) (C : Addr) (s : Shared) (H : Hp) (fp : List Addr) (pn : List (Addr × Obj)) : Cx :=
  { X with N := NB, s₀ := s, H₀ := H, env := compEnvC scope cl C X.env, outer := X.stack, ex := fp, fn := fun _ => false, pn := pn, xe := fun _ _ => False }
/-- the block's state at the start of each turn: its own names bare, the others as around it -/
def bare0 (n : Nat) (js : List Nat) (σ : St) : St := List.replicate n none ++ js.map fun j => (σ[j]?).join
def tCompF (n : Nat) (js : List Nat) (wi : TI) (g : TG) (tc : TT) (te : TE) : TE := fun σ H Q => wi σ H fun J H1 => ∀ acc, H1 acc = none →
  ∃ W : Nat → Nat → List V → Hp → Prop, (∃ m, W 0 m [] (upd H1 acc (.lst []))) ∧ ∀ i m ys H, W i m ys H → H acc = some (.lst ys) ∧
    ((J.stop i H ∧ Q (.ref acc) H) ∨ (J.go i H ∧ ∀ x H', J.yld i H x H' → g x (bare0 n js σ) H' fun σ2 H2 => σ2.drop n = (bare0 n js σ).drop n ∧ tc σ2 H2 fun b H3 =>
      if b = true then te σ2 H3 fun y H4 => H4 acc = some (.lst ys) ∧ ys.length < sizeLine ∧ ∃ m', m' < m ∧ W (i + 1) m' (ys ++ [y]) (upd H4 acc (.lst (ys ++ [y])))
      else ∃ m', m' < m ∧ W (i + 1) m' ys H3))
/-- the names that the block takes from around it -/
structure Takes (X : Cx) (NB : List Str) (n : Nat) (js : List Nat) (scope : Scope) (cl : List (Str × Addr)) : Prop where
  clo : closureFor scope X.env = pure cl
  sub : ∀ x c, cl.lookup x = some c → X.env.cells.lookup x = some c
  has : ∀ x, ((relabel scope X.env).names.lookup x = some .cell ∨ (relabel scope X.env).names.lookup x = some .free) → (cl.lookup x).isSome = true
  len : NB.length = n + js.length
  nam : ∀ k j, js[k]? = some j → NB[n + k]? = X.N[j]?
  ck : ∀ x, Vis (relabel scope X.env) x → x ∈ NB.drop n → ((relabel scope X.env).names.lookup x = some .cell ∨ (relabel scope X.env).names.lookup x = some .free) ∧ (X.env.kindOf x = some .cell ∨ X.env.kindOf x = some .free) ∧ (cl.lookup x).isSome = true

section
variable {X : Cx} {NB : List Str} {n : Nat} {js : List Nat} {scope : Scope} {cl : List (Str × Addr)}
theorem bare0_len (T : Takes X NB n js scope cl) (σ : St) : (bare0 n js σ).length = NB.length := by
  unfold bare0
  rw [List.length_append, List.length_replicate, List.length_map, T.len]
theorem bare0_at {σ : St} {i : Nat} {v : V} (h : (bare0 n js σ)[i]? = some (some v)) : ∃ k j, i = n + k ∧ js[k]? = some j ∧ σ[j]? = some (some v) := by
  unfold bare0 at h
  rcases Nat.lt_or_ge i n with c | c
  · rw [List.getElem?_append_left (by rw [List.length_replicate]; exact c), List.getElem?_replicate, if_pos c] at h
    cases h
  · rw [List.getElem?_append_right (by rw [List.length_replicate]; exact c), List.length_replicate, List.getElem?_map] at h
    cases hj : js[i - n]? with
    | none => rw [hj] at h; cases h
    | some j =>
      rw [hj] at h
      have h : some ((σ[j]?).join) = some (some v) := h
      have h := Option.some.inj h
      refine ⟨i - n, j, by omega, hj, ?_⟩
      cases hs : σ[j]? with
      | none => rw [hs] at h; cases h
      | some o =>
        rw [hs] at h
        have h : o = some v := h
        rw [h]
theorem blkF_inv {pins : List (Addr × Obj)} {σ : St} {H : Hp} {s : Shared} {h4 : Heap} {tk : Nat} {fp : List Addr} (I : Inv X pins σ H s) (hk : scope.kind = .function) (T : Takes X NB n js scope cl)
    (hf : ∀ b ∈ fp, FpOk X pins H b) (ho : ∀ b ∈ fp, b < s.heap.objs.size) {m : Str → Option Value} (hn : h4.Ns s.heap.objs.size m) (keep : ∀ b o, s.heap.get? b = some o → h4.get? b = some o) :
    Inv (X.blkF NB scope cl s.heap.objs.size s H fp (X.pn ++ pins)) [] (bare0 n js σ) H { s with heap := h4, toks := tk } := by
  have stk : ∀ b, b ≠ X.env.locals → b ∉ X.fs → b ∉ frs X.stack := fun b h1 h2 z => (List.mem_cons.mp (I.stkSub b z)).elim h1 h2
  obtain ⟨m0, hn0, hl0⟩ := I.loc
  refine ⟨⟨I.ok.mod, hk, I.ok.glob, I.ok.blt, Nat.le_refl _, fun x y c q1 q2 => I.ok.inj x y c (T.sub x c q1) (T.sub y c q2), fun x q => Option.isSome_iff_exists.mp (T.has x q), fun x c q => (nomatch q), I.ok.hd, I.ok.frames, .inl rfl, fun b hb => ⟨Nat.ne_of_lt (ho b hb), fun x c q => (hf b hb).2.2.2.2.1 x c (T.sub x c q)⟩, I.bs, Nat.le_trans I.ok.bsz I.sz,
    fun b o q hb => ?_, fun b hb => stk b (hf b hb).2.1 (hf b hb).2.2.1, I.stack, I.stkFree⟩, rfl, I.bare, Un.kept keep, ⟨m, hn, fun i x v q1 q2 q3 => ?_⟩, fun x c q => ?_, I.hok.fresh (Nat.le_refl _), fun x c q => I.freeC x c (T.sub x c q), fun p hp => ?_, I.hok.kept keep, ?_⟩
  · rcases (hf b hb).2.2.2.1 with z | z
    · exact I.ok.noex b o q z
    · exact absurd (Nat.lt_of_lt_of_le (Heap.lt_size q) (Nat.le_trans I.ok.bsz z)) (Nat.lt_irrefl _)
  · obtain ⟨k, j, rfl, hj, hs⟩ := bare0_at q2
    have q1 : NB[n + k]? = some x := q1
    have hx : X.N[j]? = some x := by rw [← T.nam k j hj]; exact q1
    have hd : x ∈ NB.drop n := List.mem_of_getElem? (i := k) (by rw [List.getElem?_drop]; exact q1)
    obtain ⟨k1, k2, k3⟩ := T.ck x q3 hd
    obtain ⟨c, hc⟩ := Option.isSome_iff_exists.mp k3
    obtain ⟨u, ru, lu⟩ := hl0 j x v hx hs (k2.elim (fun z => .inr (.inl z)) fun z => .inr (.inr z))
    refine ⟨u, ru, .inr ⟨k1, c, hc, ?_⟩⟩
    rcases lu with ⟨z, _⟩ | ⟨_, c', hc', o, ho', hd'⟩
    · rcases k2 with w | w <;> (rw [w] at z; cases z)
    · have e : c' = c := Option.some.inj (hc'.symm.trans (T.sub x c hc))
      subst e
      exact ⟨o, keep _ _ ho', hd'⟩
  · obtain ⟨v, o, ho', hd'⟩ := I.cell x c (T.sub x c q)
    exact ⟨v, o, keep _ _ ho', hd'⟩
  · have hp' : p ∈ X.pn ++ pins := by simpa using hp
    obtain ⟨q, n, ne, nf, d⟩ := I.pin p hp'
    exact ⟨keep _ _ q, n, Nat.ne_of_lt (Heap.lt_size q), stk _ ne nf, d⟩
  · exact bare0_len T σ

theorem blkF_back {pins : List (Addr × Obj)} {σ σ' : St} {H H' : Hp} {s s' : Shared} {h2 : Heap} {fp : List Addr} {pl : List (Addr × Obj)} (I : Inv X pins σ H s) (hf : ∀ b ∈ fp, FpOk X pins H b) (ho : ∀ b ∈ fp, b < s.heap.objs.size)
    (J : Inv (X.blkF NB scope cl s.heap.objs.size s H fp (X.pn ++ pins)) pl σ' H' s') (hs : Heap.SameBut s.heap.objs.size s'.heap h2) : Inv X pins σ H' { s' with heap := h2 } := by
  have u := J.base
  have low : ∀ b o, s.heap.get? b = some o → b ≠ s.heap.objs.size := fun b o q => Nat.ne_of_lt (Heap.lt_size q)
  refine I.call' (s' := { s' with heap := h2 }) (ch := fp) J.os ⟨fun b o q n hb he => (hs.2 b (low b o q)).trans (u.keep b o q n hb he), fun b o q n hb he => ?_, u.free, fun b o q he => ?_, u.tups, u.frzs, u.tbls⟩ (fun b o q => ?_) J.bare fun b hb => ?_
  · obtain ⟨sl, z⟩ := u.slot b o q n hb he
    exact ⟨sl, (hs.2 b (low b o q)).trans z⟩
  · obtain ⟨o', z⟩ := u.there b o q he
    exact ⟨o', (hs.2 b (low b o q)).trans z⟩
  · refine (J.hok b o q).stay (fun c w' hc r => (hs.2 c ?_).trans r) (fun _ r => r) fun _ _ r => r
    have fr : H' s.heap.objs.size = none := J.free
    rintro rfl
    rcases hc with rfl | hc
    · rw [fr] at q; cases q
    · rw [fr] at hc; cases hc
  · obtain ⟨f0, f1, f2, f3, f4, f5⟩ := hf b hb
    exact ⟨f3, f1, f4, f5⟩


/-! ### a list or a tuple walked -/

/-! ### str(x) of a number or a text; sep.join(list of texts) -/
theorem strs_are : ∀ {ys : List Str} {us : List Value}, Vals (ys.map V.str) us → StrsAre us ys
  | [], _, .nil => .nil
  | y :: ys, _, .cons ⟨t, e⟩ r => by
    subst e
    exact .cons _ _ (strs_are r)
def rJoin (K : PySem.W.Frag) : V → List V → Hp → VK → Prop := fun x vs H Q => ∃ z a ys, x = .str z ∧ vs = [.ref a] ∧ SqL K H a (ys.map V.str) ∧ (ys.map fun y => y.length).sum + ys.length * z.length ≤ 16777216 ∧ Q (.str (Txt.join z ys)) H
theorem mt_join : MtM X "str.join" (rJoin X.K) := by
  intro pins s σ H x vs v us Q I rx rv h
  obtain ⟨z, a, ys, rfl, rfl, hq, hz, q⟩ := h
  obtain ⟨t, rfl⟩ := rx
  obtain ⟨u, rfl, ru⟩ := rv.one
  cases ru
  obtain ⟨its, r', pl, hz'⟩ := I.list hq
  exact join_list pl.isList (strs_are r') hz fun t' k => ⟨.str _, H, I.tok _, ⟨_, rfl⟩, q⟩
end
end L2

set_option maxHeartbeats 4000000
namespace L2
open PySem PySem.Spec PyProof.Rows PySem.W

/-! ### the asking tree of a sort, run -/


/-! ### two things that are shown of one doing meet -/
open Classical in

/-! ### the tree's answer, for numbers -/
end L2

set_option maxHeartbeats 4000000
namespace L2
open PySem PySem.Spec PyProof.Rows PySem.W

/-! ### pairs of numbers in their order -/
end L2

set_option maxHeartbeats 4000000
namespace L2
open PySem PySem.Spec PyProof.Rows PySem.W
section
variable {prog : Program} {w : World} {A : Around} {E : Value → Shared → Prop} {s : Shared}
end
end L2

set_option maxHeartbeats 4000000
namespace L2
open PySem PySem.Spec PyProof.Rows PySem.W
section
variable {prog : Program} {w : World} {A : Around} {E : Value → Shared → Prop} {s : Shared}
end
section
variable {X : Cx}
end
end L2

set_option maxHeartbeats 4000000
namespace L2
open PySem PySem.Spec PyProof.Rows PySem.W
section
variable {X : Cx}
end
end L2

set_option maxHeartbeats 4000000
namespace L2
open PySem PySem.Spec PyProof.Rows PySem.W
section
variable {prog : Program} {w : World} {A : Around} {E : Value → Shared → Prop}
end
section
variable {X : Cx} {pos : Pos}
end
end L2

set_option maxHeartbeats 4000000
namespace L2
open PySem PySem.Spec PyProof.Rows PySem.W
section
variable {X : Cx}
end
end L2

set_option maxHeartbeats 4000000
namespace L2
open PySem PySem.Spec PyProof.Rows PySem.W
section
variable {X : Cx}
end
end L2

set_option maxHeartbeats 4000000
namespace L2
open PySem PySem.Spec PyProof.Rows PySem.W
/-! ### texts: <=, split -/
section
variable {X : Cx}
end
end L2

set_option maxHeartbeats 4000000
namespace L2
open PySem PySem.Spec PyProof.Rows PySem.W
section
variable {prog : Program} {w : World} {A : Around} {E : Value → Shared → Prop} {s : Shared}
end
end L2

set_option maxHeartbeats 4000000
namespace L2
open PySem PySem.Spec PyProof.Rows PySem.W
section
variable {prog : Program} {w : World} {A : Around} {E : Value → Shared → Prop} {s : Shared}
end
end L2

set_option maxHeartbeats 4000000
namespace L2
open PySem PySem.Spec PyProof.Rows PySem.W
section
variable {prog : Program} {w : World} {A : Around} {E : Value → Shared → Prop} {s : Shared}
end
section
variable {X : Cx}
end
end L2

set_option maxHeartbeats 4000000
namespace L2
open PySem PySem.Spec PyProof.Rows
section
variable {X : Cx}
end
end L2

set_option maxHeartbeats 4000000
namespace L2
open PySem PySem.Spec PyProof.Rows
section
variable {X : Cx}
end
end L2

set_option maxHeartbeats 4000000
namespace L2
open PySem PySem.Spec PyProof.Rows
section
variable {X : Cx}
end
end L2

set_option maxHeartbeats 4000000
namespace L2
open PySem PySem.Spec PyProof.Rows
section
variable {X : Cx} {NB : List Str} {n : Nat} {js : List Nat} {scope : Scope} {cl : List (Str × Addr)}
/-- x = [..]: the name is bound while the block's frame still stands -/
theorem ps_setC {elt tg iter : Expr} {ifs : List Expr} {pos spos py : Pos} {y : Str} {ix : Nat} {wi : TI} {g : TG} {tc : TT} {te : TE} (hN : X.N.Nodup) (hiy : X.N[ix]? = some y) (hxy : Loc X.env.scope y) (hk : scope.kind = .function) (hcell : ∀ x ∈ scope.names, x.2 ≠ .cell)
    (hnames : ∀ x ∈ scope.names, x.2 = .local → scope.names.lookup x.1 = some .local) (hc : X.calm = true) (T : Takes X NB n js scope cl) (hi : PI X tg iter wi)
    (hg : ∀ C s H fp pn, PG (X.blkF NB scope cl C s H fp pn) tg g) (ht : ∀ C s H fp pn, PTs (X.blkF NB scope cl C s H fp pn) ifs tc) (he : ∀ C s H fp pn, PE (X.blkF NB scope cl C s H fp pn) elt te)
    (hsw : swapsWith (.ListComp elt [⟨tg, iter, ifs, 0⟩] scope pos) (some (.Name y py)) spos.line X.env = pure true := by rfl)
    (hf : X.fn y = true ∨ X.env.scope.names.lookup y = some .local := by first | exact .inl rfl | exact .inr rfl | assumption)
    (hs : ∀ x, foldedSetIterable iter X.env x = pure x := by intro _; rfl) : PS X (.Assign [.Name y py] (.ListComp elt [⟨tg, iter, ifs, 0⟩] scope pos) spos) (tAsg (tCompF n js wi g tc te) (gName ix)) := by
  intro pins s σ H D I h
  rw [exec_Assign_Name_used _ _ _ _ hsw]
  refine wpAny_bind (wpAny_standAt (wpAny_bind ?_))
  show wpAny _ X.A (do let _ ← comprehension (.ListComp elt [⟨tg, iter, ifs, 0⟩] scope pos) scope X.env _ (newList []) false (eval iter X.env) (some (assign (.Name y py) X.env))) _ _ s
  refine wpAny_bind (wpAny_mono (wpAny_comprehension_free (use := some (assign (.Name y py) X.env)) (Q := fun _ s' => SP X pins D .next s') rfl hs T.clo hk hnames (thn (hi pins s σ H _ I h) fun v s1 h1 => thn h1 fun itv s2 h2 => ?_)) (fun _ s' hq => wpAny_pure (wpAny_pure hq)) fun _ _ e => e)
  obtain ⟨it, fp, tn, J, H2, rfl, I2, U, st2, f2, h2⟩ := h2
  have lt2 : ∀ b ∈ fp, b < s2.heap.objs.size := fun b hb => by
    obtain ⟨o, q, _⟩ := U.obj 0 _ st2 b hb
    exact Heap.lt_size q
  refine wpAny_newObj_type ?_
  have hz : H2 s2.heap.objs.size = none := I2.hok.fresh (Nat.le_refl _)
  obtain ⟨W, ⟨m0, w0⟩, turn⟩ := h2 s2.heap.objs.size hz
  have I3 : Inv X pins σ (upd H2 s2.heap.objs.size (.lst [])) { s2 with heap := s2.heap.push { cls := .type "list", dict := none, data := .seq ([] : List Value).toArray } } :=
    I2.laid (t' := s2.toks) (fun b o q => Heap.get?_push_of_some _ q) (Nat.le_refl _) ⟨Nat.zero_le _, [], 0, .nil, Heap.get?_push_size _ rfl⟩
  generalize hs3 : ({ s2 with heap := s2.heap.push { cls := .type "list", dict := none, data := .seq ([] : List Value).toArray } } : Shared) = s3 at I3 ⊢
  have ups3 : ∀ b o, s2.heap.get? b = some o → s3.heap.get? b = some o := fun b o q => by rw [← hs3]; exact Heap.get?_push_of_some _ q
  have f3 : ∀ b ∈ fp, FpOk X pins (upd H2 s2.heap.objs.size (.lst [])) b := fun b hb => ⟨by rw [upd_ne (Nat.ne_of_lt (lt2 b hb))]; exact (f2 b hb).1, (f2 b hb).2⟩
  have lt3 : ∀ b ∈ fp, b < s3.heap.objs.size := fun b hb => by
    obtain ⟨o, q, _⟩ := U.obj 0 _ st2 b hb
    exact Heap.lt_size (ups3 b o q)
  refine wpAny_newFunctionEnv hcell (by intro y hy; simp at hy) (fun h4 hn4 hs4 => ?_) hk
  have keep4 : ∀ b o, s3.heap.get? b = some o → h4.get? b = some o := fun b o q => (hs4.2 b (Nat.ne_of_lt (Heap.lt_size q))).trans (Heap.get?_push_of_some _ q)
  have I4 := blkF_inv (tk := s3.toks + ([] : List (Str × Value)).length) I3 hk T f3 lt3 hn4 keep4
  have st4 : tn 0 h4 := U.keep _ _ _ st2 fun b hb o q => keep4 b o (ups3 b o q)
  have fpY : ∀ {H' : Hp}, (∀ b ∈ fp, H' b = none) → ∀ b ∈ fp, FpOk (X.blkF NB scope cl s3.heap.objs.size s3 (upd H2 s2.heap.objs.size (.lst [])) fp (X.pn ++ pins)) [] H' b := fun hn b hb => by
    obtain ⟨g0, g1, g2, g3, g4, g5⟩ := f3 b hb
    exact ⟨hn b hb, Nat.ne_of_lt (lt3 b hb), fun z => (List.mem_cons.mp (I3.stkSub b z)).elim g1 g2, .inl hb, fun x c q => g4 x c (T.sub x c q), fun p hp => g5 p (by simpa using hp)⟩
  have loop : ∀ s5 : Shared, s5 = { s3 with heap := h4, toks := s3.toks + ([] : List (Str × Value)).length } → codeAny (model X.prog X.w) X.A (.compLoop (.ListComp elt [⟨tg, iter, ifs, 0⟩] scope pos) 0 (.ref it) (.ref s2.heap.objs.size) (compEnvC scope cl s3.heap.objs.size X.env))
      (compPost (model X.prog X.w) X.A X.xe (some (assign (.Name y py) X.env)) (fun _ s' => SP X pins D .next s') (.ref s2.heap.objs.size) s3.heap.objs.size) s5 := by
    rintro s5 rfl
    refine codeAny_loop rfl (fun k s' => ∃ i ys H', Inv (X.blkF NB scope cl s3.heap.objs.size s3 (upd H2 s2.heap.objs.size (.lst [])) fp (X.pn ++ pins)) [] (bare0 n js σ) H' s' ∧ tn i s'.heap ∧ (∀ b ∈ fp, H' b = none) ∧ W i k ys H')
      (fun k s6 hI => ?_) m0 ⟨0, [], _, I4, st4, fun b hb => (f3 b hb).1, w0⟩
    obtain ⟨i, ys, H6, I6, st6, fr6, w6⟩ := hI
    show wpAny _ _ ((compTurn (.ListComp elt [⟨tg, iter, ifs, 0⟩] scope pos) 0 (.ref it) (.ref s2.heap.objs.size) (compEnvC scope cl s3.heap.objs.size X.env)).onRaise (fun x => do noteFrame x (compEnvC scope cl s3.heap.objs.size X.env); theTreesLotGoes x)) _ _ s6
    refine wpAny_noted ?_
    rw [compTurn_list]
    refine wpAny_bind (wpAny_standAt (wpAny_bind ?_))
    obtain ⟨hacc, alt⟩ := turn i k ys H6 w6
    rcases alt with ⟨stop, q⟩ | ⟨go, step⟩
    · refine thn (U.done (X.blkF NB scope cl s3.heap.objs.size s3 (upd H2 s2.heap.objs.size (.lst [])) fp (X.pn ++ pins)) rfl rfl rfl hc i [] s6 _ H6 _ I6 (fpY fr6) st6 stop) fun r s7 ⟨hr, I7⟩ => ?_
      subst hr
      obtain ⟨m, hm, _⟩ := I7.loc
      have I7X : Inv X pins σ H6 s7 := blkF_back (h2 := s7.heap) I3 f3 lt3 I7 ⟨rfl, fun _ _ => rfl⟩
      have H6C : H6 s3.heap.objs.size = none := I7.free
      have fpC := I3.fpOk (H' := H6) (Nat.le_refl _) H6C
      refine wpAny_pure ?_
      show wpAny _ _ (assign (.Name y py) X.env (.ref s2.heap.objs.size)) _ _ _
      refine wpAny_assign_Name (store_ok2 I7X hN hiy hxy (v := .ref s2.heap.objs.size) rfl (fun s8 I8 hsame => ?_) hf)
      obtain ⟨a, hsa, ha⟩ := hsame
      have neC : s3.heap.objs.size ≠ a := by
        rcases ha with rfl | ha
        · exact fpC.2.1
        · exact fun z => fpC.2.2.2.2.1 _ _ ha z.symm
      refine ⟨m, hm.sameBut hsa neC, fun h9 hsb => ⟨_, H6, ?_, q⟩⟩
      refine I8.call' (s' := { s8 with heap := h9 }) (ch := [s3.heap.objs.size]) rfl ⟨fun b o q n hb he => (hsb.2 b (fun z => he (by simp [z]))).trans q, fun b o q n hb he => ⟨o.slots, (hsb.2 b (fun z => he (by simp [z]))).trans q⟩, fun _ _ _ n _ => n, fun b o q he => ⟨o, (hsb.2 b (fun z => he (by simp [z]))).trans q⟩, fun _ _ q => q, fun _ _ _ q => q, fun _ ps q => ⟨#[], by rw [q]; simp⟩⟩ (fun b o q => ?_) I8.bare fun b hb => ?_
      · refine (I8.hok b o q).stay (fun c w' hc r => (hsb.2 c ?_).trans r) (fun _ r => r) fun _ _ r => r
        rintro rfl
        rcases hc with rfl | hc
        · rw [H6C] at q; cases q
        · rw [H6C] at hc; cases hc
      · have e : b = s3.heap.objs.size := by simpa using hb
        subst e
        exact ⟨fpC.2.2.2.1, fpC.2.1, fpC.2.2.2.2.1, fpC.2.2.2.2.2⟩
    · refine thn (U.item (X.blkF NB scope cl s3.heap.objs.size s3 (upd H2 s2.heap.objs.size (.lst [])) fp (X.pn ++ pins)) rfl rfl rfl hc i [] s6 _ H6 _ I6 (fpY fr6) st6 go) fun r s7 ⟨u, hr, h7⟩ => ?_
      subst hr
      refine wpAny_bind (thn h7 fun _ s8 ⟨x, H8, I8, r8, y8, st8, fr8⟩ => ?_)
      have I8' := I8.pinned (fpY fr8) (U.obj _ _ st8)
      have gp : ∀ {σ9 : St} {H9 : Hp} {s9 : Shared}, Inv (X.blkF NB scope cl s3.heap.objs.size s3 (upd H2 s2.heap.objs.size (.lst [])) fp (X.pn ++ pins)) ([] ++ pinsAt fp s8.heap) σ9 H9 s9 → tn (i + 1) s9.heap ∧ ∀ b ∈ fp, H9 b = none := fun I9 =>
        ⟨U.keep _ _ _ st8 fun b hb o e => (I9.pin (b, o) (List.mem_append_right _ (List.mem_append_right _ (mem_pinsAt hb e)))).1, fun b hb => by
          obtain ⟨o, e, d⟩ := U.obj _ _ st8 b hb
          exact (I9.pin (b, o) (List.mem_append_right _ (List.mem_append_right _ (mem_pinsAt hb e)))).2.1⟩
      have wk : ∀ {σ9 : St} {H9 : Hp} {s9 : Shared}, σ9.drop n = (bare0 n js σ).drop n → Inv (X.blkF NB scope cl s3.heap.objs.size s3 (upd H2 s2.heap.objs.size (.lst [])) fp (X.pn ++ pins)) ([] ++ pinsAt fp s8.heap) σ9 H9 s9 → Inv (X.blkF NB scope cl s3.heap.objs.size s3 (upd H2 s2.heap.objs.size (.lst [])) fp (X.pn ++ pins)) [] (bare0 n js σ) H9 s9 := fun {σ9 H9 s9} hd I9 =>
        I9.unpinned.weak (by rw [bare0_len T, I9.len]) fun k v z => by
          obtain ⟨k', j, rfl, _, _⟩ := bare0_at z
          have e := congrArg (fun l => l[k']?) hd
          simp only [List.getElem?_drop] at e
          rw [e]
          exact z
      refine wpAny_bind (wpAny_mono (hg _ _ _ _ _ _ s8 _ H8 x u _ I8' r8 (step x H8 y8)) (fun _ s9 hq => ?_) fun _ _ z => z.elim)
      obtain ⟨σ9, H9, I9, hd9, q9⟩ := hq
      refine wpAny_bind (wpAny_mono (ht _ _ _ _ _ _ s9 σ9 H9 _ I9 q9) (fun ok s10 hq => ?_) fun _ _ z => z.elim)
      obtain ⟨H10, I10, q10⟩ := hq
      cases ok with
      | false =>
        rw [if_neg (by simp)] at q10
        obtain ⟨m', hm', w10⟩ := q10
        exact wpAny_pure ⟨rfl, m', hm', i + 1, ys, H10, wk hd9 I10, (gp I10).1, (gp I10).2, w10⟩
      | true =>
        rw [if_pos rfl] at q10
        refine wpAny_bind (wpAny_bind (wpAny_mono (he _ _ _ _ _ _ s10 σ9 H10 _ I10 q10) (fun y s11 hq => ?_) fun _ _ z => z.elim))
        obtain ⟨yv, H11, I11, ry, ha11, hl11, m', hm', w11⟩ := hq
        have mt := mt_append (X := X.blkF NB scope cl s3.heap.objs.size s3 (upd H2 s2.heap.objs.size (.lst [])) fp (X.pn ++ pins)) ([] ++ pinsAt fp s8.heap) s11 σ9 H11 (.ref s2.heap.objs.size) [yv] (.ref s2.heap.objs.size) [y] (fun _ H' => W (i + 1) m' (ys ++ [yv]) H') I11 rfl (.cons ry .nil) ⟨_, ys, yv, rfl, rfl, ha11, hl11, w11⟩
        refine wpAny_bind (wpAny_mono mt (fun _ s12 hq => ?_) fun _ _ z => z.elim)
        obtain ⟨v12, H12, I12, _, w12⟩ := hq
        exact wpAny_pure (wpAny_pure ⟨rfl, m', hm', i + 1, _, H12, wk hd9 I12, (gp I12).1, (gp I12).2, w12⟩)
  exact codeAny_compStart_list (loop _ rfl) (U.self _ 0 _ _ _ st4 (loop _ rfl))
end
end L2

set_option maxHeartbeats 4000000
namespace L2
open PySem PySem.Spec PyProof.Rows PySem.W
theorem paired_of_get {α β : Type} {F : α → β → Prop} : ∀ {xs : List α} {ys : List β}, xs.length = ys.length → (∀ (j : Nat) x y, xs[j]? = some x → ys[j]? = some y → F x y) → Paired F xs ys
  | [], [], _, _ => .nil
  | [], _ :: _, h, _ => by simp at h
  | _ :: _, [], h, _ => by simp at h
  | a :: xs, b :: ys, h, f => .cons (f 0 a b rfl rfl) (paired_of_get (by simpa using h) fun j x y e1 e2 => f (j + 1) x y (by simpa using e1) (by simpa using e2))
section
variable {X : Cx}
def rngV (lo : Int) (n : Nat) : List V := (List.range n).map fun (k : Nat) => V.int (lo + (k : Int))
theorem rngV_len (lo : Int) (n : Nat) : (rngV lo n).length = n := by
  unfold rngV
  rw [List.length_map, List.length_range]
/-- list(r), r a range -/
def rListR : List V → Hp → VK → Prop := fun xs H Q => ∃ (p : Addr) (lo hi : Int), xs = [.ref p] ∧ H p = some (.rng lo hi) ∧ (-(2 ^ 62) ≤ lo ∧ lo < 2 ^ 62 ∧ -(2 ^ 62) ≤ hi ∧ hi < 2 ^ 62) ∧ hi - lo ≤ 1000 ∧ ∀ l, H l = none → Q (.ref l) (upd H l (.lst (rngV lo (hi - lo).toNat)))
theorem call_listR (hc : X.calm = true) : CallR X (.type "list") rListR := by
  intro pins s σ H xs us Q I r h
  obtain ⟨p, lo, hi, rfl, hp, ⟨b1, b2, b3, b4⟩, b5, q⟩ := h
  obtain ⟨u, rfl, rx⟩ := vals1 r
  cases rx
  obtain ⟨t, t', t'', e⟩ := (show ObjOk X.prog X.w H s.heap p (.rng lo hi) from I.hok p _ hp)
  have hn : Builtin.Range.rangeSize lo hi 1 = (((hi - lo).toNat : Nat) : Int) := by rw [rangeSize_one]; split <;> omega
  refine call_list_range (I.ok.hd hc) e (small_one b1 b2 b3 b4) hn (by omega) fun h' tk acc' c' kp e' ⟨hs, hv⟩ => ?_
  refine ⟨.ref s.heap.objs.size, _, I.laid (o := .lst (rngV lo (hi - lo).toNat)) (t' := tk) kp (Nat.le_refl _) ?_, rfl, q _ (I.hok.fresh (Nat.le_refl _))⟩
  have sl : sizeLine = 16777216 := sizeLine_eq
  refine ⟨by rw [rngV_len]; omega, acc'.toList, c', ?_, by simpa using e'⟩
  refine paired_of_get (by rw [rngV_len]; simp [hs]) fun j x y hx hy => ?_
  unfold rngV at hx
  rw [List.getElem?_map] at hx
  have hj : j < (hi - lo).toNat := by
    have := (List.getElem?_eq_some_iff.mp hy).1
    simp only [Array.length_toList] at this
    omega
  rw [List.getElem?_range hj] at hx
  cases hx
  obtain ⟨tk, rfl⟩ := hv j y (by simpa using hy)
  exact ⟨tk, by rw [Int.mul_one]⟩
end
end L2

set_option maxHeartbeats 4000000
namespace L2
open PySem PySem.Spec PyProof.Rows PySem.W
section
variable {X : Cx}
theorem refs_are : ∀ {cs : List Addr} {us : List Value}, Vals (cs.map V.ref) us → us = cs.map Value.ref
  | [], _, .nil => rfl
  | c :: cs, _, .cons r t => by
    cases r
    rw [refs_are t]
    rfl
/-- isinstance(e, (C, D, ..)), e a caught exception, own classes -/
def rIsiT (K : PySem.W.Frag) : List V → Hp → VK → Prop := fun xs H Q => ∃ (e C tp : Addr) (cs : List Addr) (b : Bool), xs = [.ref e, .ref tp] ∧ H e = some (excO e C) ∧ ExcK K C ∧ H tp = some (.tup (cs.map V.ref)) ∧ PySem.W.kitAny K (.ref C) (cs.map Value.ref) = some b ∧ Q (.bl b) H
theorem call_isiT : CallR X (.builtin "isinstance") (rIsiT X.K) := by
  intro pins s σ H xs us Q I r h
  obtain ⟨e, C, tp, cs, b, rfl, he, T, ht, ek, q⟩ := h
  obtain ⟨u, v, rfl, ru, rv⟩ := vals2 r
  cases ru
  cases rv
  obtain ⟨p, _⟩ := (show ObjOk X.prog X.w H s.heap e (excO e C) from I.hok e _ he)
  obtain ⟨its, rv, ⟨o, ho, hc, n, hd⟩, hz⟩ := I.tuple (SqT.of ht)
  have ei := refs_are rv
  subst ei
  obtain ⟨oc, od, odd, osl⟩ := o
  cases hc
  cases hd
  exact kia_tup (kitx_exc T) I.kIn p ho ek (fun z => nomatch z) fun tk => ⟨.bl b, H, I.tok tk, rfl, q⟩
end
end L2

set_option maxHeartbeats 4000000
namespace L2
open PySem PySem.Spec PyProof.Rows PySem.W Builtin
section
variable {K : Frag} {x C : Addr} {prog : Program} {w : World} {A : Around} {E : Value → Shared → Prop} {s : Shared}
end
section
variable {X : Cx}
end
end L2

set_option maxHeartbeats 4000000
namespace L2
open PySem PySem.Spec PyProof.Rows PySem.W
section
variable {X : Cx}
end
end L2

set_option maxHeartbeats 4000000
namespace L2
open PySem PySem.Spec PyProof.Rows PySem.W
section
variable {X : Cx} {tg : Expr}
end
end L2

set_option maxHeartbeats 4000000
namespace L2
open PySem PySem.Spec PyProof.Rows PySem.W
section
variable {prog : Program} {w : World} {A : Around} {E : Value → Shared → Prop} {s : Shared}
end
end L2

set_option maxHeartbeats 4000000
namespace L2
open PySem PySem.Spec PyProof.Rows PySem.W
section
variable {prog : Program} {w : World} {A : Around} {E : Value → Shared → Prop} {s : Shared}
end
section
variable {X : Cx}
end
end L2

set_option maxHeartbeats 4000000
namespace L2
open PySem PySem.Spec PyProof.Rows PySem.W
section
variable {prog : Program} {w : World} {A : Around} {E : Value → Shared → Prop} {s : Shared}
end
end L2

set_option maxHeartbeats 4000000
namespace L2
open PySem PySem.Spec PyProof.Rows PySem.W
section
variable {prog : Program} {w : World} {A : Around} {E : Value → Shared → Prop}
end
end L2

set_option maxHeartbeats 4000000
namespace L2
open PySem PySem.Spec PyProof.Rows PySem.W
section
variable {X : Cx}
end
end L2

set_option maxHeartbeats 4000000
namespace L2
open PySem PySem.Spec PyProof.Rows PySem.W
/-! ### texts: x[a:b], startswith, int(x), for c in x -/
section
variable {X : Cx}
def rSlS : V → Option Int → Option Int → Hp → VK → Prop := fun x lo hi H Q => ∃ z, x = .str z ∧ z.length ≤ sizeLine ∧ Q (.str (Txt.slice z lo hi)) H
theorem sl_str : SlR X rSlS := by
  intro pins s σ H x v vl vu lo hi sl Q I rx hs pl pu h
  obtain ⟨z, rfl, hz, q⟩ := h
  obtain ⟨t, rfl⟩ := rx
  refine ⟨"str", _, F.slot_str_getitem.lookup, typeIs_str _ _ _, ?_⟩
  have fin : ∀ t' k, EP X pins σ Q (.str (Txt.slice z lo hi) t') { s with toks := k } := fun t' k => ⟨.str _, H, I.tok _, ⟨_, rfl⟩, q⟩
  have ln : (Txt.slice z lo hi).length ≤ sizeLine := Nat.le_trans (Txt.slice_le z _ _) hz
  obtain ⟨o, h1, h2, h3⟩ := hs
  cases pl with
  | none =>
    cases pu with
    | none => exact wpAny_getItem_str_slice (l := none) (u := none) (st := none) ⟨o, h1, h2, h3⟩ rfl (post_val_or_str ⟨ln, fin⟩)
    | int j u => exact wpAny_getItem_str_slice (l := none) (u := some (j, u)) (st := none) ⟨o, h1, h2, h3⟩ rfl (post_val_or_str ⟨ln, fin⟩)
  | int i u' =>
    cases pu with
    | none => exact wpAny_getItem_str_slice (l := some (i, u')) (u := none) (st := none) ⟨o, h1, h2, h3⟩ rfl (post_val_or_str ⟨ln, fin⟩)
    | int j u => exact wpAny_getItem_str_slice (l := some (i, u')) (u := some (j, u)) (st := none) ⟨o, h1, h2, h3⟩ rfl (post_val_or_str ⟨ln, fin⟩)
end
end L2

set_option maxHeartbeats 4000000
namespace L2
open PySem PySem.Spec PyProof.Rows PySem.W
section
variable {X : Cx}
end
end L2

set_option maxHeartbeats 4000000
namespace L2
open PySem PySem.Spec PyProof.Rows PySem.W
section
variable {X : Cx} {e : Expr} {apos cpos p : Pos} {ty : TE}
end
end L2

set_option maxHeartbeats 4000000
/-! ### the head of a law whose text makes defs within defs: the tables of their code -/
namespace L2
open PySem PySem.Spec PyProof.Rows
/-- the module of the built-in names, as the globals name it -/
def BmAt (h : Heap) (mg : Str → Option Value) : Prop := ∃ bm o, mg "__builtins__" = some (.ref bm) ∧ bm ≠ builtinsNs ∧ h.get? bm = some o ∧ o.cls = .type "module" ∧ o.dict = some builtinsNs ∧ o.data = .plain
/-- nothing is tracked but the script and the tables -/
def OnlyT (ts : List Addr) (H : Hp) : Prop := ∀ b, H b = none ∨ (∃ o xs, H b = some (.frz o (.lst xs))) ∨ (b ∈ ts ∧ H b = some (.tbl #[]))
theorem law_callT {P : Program} {w : World} {K : PySem.W.Frag} {mg mb : Str → Option Value} {CX : CXT} {k : Nat} {fa a : Addr} {fd : FuncData} {x : Str} {sp : Sp} {s₁ : Shared} {vs : List Value} {ns : List Int} {ts : List Addr}
    (KX : K.In s₁.heap) (hns : s₁.heap.Ns mainGlobals mg) (hb : s₁.heap.Ns builtinsNs mb) (hbb : ∀ x : Str, x ≠ "__name__" → mb x = bootBuiltins x) (hlim : s₁.heap.NoLimit) (hg : s₁.gens = #[])
    (hT : ∀ P ∈ ts, s₁.heap.get? P = some (PySem.W.tabObj #[])) (hKT : PySem.W.noTabs K = true) (hC : ∀ P ∈ ts, isCodeTable s₁.heap P) (hBm : BmAt s₁.heap mg)
    (ha : s₁.heap.get? a = some { cls := .type "list", data := .seq vs.toArray }) (hi : IntsAre vs ns) (hl : ns.length ≤ sizeLine) (hr : Room k callerA)
    (F : ∀ base : Heap, K.In base → base.Ns mainGlobals mg → BmAt base mg → FnOk P w K mg base CX k fa fd [x] sp) (hbind : ∀ (s : Shared) (u : Value), BindsTo s fd ⟨[u], []⟩ [(x, u)])
    (hsp : ∀ H : Hp, OnlyT ts H → (∀ P ∈ ts, H P = some (.tbl #[])) → SqL K H a (ns.map V.int) → sp [.ref a] H (fun v _ => v = .bl true) fun _ _ _ => False)
    (hCX : ∀ H e s', CX [] H s₁ (fun _ _ _ => False) e s' → False) :
    codeAny (model P w) callerA (.call (.ref fa) ⟨[.ref a], []⟩) (fun r s' => r = .ok (.ret (.bool true)) ∧ OldK s₁.heap s'.heap ∧ s'.os = s₁.os ∧ AllBare s'.gens) s₁ := by
  have rv := vals_ints hi
  have lenV := hi.length
  have kT : ∀ P ∈ ts, K.lookup P = none := fun p hp => by
    cases q : K.lookup p with
    | none => rfl
    | some o =>
      have e := KX p o q
      rw [hT p hp] at e
      cases e
      exact absurd (List.all_eq_true.mp hKT (p, _) (PySem.W.mem_of_lookupK q)) (by simp)
  have aT : a ∉ ts := fun hm => by
    have e := hT a hm
    rw [ha] at e
    cases e
  have core : ∀ H : Hp, OnlyT ts H → (∀ P ∈ ts, H P = some (.tbl #[])) → SqL K H a (ns.map V.int) → HOk P w H s₁.heap → (∀ b, H b ≠ none → b = a ∨ b ∈ ts) → (H a ≠ none → K.lookup a = none) →
      codeAny (model P w) callerA (.call (.ref fa) ⟨[.ref a], []⟩) (fun r s' => r = .ok (.ret (.bool true)) ∧ OldK s₁.heap s'.heap ∧ s'.os = s₁.os ∧ AllBare s'.gens) s₁ := by
    intro H hO hTs hS hok hA hK
    have base_of : ∀ {b : Addr} {o : Obj}, s₁.heap.get? b = some o → H b = none → (hidT s₁.heap H).get? b = some o := fun e n => hidT_get e n
    have noA : ∀ {b : Addr} {o : Obj} {es : Array DictEntry} {ep : Nat}, s₁.heap.get? b = some o → o.data = .dict es ep → H b = none := fun {b o es ep} e d => by
      cases q : H b with
      | none => rfl
      | some u =>
        rcases hA b (by rw [q]; simp) with e' | e'
        · subst e'
          rw [ha] at e; cases e
          have d' : Data.seq vs.toArray _ = Data.dict es ep := d
          cases d'
        · rw [hT b e'] at e; cases e
          have d' : Data.fields #[] = Data.dict es ep := d
          cases d'
    have nsK : ∀ {b : Addr} {m : Str → Option Value}, s₁.heap.Ns b m → (hidT s₁.heap H).Ns b m := fun {b m} ⟨o, es, ep, e, d, r⟩ => ⟨o, es, ep, base_of e (noA e d), d, r⟩
    have hKb : K.In (hidT s₁.heap H) := fun b o e => base_of (KX b o e) (by
      cases q : H b with
      | none => rfl
      | some u =>
        rcases hA b (by rw [q]; simp) with e' | e'
        · subst e'
          rw [hK (by rw [q]; simp)] at e; cases e
        · rw [kT b e'] at e; cases e)
    have hM : Mod K mg (hidT s₁.heap H) := ⟨hKb, nsK hns, ⟨mb, nsK hb, hbb⟩, let ⟨mc, h1, h2⟩ := hlim; ⟨mc, nsK h1, h2⟩⟩
    have hBb : BmAt (hidT s₁.heap H) mg := by
      obtain ⟨bm, ob, b1, b2, b3, b4, b5, b6⟩ := hBm
      refine ⟨bm, ob, b1, b2, base_of b3 ?_, b4, b5, b6⟩
      cases q : H bm with
      | none => rfl
      | some u =>
        rcases hA bm (by rw [q]; simp) with e' | e'
        · subst e'
          rw [ha] at b3; cases b3
          have b4 : Value.type "list" = .type "module" := b4
          exact absurd (Value.type.inj b4) (by decide)
        · rw [hT bm e'] at b3; cases b3; cases b4
    have e0 : Env0 P w K mg (hidT s₁.heap H) callerA [] s₁ H := ⟨rfl, hM, fun b o e => of_hidT e, Nat.le_of_eq (hidT_size _ _), trivial, fun b hb => absurd (show b ∈ ([] : List Addr) from hb) (by simp), hok, .of_eq hg⟩
    refine codeAny_mono ((F _ hKb (nsK hns) hBb).run callerA [] s₁ H ⟨[.ref a], []⟩ [.ref a] [.ref a] _ _ hr e0 (hbind s₁ (.ref a)) (.cons rfl .nil) (hsp H hO hTs hS)) fun r s' h => ?_
    cases r with
    | error e => exact (hCX H e s' h).elim
    | ok fl =>
      cases fl with
      | next => exact False.elim h
      | brk => exact False.elim h
      | cont => exact False.elim h
      | ret u =>
        obtain ⟨v, H', os, bare, un, hok', r', q⟩ := h
        have q' : v = .bl true := q
        subst q'
        obtain rfl : u = Value.bool true := r'
        refine ⟨rfl, ⟨fun b o e => ?_, fun b o e => un.there b o e (by simp)⟩, os, bare⟩
        cases q : H b with
        | none => exact .inl (un.keep b o e q (by intro z; exact absurd (show b ∈ ([] : List Addr) from z) (by simp)) (by simp))
        | some u =>
          rcases hO b with z | ⟨ob, xs, z⟩ | ⟨hm, z⟩
          · rw [q] at z; cases z
          · have z2 := un.frzs b ob _ z
            obtain ⟨e1, _⟩ := hok b _ z
            obtain ⟨e2, _⟩ := hok' b _ z2
            rw [e] at e1; cases e1
            exact .inl e2
          · obtain ⟨more, z2⟩ := un.tbls b _ z
            have e2 : s'.heap.get? b = some { cls := .none, data := .fields (#[] ++ more) } := hok' b _ z2
            have e3 := hT b hm
            rw [e] at e3; cases e3
            exact .inr (.inl ⟨hC b hm, rfl, #[], more, rfl, e2⟩)
  have dec : ∀ b, Decidable (b ∈ ts) := fun b => inferInstance
  have tb : ∀ b, b ∈ ts → ObjOk P w (fun _ => none) s₁.heap b (.tbl #[]) := fun b hb => hT b hb
  cases hk : K.lookup a with
  | some o =>
    have e := KX a o hk
    rw [ha] at e
    cases e
    refine core (fun b => if b ∈ ts then some (.tbl #[]) else none) (fun b => ?_) (fun p hp => if_pos hp) (.inr ⟨_, vs.toArray, _, hk, rfl, rfl, rfl, by rw [List.size_toArray, lenV]; exact hl, by simpa using rv⟩) (fun b u z => ?_) (fun b z => ?_) fun z => absurd (if_neg aT) z
    · by_cases hb : b ∈ ts
      · exact .inr (.inr ⟨hb, if_pos hb⟩)
      · exact .inl (if_neg hb)
    · by_cases hb : b ∈ ts
      · have z' := (if_pos hb).symm.trans z
        cases z'
        exact hT b hb
      · have z' := (if_neg hb).symm.trans z
        cases z'
    · by_cases hb : b ∈ ts
      · exact .inr hb
      · exact absurd (if_neg hb) z
  | none =>
    refine core (fun b => if b = a then some (.frz { cls := .type "list", data := .seq vs.toArray } (.lst (ns.map V.int))) else if b ∈ ts then some (.tbl #[]) else none) (fun b => ?_) (fun p hp => ?_) (.inl (.inr ⟨{ cls := .type "list", data := .seq vs.toArray }, if_pos rfl⟩)) (fun b u z => ?_) (fun b z => ?_) fun _ => hk
    · by_cases hb : b = a
      · exact .inr (.inl ⟨_, _, if_pos hb⟩)
      · by_cases ht : b ∈ ts
        · exact .inr (.inr ⟨ht, (if_neg hb).trans (if_pos ht)⟩)
        · exact .inl ((if_neg hb).trans (if_neg ht))
    · exact (if_neg (fun z : p = a => aT (by rw [← z]; exact hp))).trans (if_pos hp)
    · by_cases hb : b = a
      · have z' := (if_pos hb).symm.trans z
        cases z'
        subst hb
        exact ⟨ha, by rw [List.length_map]; exact hl, vs, _, rv, ha⟩
      · by_cases ht : b ∈ ts
        · have z' := ((if_neg hb).trans (if_pos ht)).symm.trans z
          cases z'
          exact hT b ht
        · have z' := ((if_neg hb).trans (if_neg ht)).symm.trans z
          cases z'
    · by_cases hb : b = a
      · exact .inl hb
      · by_cases ht : b ∈ ts
        · exact .inr ht
        · exact absurd ((if_neg hb).trans (if_neg ht)) z
/-- as walk_of; hY gives the written part and the tables (km_in_of, km_tabs_of, codeHd_of_K) -/
theorem walk_ofT {l : PySem.W.OpenLaw} {n k : Nat} {q : Program} {loose : List Str} {XP : (Str → Option Value) → Heap → Prop} {YP : World → Heap → Prop} {d : DefRec} {K : Params → PySem.W.Frag} {CX : World → CXT} {sp : World → Sp} {x : Str} {ts : List Addr}
    (hn : l.most = some n) (hn2 : n ≤ sizeLine) (hdf : d.params.defaults = []) (hr : Room k callerA)
    (hY : ∀ (w : World) (h : Heap), YP w h → (K w.params).In h ∧ PySem.W.noTabs (K w.params) = true ∧ ∀ p ∈ ts, h.get? p = some (PySem.W.tabObj #[]) ∧ isCodeTable h p)
    (F : ∀ (w : World) (mg : Str → Option Value) (fa : Addr) (h : Heap), (K w.params).In h → h.Ns mainGlobals mg → mg d.name = some (.ref fa) →
      ∃ fd : FuncData, (∀ (s : Shared) (u : Value), BindsTo s fd ⟨[u], []⟩ [(x, u)]) ∧
        ∀ base : Heap, (K w.params).In base → base.Ns mainGlobals mg → BmAt base mg → FnOk l.prog w (K w.params) mg base (CX w) k fa fd [x] (sp w))
    (hsp : ∀ (w : World) (H : Hp) (a : Addr) (ns : List Int), ns.length ≤ n → OnlyT ts H → (∀ P ∈ ts, H P = some (.tbl #[])) → SqL (K w.params) H a (ns.map V.int) → sp w [.ref a] H (fun v _ => v = .bl true) fun _ _ _ => False)
    (hCX : ∀ (w : World) (H : Hp) (s : Shared) (e : Value) (s' : Shared), CX w [] H s (fun _ _ _ => False) e s' → False) :
    PySem.W.WalkO q loose XP YP l.row.toRowW d [] (fun f vs => PySem.call f vs) := by
  refine Att.attach_call hn hdf fun w s₀ s₁ mg mb fa o pm cd doc a vs ns G Y ho hd hcd hmg hobj hints hlen hg => ?_
  obtain ⟨KX, hKT, hTs⟩ := hY w _ Y
  obtain ⟨fd, hb, hF⟩ := F w mg fa _ KX G.T.g hmg
  exact law_callT KX G.T.g G.T.b G.T.builtins G.T.nolimit hg (fun p hp => (hTs p hp).1) hKT (fun p hp => (hTs p hp).2) (let ⟨bm, ob, b1, b2, b3, b4, b5, b6⟩ := G.T.bmain; ⟨bm, ob, b1, b2, b3, b4, b5, b6⟩) hobj hints (Nat.le_trans hlen hn2) hr hF hb (fun H hO hT hS => hsp w H a ns hlen hO hT hS) fun H e s' => hCX w H s₁ e s'
end L2

set_option maxHeartbeats 4000000
/-! ### a lambda made -/
namespace L2
open PySem PySem.Spec PyProof.Rows
/-- a made code object -/
def codeO (c : Addr) (q : Str) : HO := .ext fun h => h.CodeRec (.ref c) q
/-- a made function -/
def funO (f : Addr) (o : Obj) : HO := .ext fun h => h.get? f = some o
/-- a table in which the code at pos stands, or not yet -/
def Tab (H : Hp) (T : Addr) (pos : Pos) (q : Str) : Prop := ∃ ps, H T = some (.tbl ps) ∧ TriplesOk ps.toList ∧ (codeAmong pos ps.toList = none ∨ ∃ c', codeAmong pos ps.toList = some (.ref c') ∧ H c' = some (codeO c' q))
/-- all kept but the table -/
def KeepT (T : Addr) (H H' : Hp) : Prop := ∀ b o, b ≠ T → H b = some o → H' b = some o
theorem codeO_ok {P : Program} {w : World} {H : Hp} {h : Heap} {c : Addr} {q : Str} (x : h.CodeRec (.ref c) q) : ObjOk P w H h c (codeO c q) := by
  refine ⟨x, ?_, fun h1 h2 y k => ?_⟩
  · obtain ⟨c₂, o, vs, t, e, g, _⟩ := x
    cases e
    exact ⟨o, g⟩
  · obtain ⟨c₂, o, vs, t, e, g, r⟩ := y
    cases e
    exact ⟨c, o, vs, t, rfl, k _ g, r⟩
theorem funO_ok {P : Program} {w : World} {H : Hp} {h : Heap} {f : Addr} {o : Obj} (x : h.get? f = some o) : ObjOk P w H h f (funO f o) := ⟨x, ⟨o, x⟩, fun h1 h2 y k => k _ y⟩
section
variable {X : Cx} {pins : List (Addr × Obj)} {σ : List (Option V)} {H : Hp} {s : Shared}
theorem Inv.madeNew {h' : Heap} {T c' : Addr} {q : Str} {ps more : Array Value} {o : Obj} {tk : Nat} (I : Inv X pins σ H s) (hT : H T = some (.tbl ps)) (hx : Heap.ExtBut T s.heap h') (hge : s.heap.objs.size ≤ c') (hlt : c' < h'.objs.size)
    (hrec : h'.CodeRec (.ref c') q) (htb : h'.get? T = some (PySem.W.tabObj (ps ++ more))) (hcl : o.isFreed = false) :
    Inv X pins σ (upd (upd (upd H T (.tbl (ps ++ more))) c' (codeO c' q)) h'.objs.size (funO h'.objs.size o)) { s with heap := h'.push o, toks := tk } := by
  have nc : H c' = none := I.hok.fresh hge
  have nf : H h'.objs.size = none := I.hok.fresh (Nat.le_trans hge (Nat.le_of_lt hlt))
  have at' : ∀ b u, b ≠ T → H b = some u → (upd (upd (upd H T (.tbl (ps ++ more))) c' (codeO c' q)) h'.objs.size (funO h'.objs.size o)) b = some u := fun b u hb e => by
    rw [upd_ne (ne_of_none e nf), upd_ne (ne_of_none e nc), upd_ne hb]
    exact e
  have neT : ∀ b u, H b = some u → u ≠ .tbl ps → b ≠ T := fun b u e n z => by
    subst z
    rw [hT] at e
    exact n (Option.some.inj e).symm
  have noT : ∀ b, H b = none → b ≠ T := fun b e z => by rw [z, hT] at e; cases e
  have Tc : T ≠ c' := ne_of_none hT nc
  have Tf : T ≠ h'.objs.size := ne_of_none hT nf
  have kp : ∀ b u, b ≠ T → s.heap.get? b = some u → (h'.push o).get? b = some u := fun b u hb e => Heap.get?_push_of_some _ (hx b u hb e)
  refine I.un ⟨fun b u e n _ _ => kp b u (noT b n) e, fun b u e n _ _ => ⟨u.slots, kp b u (noT b n) e⟩, fun b u e n _ => ?_, fun b u e _ => ?_, fun b xs e => at' b _ (neT b _ e (by intro z; cases z)) e, fun b ob u e => at' b _ (neT b _ e (by intro z; cases z)) e, fun b qs e => ?_⟩ fun b u e => ?_
  · have hb := Heap.lt_size e
    have h1 : b ≠ c' := Nat.ne_of_lt (Nat.lt_of_lt_of_le hb hge)
    have h2 : b ≠ h'.objs.size := Nat.ne_of_lt (Nat.lt_trans (Nat.lt_of_lt_of_le hb hge) hlt)
    rw [upd_ne h2, upd_ne h1, upd_ne (noT b n)]
    exact n
  · by_cases hb : b = T
    · subst hb
      exact ⟨_, Heap.get?_push_of_some _ htb⟩
    · exact ⟨u, kp b u hb e⟩
  · by_cases hb : b = T
    · subst hb
      rw [hT] at e
      cases e
      exact ⟨more, by rw [upd_ne Tf, upd_ne Tc, upd_same]⟩
    · exact ⟨#[], by rw [at' b _ hb e]; simp⟩
  · by_cases hf : b = h'.objs.size
    · subst hf
      rw [upd_same] at e
      cases e
      exact funO_ok (Heap.get?_push_size _ hcl)
    · rw [upd_ne hf] at e
      by_cases hc : b = c'
      · subst hc
        rw [upd_same] at e
        cases e
        exact codeO_ok (hrec.push o)
      · rw [upd_ne hc] at e
        by_cases hb : b = T
        · subst hb
          rw [upd_same] at e
          cases e
          exact Heap.get?_push_of_some _ htb
        · rw [upd_ne hb] at e
          refine (I.hok b u e).stay (fun c v hc' g => kp c v ?_ g) (fun c z => at' c _ (neT c _ z (by intro y; cases y)) z) fun c xs z => at' c _ (neT c _ z (by intro y; cases y)) z
          rcases hc' with rfl | z
          · exact hb
          · exact neT c _ z (by intro y; cases y)
end
section
variable {X : Cx}
end
end L2

set_option maxHeartbeats 4000000
/-! ### a made lambda called -/
namespace L2
open PySem PySem.Spec PyProof.Rows
end L2

set_option maxHeartbeats 4000000
/-! ### sorts of any size: the search by leaps -/
namespace Sr
open PySem PyProof.Rows
section
variable {M : Model} {A : Around} {E : Value → Shared → Prop} {s : Shared} {st : SortSt}
end
end Sr

set_option maxHeartbeats 4000000
/-! ### sorts of any size: runs that rise or fall, and what is put in its place one by one -/
namespace Sr
open PySem PyProof.Rows
section
variable {prog : Program} {w : World} {A : Around} {E : Value → Shared → Prop} {s : Shared} {κ : SortKind} {a₀ : Array Keyed} {rk : Keyed → Int}
variable {st₀ : SortSt} {lo : Nat}
end
end Sr

set_option maxHeartbeats 4000000
/-! ### sorts of any size: two runs made one, from below -/
namespace Sr
open PySem PyProof.Rows
section
variable {prog : Program} {w : World} {A : Around} {E : Value → Shared → Prop} {s : Shared} {κ : SortKind} {a₀ : Array Keyed} {rk : Keyed → Int}
end
end Sr

set_option maxHeartbeats 4000000
namespace Sr
open PySem PyProof.Rows
section
variable {prog : Program} {w : World} {A : Around} {E : Value → Shared → Prop} {s : Shared} {κ : SortKind} {a₀ : Array Keyed} {rk : Keyed → Int}
end
end Sr

set_option maxHeartbeats 4000000
/-! ### sorts of any size: two runs made one, from above -/
namespace Sr
open PySem PyProof.Rows
section
variable {prog : Program} {w : World} {A : Around} {E : Value → Shared → Prop} {s : Shared} {κ : SortKind} {a₀ : Array Keyed} {rk : Keyed → Int}
end
end Sr

set_option maxHeartbeats 4000000
/-! ### sorts of any size: two neighbours among the runs -/
namespace Sr
open PySem PyProof.Rows
section
variable {M : Model} {A : Around} {E : Value → Shared → Prop} {s : Shared} {σ : Type}
end
section
variable {prog : Program} {w : World} {A : Around} {E : Value → Shared → Prop} {s : Shared} {κ : SortKind} {a₀ : Array Keyed} {rk : Keyed → Int}
end
end Sr

set_option maxHeartbeats 4000000
/-! ### sorts of any size: the whole -/
namespace Sr
open PySem PyProof.Rows
section
variable {prog : Program} {w : World} {A : Around} {E : Value → Shared → Prop} {s : Shared} {κ : SortKind} {a₀ : Array Keyed} {rk : Keyed → Int}
end
end Sr

set_option maxHeartbeats 4000000
/-! ### list.sort and sorted() of numbers, of any size -/
namespace Sr
open PySem PyProof.Rows
section
variable {prog : Program} {w : World} {A : Around} {E : Value → Shared → Prop} {s : Shared}
end
end Sr
namespace L2
open PySem PySem.Spec PyProof.Rows PySem.W
section
variable {X : Cx}
end
end L2

set_option maxHeartbeats 4000000
/-! ### list.sort with a key -/
namespace L2
open PySem PySem.Spec PyProof.Rows PySem.W
section
variable {X : Cx} {pins pins' : List (Addr × Obj)} {σ : St} {H : Hp} {s : Shared} {a : Addr} {o o' : Obj} {h' : Heap} {tk : Nat}
end
section
variable {X : Cx} {pins : List (Addr × Obj)} {σ : St} {H : Hp} {s : Shared} {A' : Around} {E : Value → Shared → Prop} {D kS f : Addr} {vs : List Value} {xs : List V} {kz : List Int} {keys : Array Value} {e e1 n : Nat} {J : Hp → Prop} {P : PySem.Fin → Shared → Prop}
end
end L2

set_option maxHeartbeats 4000000
/-! ### d.values(), walked -/
namespace L2
open PySem PySem.Spec PyProof.Rows PySem.W
section
variable {X : Cx} {tg : Expr}
end
end L2

set_option maxHeartbeats 4000000
/-! ### sorted(d.values(), key = ..) -/
namespace L2
open PySem PySem.Spec PyProof.Rows PySem.W
section
variable {X : Cx}
end
end L2

set_option maxHeartbeats 4000000
/-! ### min(a list of things, key = ..), the keys pairs of numbers -/
namespace L2
open PySem PySem.Spec PyProof.Rows PySem.W
section
variable {X : Cx} {pins : List (Addr × Obj)} {σ : St} {l f I S : Addr} {ps : List Addr} {J : Hp → Prop} {R : Result → Shared → Prop}
end
end L2

set_option maxHeartbeats 4000000
/-! ### a def whose code is known (it makes lambdas) -/
namespace L2
open PySem PySem.Spec PyProof.Rows PySem.W
structure FunC (K : PySem.W.Frag) (x qual : Str) (st : Stmt) (f : Addr) (fd : FuncData) (c : Addr) : Prop where
  ex : ∃ (oc : Value) (od : Option Addr) (kV doc pm : Value) (an : Option Addr) (ct : Value) (osl : Array (Option Value)), fd = PySem.W.fnOf x qual (defArgs st) (defBody st) (defScope st) .none kV doc pm an (.ref c) ct ∧ K.lookup f = some ⟨oc, od, .func fd, osl⟩ ∧ PySem.W.codeIn K (.ref c) qual = true
  kp : PySem.W.keepIn K (.ref f) = true
section
variable {P : Program} {w : World} {K : PySem.W.Frag} {mg : Str → Option Value} {base : Heap} {x qual : Str} {st : Stmt} {f c : Addr} {fd : FuncData}
theorem FunC.toFun (F : FunC K x qual st f fd c) : Fun K x qual st f fd := by
  obtain ⟨⟨oc, od, kV, doc, pm, an, ct, osl, e, l, h⟩, k⟩ := F
  exact ⟨⟨oc, od, kV, doc, pm, an, _, ct, osl, e, l, h⟩, k⟩
theorem func_mk {oc : Value} {od an : Option Addr} {osl : Array (Option Value)} {kV doc pm ct : Value} (l : K.lookup f = some ⟨oc, od, .func (PySem.W.fnOf x qual (defArgs st) (defBody st) (defScope st) .none kV doc pm an (.ref c) ct), osl⟩)
    (h : PySem.W.codeIn K (.ref c) qual = true) (k : PySem.W.keepIn K (.ref f) = true) : FunC K x qual st f (PySem.W.fnOf x qual (defArgs st) (defBody st) (defScope st) .none kV doc pm an (.ref c) ct) c := ⟨⟨oc, od, kV, doc, pm, an, ct, osl, rfl, l, h⟩, k⟩
end
theorem Tab.same {H H' : Hp} {T : Addr} {pos : Pos} {q : Str} (h : Same H H') (t : Tab H T pos q) : Tab H' T pos q := by
  obtain ⟨ps, e, ht, hc⟩ := t
  refine ⟨ps, h _ _ e, ht, ?_⟩
  rcases hc with z | ⟨c', z, hC⟩
  · exact .inl z
  · exact .inr ⟨c', z, h _ _ hC⟩
end L2

set_option maxHeartbeats 4000000
/-! ### a def within a def, with cells that outlive it -/
namespace L2
open PySem PySem.Spec PyProof.Rows PySem.W
/-- a cell that outlives its def -/
def cellO (c : Addr) (u : Value) : HO := .ext fun h => h.IsCell c (some u)
theorem cellO_ok {P : Program} {w : World} {H : Hp} {h : Heap} {c : Addr} {u : Value} (x : h.IsCell c (some u)) : ObjOk P w H h c (cellO c u) := by
  obtain ⟨o, e, d⟩ := x
  exact ⟨⟨o, e, d⟩, ⟨o, e⟩, fun h1 h2 ⟨o', e', d'⟩ k => ⟨o', k _ e', d'⟩⟩
/-- without the cells -/
def unc (cs : List Addr) (H : Hp) : Hp := fun b => if b ∈ cs then none else H b
/-- the cells back -/
def rcl (cs : List Addr) (H H' : Hp) : Hp := fun b => if b ∈ cs then H b else H' b
theorem unc_in {cs : List Addr} {H : Hp} {b : Addr} (h : b ∈ cs) : unc cs H b = none := if_pos h
theorem unc_out {cs : List Addr} {H : Hp} {b : Addr} (h : b ∉ cs) : unc cs H b = H b := if_neg h
theorem rcl_in {cs : List Addr} {H H' : Hp} {b : Addr} (h : b ∈ cs) : rcl cs H H' b = H b := if_pos h
theorem rcl_out {cs : List Addr} {H H' : Hp} {b : Addr} (h : b ∉ cs) : rcl cs H H' b = H' b := if_neg h
theorem rcl_unc {cs : List Addr} {H : Hp} : rcl cs H (unc cs H) = H := by
  funext b
  by_cases h : b ∈ cs
  · rw [rcl_in h]
  · rw [rcl_out h, unc_out h]
theorem rcl_upd {cs : List Addr} {H H' : Hp} {a : Addr} {o : HO} (h : a ∉ cs) : rcl cs H (upd H' a o) = upd (rcl cs H H') a o := by
  funext b
  by_cases hb : b = a
  · subst hb
    rw [rcl_out h, upd_same, upd_same]
  · rw [upd_ne hb]
    by_cases hc : b ∈ cs
    · rw [rcl_in hc, rcl_in hc]
    · rw [rcl_out hc, rcl_out hc, upd_ne hb]
/-- all of them are cells -/
def Cells (H : Hp) (cs : List Addr) : Prop := ∀ c ∈ cs, ∃ u, H c = some (cellO c u)
theorem Cells.out {H : Hp} {cs : List Addr} {b : Addr} {o : HO} (C : Cells H cs) (e : H b = some o) (n : ∀ φ, o ≠ .ext φ) : b ∉ cs := fun h => by
  obtain ⟨u, z⟩ := C b h
  rw [e] at z
  exact n _ (Option.some.inj z)
theorem unc_at {H : Hp} {cs : List Addr} {b : Addr} {o : HO} (C : Cells H cs) (e : H b = some o) (n : ∀ φ, o ≠ .ext φ := by intro _ z; cases z) : unc cs H b = some o := by
  rw [unc_out (C.out e n)]
  exact e
theorem HOk.unc {P : Program} {w : World} {H : Hp} {h : Heap} {cs : List Addr} (x : HOk P w H h) (C : Cells H cs) : HOk P w (unc cs H) h := fun b o e => by
  by_cases hb : b ∈ cs
  · rw [unc_in hb] at e
    cases e
  · rw [unc_out hb] at e
    exact (x b o e).stay (fun _ _ _ q => q) (fun c z => unc_at C z) fun c xs z => unc_at C z
/-- the context of such a def -/
def cxClo (P : Program) (w : World) (K : PySem.W.Frag) (mg : Str → Option Value) (base : Heap) (N : List Str) (qual : Str) (scope : Scope) (f : Addr) (cd : Value) (cl : List (Str × Addr)) (A : Around) (outer : List Env) (s : Shared) (H : Hp) : Cx where
  prog := P
  w := w
  K := K
  mg := mg
  base := base
  A := A.deeper (envX qual scope s.heap.objs.size f cd cl)
  N := N
  s₀ := s
  H₀ := H
  env := envX qual scope s.heap.objs.size f cd cl
  outer := outer
  stack := envX qual scope s.heap.objs.size f cd cl :: outer
  ex := []
  calm := true
  fn := fun _ => false
  pn := []
  xe := fun _ _ => False
/-- its names: the parameters, then those from around it -/
structure CloScope (ps fr : List Str) (sc : Scope) (cl : List (Str × Addr)) : Prop where
  kind : sc.kind = .function
  co : sc.isCoroutine = false
  gen : sc.isGenerator = false
  nd : ps.Nodup
  par : ∀ x ∈ ps, sc.names.lookup x = some .local
  nocell : ∀ y ∈ sc.names, y.2 ≠ .cell
  has : ∀ x, sc.names.lookup x = some .free → ∃ c, cl.lookup x = some c
  inj : ∀ x y c, cl.lookup x = some c → cl.lookup y = some c → x = y
  fre : ∀ x ∈ fr, sc.names.lookup x = some .free
theorem rev_lookup : ∀ {ps : List Str} {us : List Value} {i : Nat} {x : Str} {u : Value}, ps.Nodup → ps[i]? = some x → us[i]? = some u → (ps.zip us).reverse.lookup x = some u := fun {ps us i x u} nd hx hu => by
  have key : ∀ (l : List (Str × Value)) (z : Str) (v : Value), (z, v) ∈ l → (l.map (·.1)).Nodup → l.lookup z = some v := by
    intro l
    induction l with
    | nil => intro z v h; cases h
    | cons p r ih =>
      intro z v h n
      obtain ⟨y, t⟩ := p
      rcases List.mem_cons.mp h with e | e
      · cases e
        simp [List.lookup]
      · have n' := List.nodup_cons.mp (show ((y :: r.map (·.1)).Nodup) from n)
        have ne : z ≠ y := fun q => n'.1 (q ▸ List.mem_map_of_mem (f := (·.1)) e)
        rw [List.lookup_cons, beq_eq_false_iff_ne.mpr ne]
        exact ih z v e n'.2
  have hm : (x, u) ∈ ps.zip us := List.mem_iff_getElem?.mpr ⟨i, List.getElem?_zip_eq_some.mpr ⟨hx, hu⟩⟩
  refine key _ _ _ (List.mem_reverse.mpr hm) ?_
  rw [List.map_reverse]
  refine List.pairwise_reverse.mpr (List.Pairwise.imp (fun h => Ne.symm h) (?_ : List.Nodup _))
  have : ∀ (a : List Str) (b : List Value), a.Nodup → ((a.zip b).map (·.1)).Nodup := by
    intro a
    induction a with
    | nil => intro b _; simp
    | cons y a ih =>
      intro b n
      cases b with
      | nil => simp
      | cons v b =>
        obtain ⟨n1, n2⟩ := List.nodup_cons.mp n
        refine List.nodup_cons.mpr ⟨fun q => n1 ?_, ih b n2⟩
        obtain ⟨z, hz, e⟩ := List.mem_map.mp q
        obtain ⟨z1, z2⟩ := z
        cases e
        exact (List.of_mem_zip hz).1
  exact this _ _ nd
theorem clo_run {P : Program} {w : World} {K : PySem.W.Frag} {mg : Str → Option Value} {base : Heap} {k : Nat} {f c' : Addr} {name q : Str} {params : Arguments} {body : List Stmt} {scope : Scope} {cl : List (Str × Addr)} {doc pm ctv : Value} {ps fr : List Str} {A : Around} {outer : List Env} {s : Shared} {H : Hp} {args : Args} {us : List Value} {vs ws : List V} {Q : VK}
    (hf : H f = some (funO f (fnMade name q params body scope cl doc pm c' ctv))) (hc : H c' = some (codeO c' q)) (S : CloScope ps fr scope cl) (C : Cells H (cl.map (·.2)))
    (hfr : ∀ (i : Nat) (x : Str), fr[i]? = some x → ∃ c v u, cl.lookup x = some c ∧ ws[i]? = some v ∧ RelV v u ∧ H c = some (cellO c u)) (lw : ws.length = fr.length)
    (hr : Room (k + 1) A) (e0 : Env0 P w K mg base A outer s H) (hb : BindsTo s (fnX name q params body scope cl .none .none doc pm none (.ref c') ctv) args (ps.zip us)) (r : Vals vs us) (hl : vs.length = ps.length)
    (hbody : Room k (A.deeper (envX q scope s.heap.objs.size f (.ref c') cl)) → ∃ t, PSs (cxClo P w K mg base (ps ++ fr) q scope f (.ref c') cl A outer s (unc (cl.map (·.2)) H)) body t ∧
      t { nx := fun _ H' => Q .non (rcl (cl.map (·.2)) H H'), rt := fun v H' => Q v (rcl (cl.map (·.2)) H H') } ((vs ++ ws).map some) (unc (cl.map (·.2)) H)) :
    codeAny (model P w) A (.call (.ref f) args) (CR CX0 outer P w H s Q E0) s := by
  have lim : s.heap.NoLimit := e0.mod.nolimit.keeps fun b o e => (e0.bs b o e).1
  obtain ⟨ho, _, _⟩ := e0.hok f _ hf
  obtain ⟨hcd, _, _⟩ := e0.hok c' _ hc
  have ho : s.heap.get? f = some (fnMade name q params body scope cl doc pm c' ctv) := ho
  have hcd : s.heap.CodeRec (.ref c') q := hcd
  have memC : ∀ x c, cl.lookup x = some c → c ∈ cl.map (·.2) := fun x c h => List.mem_map.mpr ⟨_, PySem.mem_of_lookup h, rfl⟩
  have cellH : ∀ c ∈ cl.map (·.2), ∃ u, s.heap.IsCell c (some u) := fun c h => by
    obtain ⟨u, e⟩ := C c h
    obtain ⟨z, _, _⟩ := e0.hok c _ e
    exact ⟨u, z⟩
  generalize hcs : cl.map (·.2) = cs at *
  refine codeAny_call_def hr.depth ho rfl lim hcd rfl hb S.nocell (fun ⟨n, v⟩ hy => S.par n (List.of_mem_zip hy).1) (fun h₀ hns hk => ?_) S.co S.gen S.kind
  obtain ⟨t, ht, hq⟩ := hbody (hr.deeper _)
  have hok0 : HOk P w (unc cs H) s.heap := e0.hok.unc C
  have noA : ∀ b : Addr, b ∉ ([] : List Addr) := fun b z => absurd z (by simp)
  have I : Inv (cxClo P w K mg base (ps ++ fr) q scope f (.ref c') cl A outer s (unc cs H)) [] ((vs ++ ws).map some) (unc cs H) { s with heap := h₀, toks := s.toks + (ps.zip us).length } := by
    refine ⟨⟨e0.mod, S.kind, rfl, rfl, Nat.le_refl _, S.inj, fun y hy => ?_, fun y c z => (by cases z), fun _ => hr.hd, Around.frames_deeper e0.frames, .inr ⟨rfl, rfl⟩, fun b z => absurd z (noA b), fun b o e => ⟨(e0.bs b o e).1, ?_⟩, e0.bsz, fun b _ _ => noA b, fun b z => absurd z (noA b), e0.funs, fun b hb' => ?_⟩,
      rfl, e0.bare, Un.kept hk, ⟨_, hns, fun i y v h1 h2 h3 => ?_⟩, fun y c h => ?_, hok0.fresh (Nat.le_refl _), fun y c h => unc_in (memC y c h), fun p hp => absurd (show p ∈ ([] : List (Addr × Obj)) from hp) (by simp), hok0.kept hk, ?_⟩
    · rcases hy with hy | hy
      · exact absurd rfl (S.nocell _ (PySem.mem_of_lookup (show scope.names.lookup y = some .cell from hy)))
      · exact S.has y hy
    · by_cases hb' : b ∈ cs
      · exact unc_in hb'
      · show unc cs H b = none
        rw [unc_out hb']
        exact (e0.bs b o e).2
    · by_cases hc' : b ∈ cs
      · exact unc_in hc'
      · show unc cs H b = none
        rw [unc_out hc']
        exact e0.frf b hb'
    · have h1 : (ps ++ fr)[i]? = some y := h1
      have h2 : (vs ++ ws)[i]? = some v := by
        rw [List.getElem?_map] at h2
        cases e : (vs ++ ws)[i]? with
        | none => rw [e] at h2; cases h2
        | some z => rw [e] at h2; cases h2; rfl
      by_cases hi : i < ps.length
      · rw [List.getElem?_append_left hi] at h1
        rw [List.getElem?_append_left (by omega)] at h2
        obtain ⟨u, hu, rv⟩ := r.get h2
        exact ⟨u, rv, .inl ⟨S.par y (List.mem_of_getElem? h1), rev_lookup S.nd h1 hu⟩⟩
      · rw [List.getElem?_append_right (by omega)] at h1
        rw [List.getElem?_append_right (by omega), hl] at h2
        obtain ⟨c, v', u, e1, e2, rv, e3⟩ := hfr _ _ h1
        rw [h2] at e2
        cases e2
        obtain ⟨z, _, _⟩ := e0.hok c _ e3
        exact ⟨u, rv, .inr ⟨.inr (S.fre y (List.mem_of_getElem? h1)), c, e1, Heap.IsCell.keeps z hk⟩⟩
    · obtain ⟨u, z⟩ := cellH c (memC y c h)
      exact ⟨_, Heap.IsCell.keeps z hk⟩
    · show ((vs ++ ws).map some).length = (ps ++ fr).length
      rw [List.length_map, List.length_append, List.length_append, hl, lw]
  refine wpAny_mono (ht [] _ _ _ _ I hq) (fun fl s' hs => ?_) fun e s' hs => hs.elim
  have fin : ∀ {σ' : St} {H' : Hp} {v : V} {u : Value}, Inv (cxClo P w K mg base (ps ++ fr) q scope f (.ref c') cl A outer s (unc cs H)) [] σ' H' s' → RelV v u → Q v (rcl cs H H') → CE outer P w H s Q u s' := fun {σ' H' v u} J rv z => by
    have un : Un (frs outer) [] (unc cs H) H' s.heap s'.heap := J.base
    have nocs : ∀ b, H b = none → b ∉ cs := fun b e hb' => by
      obtain ⟨u, z⟩ := C b hb'
      rw [e] at z
      cases z
    have h0 : ∀ b, H b = none → unc cs H b = none := fun b e => by rw [unc_out (nocs b e)]; exact e
    have csn : ∀ b ∈ cs, H' b = none := fun b hb' => by
      obtain ⟨u, o, e, _⟩ := cellH b hb'
      exact un.free b o e (unc_in hb') (noA b)
    refine ⟨v, rcl cs H H', J.os, J.bare, ⟨fun b o e n hb' he => un.keep b o e (h0 b n) hb' he, fun b o e n hb' he => un.slot b o e (h0 b n) hb' he, fun b o e n he => ?_, un.there, fun b xs e => ?_, fun b o u' e => ?_, fun b qs e => ?_⟩, fun b o e => ?_, rv, z⟩
    · rw [rcl_out (nocs b n)]
      exact un.free b o e (h0 b n) he
    · have hn := C.out e (by intro _ z; cases z)
      rw [rcl_out hn]
      exact un.tups b xs (by rw [unc_out hn]; exact e)
    · have hn := C.out e (by intro _ z; cases z)
      rw [rcl_out hn]
      exact un.frzs b o u' (by rw [unc_out hn]; exact e)
    · have hn := C.out e (by intro _ z; cases z)
      rw [rcl_out hn]
      exact un.tbls b qs (by rw [unc_out hn]; exact e)
    · by_cases hb' : b ∈ cs
      · rw [rcl_in hb'] at e
        obtain ⟨u', z'⟩ := C b hb'
        rw [z'] at e
        cases e
        obtain ⟨zz, _, _⟩ := e0.hok b _ z'
        obtain ⟨oo, ee, dd⟩ := zz
        have nf : b ∉ frs outer := fun hm => by
          rw [e0.frf b hm] at z'
          cases z'
        exact cellO_ok ⟨oo, un.keep b oo ee (unc_in hb') nf (noA b), dd⟩
      · rw [rcl_out hb'] at e
        have up : ∀ c u', H' c = some u' → rcl cs H H' c = some u' := fun c u' z => by
          rw [rcl_out (fun h => by rw [csn c h] at z; cases z)]
          exact z
        exact (J.hok b o e).stay (fun _ _ _ q => q) (fun c z => up c _ z) fun c xs z => up c _ z
  cases fl with
  | ret u =>
    obtain ⟨v, σ', H', J, rv, z⟩ := hs
    exact fin J rv z
  | next =>
    obtain ⟨σ', H', J, z⟩ := hs
    exact fin (v := V.non) (u := Value.none) J rfl z
  | brk =>
    obtain ⟨_, _, _, z⟩ := hs
    exact False.elim z
  | cont =>
    obtain ⟨_, _, _, z⟩ := hs
    exact False.elim z
end L2

set_option maxHeartbeats 4000000
/-! ### def f(..): .. within a def; its cells at the end of that def; a function held by a name, called -/
namespace L2
open PySem PySem.Spec PyProof.Rows PySem.W
def tDef (T : Addr) (pos : Pos) (q : Str) (i : Nat) (mk : Addr → Value → Value → Obj) : TS := fun D σ H => Tab H T pos q ∧ ∀ f c' ctv doc H', KeepT T H H' → H f = none → Tab H' T pos q → H' c' = some (codeO c' q) → H' f = some (funO f (mk c' ctv doc)) → D.nx (σ.set i (some (.ref f))) H'
section
variable {X : Cx}
theorem ps_def {name : Str} {params : Arguments} {body : List Stmt} {scope : Scope} {pos : Pos} {c T : Addr} {clos : List (Str × Addr)} {q : Str} {i : Nat} (hcode : X.env.code = .ref c) (hc : PySem.W.codeHdIn X.K c T = true) (hbm : BmAt X.base X.mg)
    (hd0 : params.defaults = []) (hk0 : params.kw_defaults = []) (ha : annTrees params none X.env = []) (hcl : closureFor scope X.env = pure clos) (hq : qualnameIn X.env name name = q) (hN : X.N.Nodup) (hi : X.N[i]? = some name) (hx : Loc X.env.scope name)
    (hf : X.fn name = true ∨ X.env.scope.names.lookup name = some .local := by first | exact .inl rfl | exact .inr rfl | assumption) :
    PS X (.FunctionDef name params body [] none [] scope none name pos) (tDef T pos q i fun c' ctv doc => fnMade name q params body scope clos doc ((X.mg "__name__").getD .none) c' ctv) := by
  intro pins s σ H D I h
  obtain ⟨⟨ps, hT, ht, hcase⟩, h⟩ := h
  subst hq
  have hg : s.heap.Ns mainGlobals X.mg := I.ok.mod.glob.keeps I.bk
  have hTs : s.heap.get? T = some (PySem.W.tabObj ps) := I.hok T _ hT
  have C : PySem.W.CodeHd s.heap c T := PySem.W.codeHd_of_K I.kIn hc
  have hgT : mainGlobals ≠ T := fun z => by
    obtain ⟨o, es, ep, e, hd, _⟩ := hg
    rw [z, hTs] at e; cases e; cases hd
  have hb : s.heap.BuiltinsAt X.mg T := by
    obtain ⟨bm, ob, b1, b2, b3, b4, b5, b6⟩ := hbm
    have b3' := I.bk _ _ b3
    refine ⟨bm, ob, b1, b2, fun z => ?_, fun z => ?_, b3', b4, b5, b6⟩
    · obtain ⟨o, es, ep, e, hd, _⟩ := hg
      rw [z, e] at b3'; cases b3'
      rw [hd] at b6; cases b6
    · rw [z, hTs] at b3'; cases b3'
      cases b4
  have fin : ∀ (f c' : Addr) (ctv doc : Value) (s' : Shared) (H' : Hp), Inv X pins σ H' s' → KeepT T H H' → H f = none → Tab H' T pos (qualnameIn X.env name name) → H' c' = some (codeO c' (qualnameIn X.env name name)) → H' f = some (funO f (fnMade name (qualnameIn X.env name name) params body scope clos doc ((X.mg "__name__").getD .none) c' ctv)) →
      wpAny (model X.prog X.w) X.A (storeName X.env name (.ref f)) (fun _ s'' => SP X pins D .next s'') X.xe s' := fun f c' ctv doc s' H' J k nf tb e1 e2 =>
    store_ok J hN hi hx (v := .ref f) rfl (fun s'' J' => ⟨_, H', J', h f c' ctv doc H' k nf tb e1 e2⟩) hf
  refine nestDef_K hd0 hk0 ha ?_
  rcases hcase with hnf | ⟨c', hf', hC⟩
  · refine makeFunction_K hcl I.ok.glob hg hcode C hTs ht hnf hgT hb fun c' ctv doc h' tk hx' hge hlt hrec htb => ?_
    have nc : H c' = none := I.hok.fresh hge
    have nf : H h'.objs.size = none := I.hok.fresh (Nat.le_trans hge (Nat.le_of_lt hlt))
    have Tc : T ≠ c' := ne_of_none hT nc
    have Tf : T ≠ h'.objs.size := ne_of_none hT nf
    have ne : c' ≠ h'.objs.size := Nat.ne_of_lt hlt
    have J := I.madeNew (tk := tk) (o := fnMade name (qualnameIn X.env name name) params body scope clos doc ((X.mg "__name__").getD .none) c' ctv) hT hx' hge hlt hrec htb rfl
    refine fin h'.objs.size c' ctv doc _ _ J (fun b o hb e => ?_) nf ⟨_, by rw [upd_ne Tf, upd_ne Tc, upd_same], ?_, .inr ⟨c', ?_, ?_⟩⟩ ?_ upd_same
    · rw [upd_ne (ne_of_none e nf), upd_ne (ne_of_none e nc), upd_ne hb]
      exact e
    · rw [Array.toList_append]
      exact TriplesOk_snoc _ _ _ _ ht
    · rw [Array.toList_append]
      exact codeAmong_snoc _ ht hnf
    · rw [upd_ne ne, upd_same]
    · rw [upd_ne ne, upd_same]
  · refine makeFunction_hit hcl I.ok.glob hg hcode C hTs ht hf' hb fun ctv doc h' tk hk hsz => ?_
    have nf : H h'.objs.size = none := I.hok.fresh hsz
    refine fin h'.objs.size c' ctv doc _ _ (I.laid (a := h'.objs.size) (o := funO h'.objs.size (fnMade name (qualnameIn X.env name name) params body scope clos doc ((X.mg "__name__").getD .none) c' ctv)) (t' := tk) (fun b u e => Heap.get?_push_of_some _ (hk b u e)) hsz (funO_ok (Heap.get?_push_size _ rfl))) (fun b o hb e => ?_) nf ⟨ps, ?_, ht, .inr ⟨c', hf', ?_⟩⟩ ?_ upd_same
    · rw [upd_ne (ne_of_none e nf)]
      exact e
    · rw [upd_ne (ne_of_none hT nf)]
      exact hT
    · rw [upd_ne (ne_of_none hC nf)]
      exact hC
    · rw [upd_ne (ne_of_none hC nf)]
      exact hC
end
/-! the cells at the end -/
def addC : List (Addr × Value) → Hp → Hp
  | [], H => H
  | p :: r, H => upd (addC r H) p.1 (cellO p.1 p.2)
theorem addC_out : ∀ {l : List (Addr × Value)} {H : Hp} {b : Addr}, b ∉ l.map (·.1) → addC l H b = H b
  | [], _, _, _ => rfl
  | p :: r, H, b, h => by
    have h' : b ≠ p.1 ∧ b ∉ r.map (·.1) := ⟨fun z => h (by rw [z]; exact List.mem_cons_self ..), fun z => h (List.mem_cons_of_mem _ z)⟩
    show upd (addC r H) p.1 _ b = _
    rw [upd_ne h'.1, addC_out h'.2]
theorem addC_at : ∀ {l : List (Addr × Value)} {H : Hp} {p : Addr × Value}, (l.map (·.1)).Nodup → p ∈ l → addC l H p.1 = some (cellO p.1 p.2)
  | q :: r, H, p, nd, h => by
    obtain ⟨n1, n2⟩ := List.nodup_cons.mp (show (q.1 :: r.map (·.1)).Nodup from nd)
    show upd (addC r H) q.1 _ p.1 = _
    rcases List.mem_cons.mp h with rfl | h
    · rw [upd_same]
    · have ne : p.1 ≠ q.1 := fun z => n1 (z ▸ List.mem_map_of_mem (f := (·.1)) h)
      rw [upd_ne ne, addC_at n2 h]
theorem HOk.add {P : Program} {w : World} {H : Hp} {h : Heap} {c : Addr} {o : HO} (x : HOk P w H h) (n : H c = none) (new : ObjOk P w (upd H c o) h c o) : HOk P w (upd H c o) h := fun b u e => by
  by_cases hb : b = c
  · subst hb
    rw [upd_same] at e
    cases e
    exact new
  · rw [upd_ne hb] at e
    exact (x b u e).stay (fun _ _ _ q => q) (fun c' z => by rw [upd_ne (ne_of_none z n)]; exact z) fun c' xs z => by rw [upd_ne (ne_of_none z n)]; exact z
theorem HOk.addC {P : Program} {w : World} {h : Heap} : ∀ {l : List (Addr × Value)} {H : Hp}, HOk P w H h → (l.map (·.1)).Nodup → (∀ p ∈ l, H p.1 = none ∧ h.IsCell p.1 (some p.2)) → HOk P w (addC l H) h
  | [], _, x, _, _ => x
  | p :: r, H, x, nd, hl => by
    obtain ⟨n1, n2⟩ := List.nodup_cons.mp (show (p.1 :: r.map (·.1)).Nodup from nd)
    obtain ⟨h1, h2⟩ := hl p (List.mem_cons_self ..)
    exact HOk.add (HOk.addC x n2 fun q hq => hl q (List.mem_cons_of_mem _ hq)) (by rw [addC_out n1]; exact h1) (cellO_ok h2)
section
variable {P : Program} {w : World} {K : PySem.W.Frag} {mg : Str → Option Value} {base : Heap} {x qual : Str} {st : Stmt} {f c : Addr} {fd : FuncData}
/-- a def of two rows, the second a return; some of its cells live on -/
theorem FunC.okC {N ps : List Str} {k : Nat} {sp : Sp} (F : FunC K x qual st f fd c) (S : FnScope N ps (defScope st)) (len : ∀ vs H Q E, sp vs H Q E → vs.length = ps.length)
    (hbody : ∀ (A : Around) (outer : List Env) (s : Shared) (H : Hp) (vs : List V) (Q : VK) (E : XK), Room k (A.deeper (envOfC qual (defScope st) s.heap.objs.size f (.ref c))) → sp vs H Q E →
      ∃ (s1 : Stmt) (e : Expr) (pos : Pos) (t : TS) (te : TE), defBody st = [s1, .Return (some e) pos] ∧ PS (cxOf CX0 P w K mg base N qual (defScope st) f (.ref c) A outer s H E).nox s1 t ∧ PE (cxOf CX0 P w K mg base N qual (defScope st) f (.ref c) A outer s H E).nox e te ∧
        t { nx := fun σ1 H1 => te σ1 H1 fun v H2 => ∃ l : List (Addr × Value), (l.map (·.1)).Nodup ∧ (∀ p ∈ l, ∃ (y : Str) (i : Nat) (a : Addr), (cellsFrom (s.heap.objs.size + 1) (defScope st).names []).lookup y = some p.1 ∧ (defScope st).names.lookup y = some .cell ∧ N[i]? = some y ∧ σ1[i]? = some (some (.ref a)) ∧ p.2 = .ref a) ∧
            ((∀ p ∈ l, H2 p.1 = none) → Q v (addC l H2)), rt := fun _ _ => False } (start N vs) H) : FnOk P w K mg base CX0 (k + 1) f fd ps sp := by
  obtain ⟨oc, od, kV, doc, pm, an, ct, osl, rfl, lk, hcd⟩ := F.ex
  refine ⟨len, fun A outer s H args us vs Q E hr e0 hb r hsp => ?_⟩
  have hl := len _ _ _ _ hsp
  have KX : K.In s.heap := e0.mod.kin.keeps fun b o e => (e0.bs b o e).1
  have lim : s.heap.NoLimit := e0.mod.nolimit.keeps fun b o e => (e0.bs b o e).1
  have hkind : ∀ y ∈ ps.zip us, (defScope st).names.lookup y.1 = some .local ∨ ((defScope st).names.lookup y.1 = some .cell ∧ ((cellsFrom (s.heap.objs.size + 1) (defScope st).names []).lookup y.1).isSome = true) := fun ⟨n, v⟩ hy => by
    rcases S.par n (List.of_mem_zip hy).1 with q | q
    · exact .inl q
    · exact .inr ⟨q, PySem.W.cellsFrom_some _ _ _ (.inl q)⟩
  refine codeAny_call_function hr.depth (KX _ _ lk) rfl S.co S.gen rfl (PySem.W.codeRec_of KX hcd) (hb _ _ _ _ ?_)
  refine wpAny_newFunctionEnv_cells S.kind hkind fun env he s1 z => ?_
  subst he
  refine ⟨lim.keeps z.toInCall.keep, codeAny_func ?_⟩
  obtain ⟨st1, e, pos, t, te, eb, h1, h2, hq⟩ := hbody A outer s H vs Q E (hr.deeper _) hsp
  have I : Inv (cxOf CX0 P w K mg base N qual (defScope st) f (.ref c) A outer s H E) [] (start N vs) H s1 := inv_start S hr.hd e0 hl r z
  have I0 : Inv (cxOf CX0 P w K mg base N qual (defScope st) f (.ref c) A outer s H E).nox [] (start N vs) H s1 := ⟨⟨I.ok.mod, I.ok.kind, I.ok.glob, I.ok.blt, I.ok.above, I.ok.inj, I.ok.has, I.ok.cab, I.ok.hd, I.ok.frames, I.ok.stk, I.ok.exf, I.ok.bs, I.ok.bsz, I.ok.noex, I.ok.exfs, I.ok.funs, I.ok.frf⟩, I.os, I.bare, I.base, I.loc, I.cell, I.free, I.freeC, I.pin, I.hok, I.len⟩
  rw [eb]
  have below : ∀ b o, s.heap.get? b = some o → b < s.heap.objs.size := fun b o e => Heap.lt_size e
  refine wpAny_mono (wpAny_execs_cons (wpAny_mono (h1 [] s1 _ _ _ I0 hq) (fun fl s2 hs => ?_) fun _ _ y => y)) (fun fl s' hs => hs) fun _ _ y => False.elim y
  cases fl with
  | ret u => obtain ⟨_, _, _, _, _, y⟩ := hs; exact y.elim
  | brk => obtain ⟨_, _, _, y⟩ := hs; exact y.elim
  | cont => obtain ⟨_, _, _, y⟩ := hs; exact y.elim
  | next =>
    obtain ⟨σ1, H1, I1, q1⟩ := hs
    refine wpAny_execs_cons (wpAny_Return_some (wpAny_mono (h2 [] s2 σ1 H1 _ I1 q1) (fun u s3 hh => ?_) fun _ _ y => y.elim))
    obtain ⟨v, H2, I2, rv, l, nd, hl', hQ⟩ := hh
    have free : ∀ p ∈ l, H2 p.1 = none := fun p hp => by
      obtain ⟨y, i, a, e1, _⟩ := hl' p hp
      exact I2.freeC y p.1 e1
    have new : ∀ p ∈ l, s.heap.objs.size ≤ p.1 := fun p hp => by
      obtain ⟨y, i, a, e1, _⟩ := hl' p hp
      exact I.ok.cab y p.1 rfl e1
    have cells : ∀ p ∈ l, H2 p.1 = none ∧ s3.heap.IsCell p.1 (some p.2) := fun p hp => by
      obtain ⟨y, i, a, e1, e2, e3, e4, e5⟩ := hl' p hp
      refine ⟨free p hp, ?_⟩
      obtain ⟨m, _, hm⟩ := I2.loc
      obtain ⟨u', r', look⟩ := hm i y (.ref a) e3 e4 (.inr (.inl e2))
      have r' : u' = .ref a := r'
      subst r'
      rcases look with ⟨k1, _⟩ | ⟨_, c', k2, k3⟩
      · have k1 : (defScope st).names.lookup y = some .local := k1
        rw [e2] at k1
        cases k1
      · have k2 : (cellsFrom (s.heap.objs.size + 1) (defScope st).names []).lookup y = some c' := k2
        rw [e1] at k2
        cases k2
        rw [e5]
        exact k3
    have un : Un (frs outer) [] H H2 s.heap s3.heap := I2.base
    have nl : ∀ b, b ∈ l.map (·.1) → H2 b = none ∧ s.heap.objs.size ≤ b := fun b hb => by
      obtain ⟨p, hp, rfl⟩ := List.mem_map.mp hb
      exact ⟨free p hp, new p hp⟩
    have keepS : ∀ b o, H2 b = some o → addC l H2 b = some o := fun b o e => by
      rw [addC_out fun hb => by rw [(nl b hb).1] at e; cases e]
      exact e
    refine ⟨v, addC l H2, I2.os, I2.bare, ⟨un.keep, un.slot, fun b o e n he => ?_, un.there, fun b xs e => keepS _ _ (un.tups b xs e), fun b o u' e => keepS _ _ (un.frzs b o u' e), fun b qs e => ?_⟩, HOk.addC I2.hok nd cells, rv, hQ free⟩
    · rw [addC_out fun hb => absurd (below b o e) (Nat.not_lt.mpr (nl b hb).2)]
      exact un.free b o e n he
    · obtain ⟨more, z⟩ := un.tbls b qs e
      exact ⟨more, keepS _ _ z⟩
end
/-! a function held by a name -/
def FnH (H : Hp) (f : Addr) : Prop := ∃ oc od fd sl, H f = some (funO f ⟨oc, od, .func fd, sl⟩)
/-- what its call does -/
def RunV (P : Program) (w : World) (K : PySem.W.Frag) (mg : Str → Option Value) (base : Heap) (k : Nat) (f : Addr) (vs : List V) (H : Hp) (Q : VK) : Prop :=
  FnH H f ∧ ∀ (A : Around) (outer : List Env) (s : Shared) (us : List Value), Room k A → Env0 P w K mg base A outer s H → Vals vs us → codeAny (model P w) A (.call (.ref f) ⟨us, []⟩) (CR CX0 outer P w H s Q E0) s
def tCallV (R : Addr → List V → Hp → VK → Prop) (i : Nat) (t : TA) : TE := fun σ H Q => ∃ f, σ[i]? = some (some (.ref f)) ∧ FnH H f ∧ t σ H fun vs H1 => R f vs H1 Q
theorem FnH.at {P : Program} {w : World} {H : Hp} {h : Heap} {f : Addr} (x : FnH H f) (ok : HOk P w H h) : FnAt f h := by
  obtain ⟨oc, od, fd, sl, e⟩ := x
  obtain ⟨z, _, _⟩ := ok f _ e
  exact ⟨oc, od, fd, sl, z⟩
section
variable {X : Cx}
theorem pe_callV {k i : Nat} {x : Str} {p pos : Pos} {e : Expr} {es : List Expr} {t : TA} (hr : Room k X.A) (ha : PA X (e :: es) t) (hN : X.N[i]? = some x := by rfl) (hv : Vis X.env.scope x := by first | exact Or.inl rfl | exact Or.inr (Or.inl rfl) | exact Or.inr (Or.inr rfl)) (hd : (x == ("__debug__" : Str)) = false := by decide)
    (hcd : (x == ("__classdict__" : Str)) = false := by decide) (he : starEach (e :: es) X.env = (false, eval e X.env) :: starEach es X.env := by rfl) (hpl : (backTo pos (starEach es X.env)).any (·.1) = false := by rfl) :
    PE X (.Call (.Name x p) (e :: es) [] pos) (tCallV (RunV X.prog X.w X.K X.mg X.base k) i t) := by
  intro pins s σ H Q I h
  obtain ⟨f, ef, hf, h⟩ := h
  refine wpAny_Call_Name_kw (thn (pe_var (i := i) hN hv hd hcd pins s σ H (fun v H' => v = .ref f ∧ H' = H) I ⟨.ref f, ef, rfl, rfl⟩) fun u s1 hu => ?_)
  obtain ⟨v, H', I1, rv, rfl, rfl⟩ := hu
  cases rv
  refine callWith_F (hf.at I1.hok) (thn (ha pos pins s1 σ H' _ I1 h) fun us s2 ⟨vs, H2, I2, r2, q2⟩ => ?_) he hpl
  obtain ⟨f2, run⟩ := q2
  refine ⟨f2.at I2.hok, wpAny_call (codeAny_mono (run X.A X.stack s2 us hr I2.env0 r2) fun r s' hq => ?_)⟩
  cases r with
  | error e => exact hq.elim
  | ok fl =>
    cases fl with
    | ret u => exact I2.after hq
    | next => exact False.elim hq
    | brk => exact False.elim hq
    | cont => exact False.elim hq
end
end L2

set_option maxHeartbeats 4000000
namespace Lv
open PySem L2 PySem.W
/-! ### the text by places -/
def top (i : Nat) : Stmt := PySem.Challenge.pw_lentwork_k41_stores.main.body.getD i (.Pass ⟨0, 0, 0, 0⟩)
def inClass (c : Stmt) (i : Nat) : Stmt := match c with
  | .ClassDef _ _ _ b .. => b.getD i (.Pass ⟨0, 0, 0, 0⟩)
  | _ => .Pass ⟨0, 0, 0, 0⟩
abbrev sInit : Stmt := inClass (top 7) 0
abbrev sWrite : Stmt := inClass (top 7) 1
abbrev sWhole : Stmt := inClass (top 7) 2
abbrev sAsked : Stmt := inClass (top 7) 3
abbrev sCell : Stmt := top 9
abbrev sTape : Stmt := top 10
abbrev sTake : Stmt := top 11
abbrev sText : Stmt := top 12
abbrev sFall : Stmt := top 13
abbrev sWrote : Stmt := top 14
abbrev sMade : Stmt := top 15
abbrev sGoes : Stmt := top 16
abbrev sLaw : Stmt := top 17
/-- the built-in names that the text does not bind -/
structure Gb (mg : Str → Option Value) : Prop where
  isi : mg "isinstance" = none
  int : mg "int" = none
  len : mg "len" = none
  range : mg "range" = none
  list : mg "list" = none
  max : mg "max" = none
theorem boot_isi : bootBuiltins "isinstance" = some (.builtin "isinstance") := by decide +kernel
theorem boot_i : bootBuiltins "int" = some (.type "int") := by decide +kernel
theorem boot_l : bootBuiltins "list" = some (.type "list") := by decide +kernel
theorem boot_mx : bootBuiltins "max" = some (.builtin "max") := by decide +kernel
/-! ### the tape of draws -/
def Wl (H : Hp) (w : Addr) : Prop := ∃ a b c : Int, H w = some (.lst [.int a, .int b, .int c])
/-- nothing changes but the tape -/
structure Kp (w : Addr) (H H' : Hp) : Prop where
  at_ : ∀ x o, x ≠ w → H x = some o → H' x = some o
  wl : Wl H' w
theorem Kp.trans {w : Addr} {H H1 H2 : Hp} (a : Kp w H H1) (b : Kp w H1 H2) : Kp w H H2 := ⟨fun x o n e => b.at_ x o n (a.at_ x o n e), b.wl⟩
theorem Wl.ne {w p : Addr} {H : Hp} (h : Wl H w) (n : H p = none) : w ≠ p := by
  obtain ⟨a, b, c, e⟩ := h
  exact ne_of_none e n
theorem Wl.same {w : Addr} {H H' : Hp} (h : Wl H w) (e : Same H H') : Wl H' w := by
  obtain ⟨a, b, c, z⟩ := h
  exact ⟨a, b, c, e _ _ z⟩
theorem Kp.same {w : Addr} {H H1 H2 : Hp} (a : Kp w H H1) (e : Same H1 H2) : Kp w H H2 := ⟨fun x o n z => e _ _ (a.at_ x o n z), a.wl.same e⟩
theorem Kp.fresh {w p : Addr} {H H' : Hp} (k : Kp w H H') (n : p ≠ w) (e : H' p = none) : H p = none := by
  cases z : H p with
  | none => rfl
  | some o => rw [k.at_ p o n z] at e; cases e
theorem Kp.upd {w p : Addr} {H H' : Hp} {o : HO} (k : Kp w H H') (n : p ≠ w) (e : H p = none) : Kp w H (upd H' p o) := by
  refine ⟨fun x u nx z => ?_, ?_⟩
  · rw [upd_ne (ne_of_none z e)]
    exact k.at_ x u nx z
  · obtain ⟨a, b, c, z⟩ := k.wl
    exact ⟨a, b, c, by rw [upd_ne n.symm]; exact z⟩
def spCell (K : Frag) : Sp := fun vs H Q _ => ∃ (a : Addr) (ns : List Int) (k : Nat), vs = [.ref a, .int k] ∧ SqL K H a (ns.map V.int) ∧ ns.length ≤ 63 ∧ ∀ c, Q (.int c) H
def spTape : Sp := fun vs H Q _ => ∃ (c : Int), vs = [.int c] ∧ ∀ w H', Same H H' → H w = none → Wl H' w → Q (.ref w) H'
def spTake : Sp := fun vs H Q _ => ∃ (w : Addr) (m : Int), vs = [.ref w, .int m] ∧ Wl H w ∧ 0 < m ∧ m < 2 ^ 64 ∧ ∀ r H', Kp w H H' → 0 ≤ r → r < m → Q (.int r) H'
section
variable {P : Program} {w : World} {K : PySem.W.Frag} {mg : Str → Option Value} {base : Heap}
theorem scCell : FnScope ["_law_script", "_law_at"] ["_law_script", "_law_at"] (defScope sCell) := ⟨rfl, rfl, rfl, by decide +kernel, rfl, by decide +kernel, by decide +kernel⟩
theorem ok_cell {f : Addr} {fd : FuncData} (F : Fun K "_law_cell_at" "_law_cell_at" sCell f fd) (G : Gb mg) : FnOk P w K mg base CX0 1 f fd ["_law_script", "_law_at"] (spCell K) := by
  refine F.ok scCell (fun vs H Q E h => ?_) (fun cdv A outer s H vs Q E hr h => ?_)
  · obtain ⟨a, ns, k, rfl, _⟩ := h
    rfl
  · obtain ⟨a, ns, k, rfl, hS, hl, q⟩ := h
    refine ⟨_, pss_cons (ps_if (pt_cmpR op_lt (pv 1) (pe_callB call_len_seq (by rfl) G.len PySem.boot_len (pa_cons (pv 0) pa_nil)) (nomark _)) (pss_one (ps_ret (pe_ix ix_list (pv 0) (pv 1) (fun _ _ => rfl)))) pss_nil) (pss_one (ps_ret pe_int)), ?_⟩
    refine ⟨_, rfl, _, rfl, a, _, rfl, .inl hS, _, _, rfl, rfl, _, rfl, ?_⟩
    refine ite2 (fun hc => ?_) (fun hc => ?_)
    · have := of_decide_eq_true hc
      rw [List.length_map] at this
      have hk : k < ns.length := by omega
      exact ⟨_, rfl, _, rfl, a, _, _, _, rfl, rfl, hS, atI_nat (j := k) (v := V.int ns[k]) (by rw [List.getElem?_map, List.getElem?_eq_getElem hk]; rfl), q _⟩
    · exact q 0
theorem scTape : FnScope ["_law_cell"] ["_law_cell"] (defScope sTape) := ⟨rfl, rfl, rfl, by decide +kernel, rfl, by decide +kernel, by decide +kernel⟩
theorem ok_tape {f : Addr} {fd : FuncData} (F : Fun K "_law_tape" "_law_tape" sTape f fd) (G : Gb mg) : FnOk P w K mg base CX0 1 f fd ["_law_cell"] spTape := by
  refine F.ok scTape (fun vs H Q E h => ?_) (fun cdv A outer s H vs Q E hr h => ?_)
  · obtain ⟨c, rfl, _⟩ := h
    rfl
  · obtain ⟨c, rfl, q⟩ := h
    refine ⟨_, pss_one (ps_ret (pe_lst (pa_cons (pe_callB (call_max2 rfl) (by rfl) G.max boot_mx (pa_cons pe_int (pa_cons (pe_op op_sub (pv 0) (pe_op op_pow pe_int pe_int)) pa_nil))) (pa_cons (pe_op op_mod (pv 0) pe_int) (pa_cons pe_int pa_nil))))), ?_⟩
    have pw18 : CPow 10 18 := ⟨by decide, by decide, by decide⟩
    refine ⟨_, rfl, _, _, rfl, rfl, pw18, _, _, rfl, rfl, _, _, rfl, _, rfl, _, _, rfl, rfl, (by show (0 : Int) < 2147483647; decide), by show 3 ≤ sizeLine; decide, fun l hl => ?_⟩
    exact q l _ (same_upd hl) hl ⟨_, _, _, upd_same⟩
theorem scTake : FnScope ["_law_tape_here", "_law_many", "_law_found", "_law_number"] ["_law_tape_here", "_law_many"] (defScope sTake) := ⟨rfl, rfl, rfl, by decide +kernel, rfl, by decide +kernel, by decide +kernel⟩
theorem ok_take {f : Addr} {fd : FuncData} (F : Fun K "_law_take" "_law_take" sTake f fd) : FnOk P w K mg base CX0 1 f fd ["_law_tape_here", "_law_many"] spTake := by
  refine F.ok scTake (fun vs H Q E h => ?_) (fun cdv A outer s H vs Q E hr h => ?_)
  · obtain ⟨w', m, rfl, _⟩ := h
    rfl
  · obtain ⟨w', m, rfl, ⟨a, b, c, hw⟩, m0, m1, q⟩ := h
    refine ⟨_, pss_cons (ps_if (pt_cmpR op_gt (pe_ix ix_list (pv 0) pe_int (fun _ _ => rfl)) pe_int (nomark _))
        (pss_cons (ps_set (i := 2) scTake.nd rfl (Or.inl rfl) (pe_op op_mod (pe_ix ix_list (pv 0) pe_int (fun _ _ => rfl)) (pv 1)))
        (pss_cons (ps_asg (pe_op op_fdivB (pe_ix ix_list (pv 0) pe_int (fun _ _ => rfl)) (pv 1)) (pg_sub (pv 0) pe_int set_list))
        (pss_one (ps_ret (pv 2))))) pss_nil)
      (pss_cons (ps_asg (pe_op op_add (pe_ix ix_list (pv 0) pe_int (fun _ _ => rfl)) pe_int) (pg_sub (pv 0) pe_int set_list))
      (pss_cons (ps_set (i := 3) scTake.nd rfl (Or.inl rfl) (pe_op op_mod (pe_op op_mul (pe_op op_add (pe_op op_add (pe_ix ix_list (pv 0) pe_int (fun _ _ => rfl)) (pe_op op_mul pe_int (pe_ix ix_list (pv 0) pe_int (fun _ _ => rfl)))) pe_int) pe_int) pe_int))
      (pss_cons (ps_set (i := 3) scTake.nd rfl (Or.inl rfl) (pe_op op_mod (pe_op op_mul (pv 3) (pe_op op_add (pe_op op_fdiv (pv 3) pe_int) pe_int)) pe_int))
      (pss_cons (ps_set (i := 3) scTake.nd rfl (Or.inl rfl) (pe_op op_mod (pe_op op_mul (pv 3) (pe_op op_add (pe_op op_fdiv (pv 3) pe_int) pe_int)) pe_int))
      (pss_one (ps_ret (pe_op op_mod (pe_op op_fdiv (pv 3) pe_int) (pv 1)))))))), ?_⟩
    have keep : ∀ (o : HO) (x : Addr) (u : HO), x ≠ w' → H x = some u → (upd H w' o) x = some u := fun o x u n e => by
      rw [upd_ne n]
      exact e
    have rm : ∀ z : Int, 0 ≤ z % m ∧ z % m < m := fun z => ⟨Int.emod_nonneg _ (by omega), Int.emod_lt_of_pos _ m0⟩
    refine ⟨_, rfl, w', _, _, _, rfl, rfl, SqL.of hw, atI_nat (j := 0) rfl, _, _, rfl, rfl, _, rfl, ?_⟩
    refine ite2 (fun hc => ?_) (fun hc => ?_)
    · refine ⟨_, rfl, w', _, _, _, rfl, rfl, SqL.of hw, atI_nat (j := 0) rfl, _, rfl, _, _, rfl, rfl, m0, ?_⟩
      refine ⟨_, rfl, w', _, _, _, rfl, rfl, SqL.of hw, atI_nat (j := 0) rfl, _, rfl, _, _, rfl, rfl, ⟨m0, m1⟩, ?_⟩
      refine ⟨_, rfl, w', _, _, _, rfl, rfl, hw, rfl, ?_⟩
      exact ⟨_, rfl, q _ _ ⟨keep _, ⟨_, _, _, upd_same⟩⟩ (rm _).1 (rm _).2⟩
    · refine ⟨_, rfl, w', _, _, _, rfl, rfl, SqL.of hw, atI_nat (j := 2) rfl, _, _, rfl, rfl, ?_⟩
      refine ⟨_, rfl, w', _, _, 2, rfl, rfl, hw, rfl, ?_⟩
      have hw2 : (upd H w' (.lst ([V.int a, .int b, .int c].set 2 (.int (c + 1))))) w' = some (.lst [.int a, .int b, .int (c + 1)]) := upd_same
      have kp : Kp w' H (upd H w' (.lst ([V.int a, .int b, .int c].set 2 (.int (c + 1))))) := ⟨keep _, ⟨_, _, _, hw2⟩⟩
      refine ⟨_, rfl, w', _, _, _, rfl, rfl, SqL.of hw2, atI_nat (j := 1) rfl, _, rfl, w', _, _, _, rfl, rfl, SqL.of hw2, atI_nat (j := 2) rfl, _, _, rfl, rfl, .inl ⟨by decide, by decide⟩, _, _, rfl, rfl, _, _, rfl, rfl, _, _, rfl, rfl, .inr ⟨by decide, by decide⟩, _, _, rfl, rfl, (by show (0 : Int) < 2147483647; decide), ?_⟩
      have n1 : 0 ≤ (b + 7919 * (c + 1) + 1) * 48271 % 2147483647 ∧ (b + 7919 * (c + 1) + 1) * 48271 % 2147483647 < 2147483647 := by omega
      generalize (b + 7919 * (c + 1) + 1) * 48271 % 2147483647 = x1 at n1 ⊢
      refine ⟨_, rfl, _, rfl, _, _, rfl, rfl, ⟨by decide, by decide⟩, _, _, rfl, rfl, _, _, rfl, rfl, .inl ⟨by omega, by omega⟩, _, _, rfl, rfl, (by show (0 : Int) < 2147483647; decide), ?_⟩
      have n2 : 0 ≤ x1 * (x1 / 1009 + 69621) % 2147483647 ∧ x1 * (x1 / 1009 + 69621) % 2147483647 < 2147483647 := ⟨Int.emod_nonneg _ (by decide), Int.emod_lt_of_pos _ (by decide)⟩
      generalize x1 * (x1 / 1009 + 69621) % 2147483647 = x2 at n2 ⊢
      refine ⟨_, rfl, _, rfl, _, _, rfl, rfl, ⟨by decide, by decide⟩, _, _, rfl, rfl, _, _, rfl, rfl, .inl ⟨by omega, by omega⟩, _, _, rfl, rfl, (by show (0 : Int) < 2147483399; decide), ?_⟩
      refine ⟨_, rfl, _, _, rfl, rfl, ⟨by decide, by decide⟩, _, rfl, _, _, rfl, rfl, m0, ?_⟩
      exact q _ _ kp (rm _).1 (rm _).2
end
end Lv

set_option maxHeartbeats 4000000
namespace L2
open PySem PySem.Spec PyProof.Rows
theorem Takes.of {X : Cx} {NB : List Str} {n : Nat} {js : List Nat} {scope : Scope} {cl : List (Str × Addr)} (clo : closureFor scope X.env = pure cl) (hsub : ∀ p ∈ cl, X.env.cells.lookup p.1 = some p.2)
    (hhas : ∀ p ∈ (relabel scope X.env).names, (p.2 = .cell ∨ p.2 = .free) → (cl.lookup p.1).isSome = true) (len : NB.length = n + js.length) (nam : ∀ k j, js[k]? = some j → NB[n + k]? = X.N[j]?)
    (ck : ∀ x ∈ NB.drop n, ((relabel scope X.env).names.lookup x = some .cell ∨ (relabel scope X.env).names.lookup x = some .free) ∧ (X.env.kindOf x = some .cell ∨ X.env.kindOf x = some .free) ∧ (cl.lookup x).isSome = true) : Takes X NB n js scope cl :=
  ⟨clo, fun x c q => hsub (x, c) (PySem.mem_of_lookup q), fun x q => q.elim (fun z => hhas (x, _) (PySem.mem_of_lookup z) (.inl rfl)) fun z => hhas (x, _) (PySem.mem_of_lookup z) (.inr rfl), len, nam, fun x _ hx => ck x hx⟩
theorem all_nil {α : Type} {P : α → Prop} : ∀ x ∈ ([] : List α), P x := fun x hx => absurd hx (by simp)
theorem all_cons {α : Type} {P : α → Prop} {a : α} {l : List α} (h : P a) (t : ∀ x ∈ l, P x) : ∀ x ∈ a :: l, P x := fun x hx => by
  rcases List.mem_cons.mp hx with rfl | hx
  · exact h
  · exact t x hx
theorem gName_in {i : Nat} {v : V} {σ : St} {H : Hp} {Q : St → Hp → Prop} (h : Q (σ.set i (some v)) H) : gName i v σ H Q := h
theorem tYes_in {σ : St} {H : Hp} {Q : Bool → Hp → Prop} (h : Q true H) : tYes σ H Q := h
end L2
namespace Lv
open PySem L2 PySem.W
theorem join_len (z : Str) (ys : List Str) : (Txt.join z ys).length ≤ (ys.map fun y => y.length).sum + ys.length * z.length := by
  have e : Txt.join z ys = z.join ys := by
    exact StrLaws.glued_eq_join _ _
  rw [e]
  exact StrLaws.join_length_le _ _
theorem one_sum : ∀ (zs : List Str), (∀ z ∈ zs, z.length = 1) → (zs.map fun z => z.length).sum = zs.length
  | [], _ => rfl
  | z :: zs, h => by
    rw [List.map_cons, List.sum_cons, h z (by simp), one_sum zs fun y hy => h y (by simp [hy]), List.length_cons]
    omega
theorem cat_len (x y : Str) : (x ++ y).length = x.length + y.length := PySem.Str.length_append x y
theorem tx_iff {x : Str} : PyData.strOk x = true ↔ ∀ c ∈ x.cps.toList, c < 0x110000 := by
  unfold PyData.strOk
  rw [← Array.all_toList, List.all_eq_true]
  exact ⟨fun h c hc => of_decide_eq_true (h c hc), fun h c hc => decide_eq_true (h c hc)⟩
theorem tx_cat {x y : Str} (hx : PyData.strOk x = true) (hy : PyData.strOk y = true) : PyData.strOk (x ++ y) = true := by
  rw [tx_iff] at *
  intro c hc
  have e : (x ++ y).cps.toList = x.cps.toList ++ y.cps.toList := by rw [Str.cps_append, Array.toList_append]
  rw [e] at hc
  exact (List.mem_append.mp hc).elim (hx c) (hy c)
theorem tx_cut {x : Str} (l u : Option Int) (hx : PyData.strOk x = true) : PyData.strOk (Txt.slice x l u) = true := by
  rw [tx_iff] at *
  intro c hc
  unfold Txt.slice at hc
  split at hc
  · exact hx c hc
  · rw [List.toList_toArray] at hc
    obtain ⟨i, _, e⟩ := List.mem_filterMap.mp hc
    exact hx c (Array.mem_toList_iff.mpr (Array.mem_of_getElem? e))
theorem tx_nil : PyData.strOk "" = true := by decide +kernel
theorem tx_join : ∀ (zs : List Str), (∀ z ∈ zs, PyData.strOk z = true) → PyData.strOk (Txt.join "" zs) = true := fun zs => by
  have e : Txt.join "" zs = Str.join Str.empty zs := StrLaws.glued_eq_join _ _
  rw [e]
  clear e
  induction zs with
  | nil => intro _; exact tx_nil
  | cons z t ih =>
    intro h
    cases t with
    | nil => exact h z (List.mem_cons_self ..)
    | cons y r =>
      have e : Str.join Str.empty (z :: y :: r) = z ++ Str.empty ++ Str.join Str.empty (y :: r) := by
        show Str.join Str.empty (z :: y :: r) = _
        rfl
      rw [e]
      exact tx_cat (tx_cat (h z (List.mem_cons_self ..)) tx_nil) (ih fun q hq => h q (List.mem_cons_of_mem _ hq))
def spText : Sp := fun vs H Q _ => ∃ (w : Addr), vs = [.ref w] ∧ Wl H w ∧ ∀ x H', Kp w H H' → x.length ≤ 31 → PyData.strOk x = true → Q (.str x) H'
theorem ndTx : (["_law_k", "_law_signs", "_law_tape_here"] : List Str).Nodup := by decide +kernel
section
variable {P : Program} {w : World} {K : PySem.W.Frag} {mg : Str → Option Value} {base : Heap}
theorem scText : FnScope ["_law_tape_here", "_law_signs", "_law_some"] ["_law_tape_here"] (defScope sText) := ⟨rfl, rfl, rfl, by decide +kernel, rfl, by decide +kernel, by decide +kernel⟩
theorem ok_text {f fD : Addr} {fd fdD : FuncData} (F : Fun K "_law_text" "_law_text" sText f fd) (G : Gb mg) (GD : FnOk P w K mg base CX0 1 fD fdD ["_law_tape_here", "_law_many"] spTake) (kD : keepIn K (.ref fD) = true) (bD : Binds K fdD ["_law_tape_here", "_law_many"] []) (mD : mg "_law_take" = some (.ref fD)) :
    FnOk P w K mg base CX0 2 f fd ["_law_tape_here"] spText := by
  refine F.ok scText (fun vs H Q E h => ?_) (fun cdv A outer s H vs Q E hr h => ?_)
  · obtain ⟨w', rfl, _⟩ := h
    rfl
  · obtain ⟨w', rfl, hw, q⟩ := h
    refine ⟨_, pss_cons (ps_set (i := 1) scText.nd rfl (Or.inr rfl) pe_str) (pss_cons (ps_set (i := 1) scText.nd rfl (Or.inr rfl) (pe_op op_add_str (pv 1) pe_str))
      (pss_cons (ps_setC (ix := 2) scText.nd rfl (Or.inl rfl) (NB := ["_law_k", "_law_signs", "_law_tape_here"]) (n := 1) (js := [1, 0]) (g := gName 0) (cl := [("_law_tape_here", s.heap.objs.size + 1), ("_law_signs", s.heap.objs.size + 1 + 1)]) rfl (by decide +kernel) (by decide +kernel) rfl
        (Takes.of rfl (all_cons rfl (all_cons rfl all_nil)) (all_cons (fun z => nomatch z) (all_cons (fun z => nomatch z) (all_cons (fun z => nomatch z) (all_cons (fun z => nomatch z) (all_cons (fun _ => rfl) (all_cons (fun _ => rfl) all_nil)))))) rfl
          (fun k j h => match k, j, h with | 0, _, rfl => rfl | 1, _, rfl => rfl | k + 2, _, h => absurd h (by simp)) (all_cons ⟨.inl rfl, .inl rfl, rfl⟩ (all_cons ⟨.inl rfl, .inl rfl, rfl⟩ all_nil)))
        (pi_range1 rfl G.range (pa_cons (pe_call GD hr rfl mD kD bD .nil pass0 (pa_cons (pv 0) (pa_cons pe_int pa_nil))) pa_nil))
        (fun C s H fp pn => pg_name (i := 0) ndTx rfl (Or.inl rfl) (.inr rfl)) (fun C s H fp pn => pts_nil)
        (fun C s H fp pn => pe_item_str (pv 1) (pe_call GD hr rfl mD kD bD .nil pass0 (pa_cons (pv 2) (pa_cons (pe_callB call_len_str (by rfl) G.len PySem.boot_len (pa_cons (pv 1) pa_nil)) pa_nil))) (fun _ _ => rfl)))
      (pss_one (ps_ret (pe_op op_add_str (pe_bm PySem.F.plainAttrs_str PySem.F.slot_str_join PySem.F.type_str_join mt_join pe_str (pa_cons (pv 2) pa_nil)) (pe_ix ix_list (pe_lst (pa_cons pe_str (pa_cons pe_str pa_nil))) (pe_call GD hr rfl mD kD bD .nil pass0 (pa_cons (pv 0) (pa_cons pe_int pa_nil))) (fun _ _ => rfl))))))), ?_⟩
    have sl : sizeLine = 16777216 := sizeLine_eq
    refine ⟨_, rfl, _, _, rfl, rfl, by decide +kernel, ?_⟩
    have hz : ∃ z : Str, z = (Str.ofString " !\"#$&'()*+,-./0123456789:;<=>?@ABCDEFGHIJKLMNOPQRSTUVWXYZ[\\]^_`") ++ (Str.ofString "abcdefghijklmnopqrstuvwxyz{|}~\n\n\n") ∧ 0 < z.length ∧ z.length < 1000 ∧ PyData.strOk z = true := ⟨_, rfl, by decide +kernel, by decide +kernel, by decide +kernel⟩
    obtain ⟨z, ez, lz0, lz, tz⟩ := hz
    rw [← ez]
    refine ⟨_, rfl, w', 31, rfl, hw, by decide, by decide, fun r1 H1 k1 a1 b1 => ?_⟩
    refine ⟨r1, rfl, by omega, by omega, fun acc hacc => ?_⟩
    have na : acc ≠ w' := (k1.wl.ne hacc).symm
    have ha0 : H acc = none := k1.fresh na hacc
    refine ⟨fun i m ys H' => m = r1.toNat - i ∧ i ≤ r1.toNat ∧ (∃ zs : List Str, ys = zs.map V.str ∧ zs.length = i ∧ (∀ z ∈ zs, z.length = 1) ∧ ∀ z ∈ zs, PyData.strOk z = true) ∧ Kp w' H H' ∧ H' acc = some (.lst ys), ⟨_, rfl, Nat.zero_le _, ⟨[], rfl, rfl, all_nil, all_nil⟩, k1.upd na ha0, upd_same⟩, ?_⟩
    rintro i m ys H' ⟨rfl, hi, ⟨zs, rfl, hzl, hz1, hz2⟩, kA, ha⟩
    refine ⟨ha, ?_⟩
    by_cases hlt : i < r1.toNat
    · refine .inr ⟨hlt, ?_⟩
      rintro x H'' ⟨rfl, rfl⟩
      refine gName_in ?_
      refine ⟨rfl, ?_⟩
      refine tYes_in ?_
      refine iteT ?_
      refine ⟨_, rfl, _, rfl, _, rfl, z, rfl, by omega, w', z.length, rfl, kA.wl, by omega, by omega, fun r H2 k2 a2 b2 => ?_⟩
      have hr' : r.toNat < z.cps.size := by
        have : z.cps.size = z.length := rfl
        omega
      refine ⟨z, r, z.cps[r.toNat], rfl, rfl, a2, by omega, b2, Array.getElem?_eq_getElem hr', k2.at_ _ _ na ha, by rw [List.length_map]; omega, _, ?_, rfl, hlt, ⟨zs ++ [⟨#[z.cps[r.toNat]]⟩], ?_, ?_, ?_, ?_⟩, (kA.trans k2).upd na ha0, upd_same⟩
      · omega
      · rw [List.map_append]
        rfl
      · rw [List.length_append, hzl]
        rfl
      · intro y hy
        rcases List.mem_append.mp hy with hy | hy
        · exact hz1 y hy
        · rw [List.mem_singleton.mp hy]
          rfl
      · intro y hy
        rcases List.mem_append.mp hy with hy | hy
        · exact hz2 y hy
        · rw [List.mem_singleton.mp hy, tx_iff]
          intro c hc
          have hc : c = z.cps[r.toNat] := by simpa using hc
          rw [hc]
          exact tx_iff.mp tz _ (Array.mem_toList_iff.mpr (Array.getElem_mem hr'))
    · have s1 := one_sum zs hz1
      have l0 : (Str.ofString "").length = 0 := by decide +kernel
      have hj := join_len "" zs
      rw [l0] at hj
      refine .inl ⟨by show r1.toNat ≤ i; omega, ?_⟩
      refine ⟨rfl, _, rfl, "", acc, zs, rfl, rfl, SqL.of ha, by rw [l0, s1]; omega, by show 2 ≤ sizeLine; decide, fun l2 n2 => ?_⟩
      have e2 : (upd H' l2 (.lst [.str "", .str "\n"])) l2 = some (.lst [.str "", .str "\n"]) := upd_same
      have kB := kA.same (same_upd (o := .lst [.str "", .str "\n"]) n2)
      generalize upd H' l2 (.lst [.str "", .str "\n"]) = H3 at e2 kB ⊢
      have nl : l2 ≠ w' := (kA.wl.ne n2).symm
      refine ⟨_, rfl, w', 2, rfl, kB.wl, by decide, by decide, fun r H4 k4 a4 b4 => ?_⟩
      have pk : ∃ y : Str, atI [V.str "", .str "\n"] r = some (.str y) ∧ y.length ≤ 1 ∧ PyData.strOk y = true := by
        obtain h | h : r = 0 ∨ r = 1 := by omega
        · exact ⟨"", by rw [h]; exact atI_nat (j := 0) rfl, by decide +kernel, by decide +kernel⟩
        · exact ⟨"\n", by rw [h]; exact atI_nat (j := 1) rfl, by decide +kernel, by decide +kernel⟩
      obtain ⟨y, ey, ly, ty⟩ := pk
      refine ⟨l2, _, _, _, rfl, rfl, SqL.of (k4.at_ _ _ nl e2), ey, _, _, rfl, rfl, by omega, q _ _ (kB.trans k4) ?_ (tx_cat (tx_join zs hz2) ty)⟩
      rw [cat_len]
      omega
end
end Lv

set_option maxHeartbeats 4000000
namespace Lv
open PySem L2 PySem.W
/-! ### the store, and the fall that a law hands in -/
abbrev sHere : Stmt := (defBody sFall).getD 0 (.Pass ⟨0, 0, 0, 0⟩)
def hPos : Pos := sHere.pos
abbrev hQual : Str := "_law_fall.<locals>._law_fall_here"
abbrev cloL (a b c d : Addr) : List (Str × Addr) := [("_law_store", d), ("_law_seen", c), ("_law_counts", b), ("_law_answers", a)]
example (L f : Addr) (cd : Value) : closureFor (defScope sHere) (PyProof.Rows.envOfC "_law_fall" (defScope sFall) L f cd) = pure (cloL (L + 1) (L + 1 + 1) (L + 1 + 1 + 1) (L + 1 + 1 + 1 + 1)) := rfl
abbrev sf (fv : V) (x : Str) (n : Int) : List (Str × V) := [("fall", fv), ("text", .str x), ("asked", .int n)]
theorem sf_all {fv : V} : putF "asked" (.int 0) (putF "text" (.str "") (putF "fall" fv [])) = sf fv "" 0 := rfl
theorem sf_asked {fv : V} {x : Str} {n m : Int} : putF "asked" (.int m) (sf fv x n) = sf fv x m := by
  simp only [putF]
  rw [if_neg (by decide +kernel), if_neg (by decide +kernel), if_pos trivial]
theorem sf_text {fv : V} {x y : Str} {n : Int} : putF "text" (.str y) (sf fv x n) = sf fv y n := by
  simp only [putF]
  rw [if_neg (by decide +kernel), if_pos trivial]
structure Sl (K : PySem.W.Frag) (mg : Str → Option Value) (C : Addr) : Prop where
  cl : Cls K C
  nF : NoAttr K C "fall"
  nT : NoAttr K C "text"
  nA : NoAttr K C "asked"
  mgC : mg "Store" = some (.ref C)
structure Fl (K : Frag) (mg : Str → Option Value) (CF : Addr) : Prop where
  mF : mg "Fallen" = some (.ref CF)
  ex : ExcIs K CF
/-- the function that a fall is, with what it holds -/
def FallAt (pm : Value) (H : Hp) (f an co se st : Addr) : Prop := ∃ (c' c1 c2 c3 c4 : Addr) (ctv doc : Value), H f = some (funO f (fnMade "_law_fall_here" hQual (defArgs sHere) (defBody sHere) (defScope sHere) (cloL c1 c2 c3 c4) doc pm c' ctv)) ∧ H c' = some (codeO c' hQual) ∧
  H c1 = some (cellO c1 (.ref an)) ∧ H c2 = some (cellO c2 (.ref co)) ∧ H c3 = some (cellO c3 (.ref se)) ∧ H c4 = some (cellO c4 (.ref st)) ∧ [c1, c2, c3, c4].Nodup
theorem FallAt.mv {pm : Value} {H H' : Hp} {f an co se st : Addr} (h : FallAt pm H f an co se st) (k : ∀ b φ, H b = some (.ext φ) → H' b = some (.ext φ)) : FallAt pm H' f an co se st := by
  obtain ⟨c', c1, c2, c3, c4, ctv, doc, e1, e2, e3, e4, e5, e6, nd⟩ := h
  exact ⟨c', c1, c2, c3, c4, ctv, doc, k _ _ e1, k _ _ e2, k _ _ e3, k _ _ e4, k _ _ e5, k _ _ e6, nd⟩
def spInit (C : Addr) : Sp := fun vs H Q _ => ∃ (p dx : Addr) (v : V), vs = [.ref p, v] ∧ H p = some (.ins C dx []) ∧ Q .non (upd H p (.ins C dx (sf v "" 0)))
def spWhole (C : Addr) : Sp := fun vs H Q _ => ∃ (p dx : Addr) (v : V) (x : Str) (n : Int), vs = [.ref p] ∧ H p = some (.ins C dx (sf v x n)) ∧ Q (.str x) H
def spAsked (C : Addr) : Sp := fun vs H Q _ => ∃ (p dx : Addr) (v : V) (x : Str) (n : Int), vs = [.ref p] ∧ H p = some (.ins C dx (sf v x n)) ∧ Q (.int n) H
def spWriteN (C : Addr) : Sp := fun vs H Q _ => ∃ (p dx : Addr) (x y : Str) (n : Int), vs = [.ref p, .str y] ∧ H p = some (.ins C dx (sf .non x n)) ∧ x.length + y.length ≤ 100000 ∧ Q .non (upd H p (.ins C dx (sf .non (x ++ y) (n + 1))))
/-- what a fall answers -/
def AnsOk (v : V) : Prop := v = .non ∨ ∃ i, v = .int i
section
variable {P : Program} {w : World} {K : PySem.W.Frag} {mg : Str → Option Value} {base : Heap}
theorem scInit : FnScope ["self", "fall"] ["self", "fall"] (defScope sInit) := ⟨rfl, rfl, rfl, by decide +kernel, rfl, by decide +kernel, by decide +kernel⟩
theorem ok_init {f C : Addr} {oc dV kV doc pm cdv ct : Value} {od an : Option Addr} {osl : Array (Option Value)} (lk : K.lookup f = some ⟨oc, od, .func (fnOf "__init__" "Store.__init__" (defArgs sInit) (defBody sInit) (defScope sInit) dV kV doc pm an cdv ct), osl⟩) (hcd : codeIn K cdv "Store.__init__" = true) (T : Sl K mg C) :
    FnOk P w K mg base CX0 1 f (fnOf "__init__" "Store.__init__" (defArgs sInit) (defBody sInit) (defScope sInit) dV kV doc pm an cdv ct) ["self", "fall"] (spInit C) := by
  refine fn_of lk hcd scInit (fun vs H Q E h => ?_) (fun A outer s H vs Q E hr h => ?_)
  · obtain ⟨p, dx, v, rfl, _⟩ := h
    rfl
  · obtain ⟨p, dx, v, rfl, hp, t⟩ := h
    refine ⟨_, PSs.nox (pss_cons (ps_fld (pv 0) (pv 1) rfl) (pss_cons (ps_fld (pv 0) pe_str rfl) (pss_one (ps_fld (pv 0) pe_int rfl)))), ?_⟩
    refine ⟨_, rfl, _, rfl, p, C, dx, _, rfl, hp, T.cl, T.nF, (by show 0 < 1000; decide), ?_⟩
    refine ⟨_, rfl, p, C, dx, _, rfl, upd_same, T.cl, T.nT, (by show 1 < 1000; decide), ?_⟩
    refine ⟨_, rfl, p, C, dx, _, rfl, upd_same, T.cl, T.nA, (by show 2 < 1000; decide), ?_⟩
    rw [upd_upd, upd_upd, sf_all]
    exact t
theorem scWhole : FnScope ["self"] ["self"] (defScope sWhole) := ⟨rfl, rfl, rfl, by decide +kernel, rfl, by decide +kernel, by decide +kernel⟩
theorem ok_whole {f C : Addr} {fd : FuncData} (F : Fun K "whole_text" "Store.whole_text" sWhole f fd) (T : Sl K mg C) : FnOk P w K mg base CX0 1 f fd ["self"] (spWhole C) := by
  refine F.ok scWhole (fun vs H Q E h => ?_) (fun cdv A outer s H vs Q E hr h => ?_)
  · obtain ⟨p, dx, v, x, n, rfl, _⟩ := h
    rfl
  · obtain ⟨p, dx, v, x, n, rfl, hp, t⟩ := h
    exact ⟨_, pss_one (ps_ret (pe_fld (pv 0) rfl)), _, rfl, p, C, dx, _, _, rfl, hp, T.cl, T.nT, rfl, t⟩
theorem scAsked : FnScope ["self"] ["self"] (defScope sAsked) := ⟨rfl, rfl, rfl, by decide +kernel, rfl, by decide +kernel, by decide +kernel⟩
theorem ok_asked {f C : Addr} {fd : FuncData} (F : Fun K "asked_for" "Store.asked_for" sAsked f fd) (T : Sl K mg C) : FnOk P w K mg base CX0 1 f fd ["self"] (spAsked C) := by
  refine F.ok scAsked (fun vs H Q E h => ?_) (fun cdv A outer s H vs Q E hr h => ?_)
  · obtain ⟨p, dx, v, x, n, rfl, _⟩ := h
    rfl
  · obtain ⟨p, dx, v, x, n, rfl, hp, t⟩ := h
    exact ⟨_, pss_one (ps_ret (pe_fld (pv 0) rfl)), _, rfl, p, C, dx, _, _, rfl, hp, T.cl, T.nA, rfl, t⟩
theorem in_adds {X : Cx} : InOp X .Add (fun x y H Q => ∃ i j, x = .str i ∧ y = .str j ∧ i.length + j.length ≤ sizeLine ∧ Q (.str (i ++ j)) H) := fun pins s σ H x y u v Q I rx ry h => iop_add_str pins s σ H x y u v Q I rx ry h
theorem scWrite : FnScope ["self", "text", "asked", "fall", "signs"] ["self", "text"] (defScope sWrite) := ⟨rfl, rfl, rfl, by decide +kernel, rfl, by decide +kernel, by decide +kernel⟩
theorem ok_writeN {f C : Addr} {fd : FuncData} (F : Fun K "write" "Store.write" sWrite f fd) (T : Sl K mg C) : FnOk P w K mg base CX0 3 f fd ["self", "text"] (spWriteN C) := by
  refine F.ok scWrite (fun vs H Q E h => ?_) (fun cdv A outer s H vs Q E hr h => ?_)
  · obtain ⟨p, dx, x, y, n, rfl, _⟩ := h
    rfl
  · obtain ⟨p, dx, x, y, n, rfl, hp, l, t⟩ := h
    refine ⟨_, pss_cons (ps_set (i := 2) scWrite.nd rfl (Or.inl rfl) (pe_fld (pv 0) rfl)) (pss_cons (ps_fld (pv 0) (pe_op op_add (pv 2) pe_int) rfl)
      (pss_cons (ps_set (i := 3) scWrite.nd rfl (Or.inl rfl) (pe_fld (pv 0) rfl)) (pss_cons (ps_set (i := 4) scWrite.nd rfl (Or.inl rfl) (pe_ifExp (pt_cmpR op_isN (pv 3) pe_non (nomark _)) pe_non (pe_callV (i := 3) hr (pa_cons (pv 2) pa_nil))))
      (pss_one (ps_if (pt_cmpR op_isN (pv 4) pe_non (nomark _)) (pss_one (ps_fldaug (pv 0) (pv 1) in_adds)) pss_never))))), ?_⟩
    have sl : sizeLine = 16777216 := sizeLine_eq
    refine ⟨_, rfl, p, C, dx, _, _, rfl, hp, T.cl, T.nA, rfl, ?_⟩
    refine ⟨_, rfl, _, _, rfl, rfl, _, rfl, p, C, dx, _, rfl, hp, T.cl, T.nA, (by show 3 < 1000; decide), ?_⟩
    rw [sf_asked]
    refine ⟨_, rfl, p, C, dx, _, _, rfl, upd_same, T.cl, T.nF, rfl, ?_⟩
    refine ⟨_, rfl, rfl, _, rfl, iteT ?_⟩
    refine ⟨_, rfl, rfl, _, rfl, iteT ?_⟩
    refine ⟨_, rfl, p, C, dx, _, _, rfl, upd_same, T.cl, T.nT, rfl, _, rfl, _, _, rfl, rfl, by omega, dx, _, upd_same, (by show 3 < 1000; decide), ?_⟩
    rw [upd_upd, sf_text]
    exact t
end
end Lv

set_option maxHeartbeats 4000000
namespace Lv
open PySem L2 PySem.W
theorem look_inj {cl : List (Str × Addr)} (nd : (cl.map (·.2)).Nodup) {x y : Str} {c : Addr} (h1 : cl.lookup x = some c) (h2 : cl.lookup y = some c) : x = y := by
  obtain ⟨i, hi⟩ := List.mem_iff_getElem?.mp (PySem.mem_of_lookup h1)
  obtain ⟨j, hj⟩ := List.mem_iff_getElem?.mp (PySem.mem_of_lookup h2)
  have e1 : (cl.map (·.2))[i]? = some c := by rw [List.getElem?_map, hi]; rfl
  have e2 : (cl.map (·.2))[j]? = some c := by rw [List.getElem?_map, hj]; rfl
  obtain ⟨l1, g1⟩ := List.getElem?_eq_some_iff.mp e1
  obtain ⟨l2, g2⟩ := List.getElem?_eq_some_iff.mp e2
  have := (List.getElem_inj nd).mp (g1.trans g2.symm)
  subst this
  rw [hi] at hj
  cases hj
  rfl
theorem cloS {c1 c2 c3 c4 : Addr} (nd : [c1, c2, c3, c4].Nodup) : CloScope ["_law_count"] ["_law_answers", "_law_counts", "_law_seen", "_law_store"] (defScope sHere) (cloL c1 c2 c3 c4) := by
  have key : ∀ p ∈ (defScope sHere).names, p.2 = NameKind.free → ((cloL c1 c2 c3 c4).lookup p.1).isSome = true := all_cons (fun z => nomatch z) (all_cons (fun _ => rfl) (all_cons (fun _ => rfl) (all_cons (fun _ => rfl) (all_cons (fun _ => rfl) (all_cons (fun z => nomatch z) all_nil)))))
  refine ⟨rfl, rfl, rfl, by decide +kernel, all_cons rfl all_nil, by decide +kernel, fun x h => ?_, fun x y c h1 h2 => ?_, all_cons rfl (all_cons rfl (all_cons rfl (all_cons rfl all_nil)))⟩
  · exact Option.isSome_iff_exists.mp (key (x, _) (PySem.mem_of_lookup h) rfl)
  · refine look_inj (cl := cloL c1 c2 c3 c4) ?_ h1 h2
    have e : (cloL c1 c2 c3 c4).map (·.2) = [c1, c2, c3, c4].reverse := rfl
    rw [e]
    exact List.pairwise_reverse.mpr (List.Pairwise.imp (fun h => Ne.symm h) nd)
section
variable {P : Program} {w : World} {K : PySem.W.Frag} {mg : Str → Option Value} {base : Heap}
theorem run_fall {C fW : Addr} {fdW : FuncData} {k : Nat} (G : Gb mg) (T : Sl K mg C) (GW : FnOk P w K mg base CX0 k fW fdW ["self"] (spWhole C)) (bW : Binds K fdW ["self"] []) (mW : Meth K C "whole_text" fW)
    {pm : Value} {H : Hp} {f an co se st p dx : Addr} {ans cs ss : List V} {v a : V} {x : Str} {n m : Int} {Q : VK} (h : FallAt pm H f an co se st) (han : H an = some (.lst ans)) (hco : H co = some (.lst cs)) (hse : H se = some (.lst ss)) (hst : H st = some (.lst [.ref p])) (hp : H p = some (.ins C dx (sf v x n)))
    (n1 : co ≠ se) (n2 : an ≠ co) (n3 : an ≠ se) (n4 : st ≠ co) (n5 : st ≠ se) (lc : cs.length ≤ 1000) (ls : ss.length ≤ 1000) (la : 0 < ans.length) (l2 : ans.length ≤ 1000) (ha : atI ans (m % (ans.length : Int)) = some a)
    (q : Q a (upd (upd H co (.lst (cs ++ [.int m]))) se (.lst (ss ++ [.str x])))) : RunV P w K mg base (k + 1) f [.int m] H Q := by
  obtain ⟨c', c1, c2, c3, c4, ctv, doc, e1, e2, e3, e4, e5, e6, nd⟩ := h
  have C0 : Cells H ((cloL c1 c2 c3 c4).map (·.2)) := all_cons ⟨_, e6⟩ (all_cons ⟨_, e5⟩ (all_cons ⟨_, e4⟩ (all_cons ⟨_, e3⟩ all_nil)))
  have noX : ∀ (o : HO), (∃ l, o = .lst l) ∨ (∃ C d fs, o = .ins C d fs) → ∀ φ, o ≠ .ext φ := fun o h φ z => by
    rcases h with ⟨l, rfl⟩ | ⟨C, d, fs, rfl⟩ <;> cases z
  refine ⟨⟨_, _, _, _, e1⟩, fun A outer s us hr e0 r => ?_⟩
  obtain ⟨u, rfl, ru⟩ := L2.vals1 r
  refine clo_run (ps := ["_law_count"]) (fr := ["_law_answers", "_law_counts", "_law_seen", "_law_store"]) (us := [u]) (vs := [.int m]) (ws := [.ref an, .ref co, .ref se, .ref st]) e1 e2 (cloS nd) C0
    (fun i x hx => match i, x, hx with
      | 0, _, rfl => ⟨c1, _, _, rfl, rfl, rfl, e3⟩
      | 1, _, rfl => ⟨c2, _, _, rfl, rfl, rfl, e4⟩
      | 2, _, rfl => ⟨c3, _, _, rfl, rfl, rfl, e5⟩
      | 3, _, rfl => ⟨c4, _, _, rfl, rfl, rfl, e6⟩
      | i + 4, _, hx => absurd hx (by simp)) rfl hr e0 (.of_eq rfl) r rfl fun hr1 => ?_
  refine ⟨_, pss_cons (ps_expr (pe_bm PySem.F.plainAttrs_list PySem.F.slot_list_append PySem.F.type_list_append mt_append (pv 2) (pa_cons (pv 0) pa_nil)))
    (pss_cons (ps_expr (pe_bm PySem.F.plainAttrs_list PySem.F.slot_list_append PySem.F.type_list_append mt_append (pv 3) (pa_cons (pe_meth0 (pe_ix ix_list (pv 4) pe_int (fun _ _ => rfl)) T.cl mW GW hr1 bW .nil pass0) pa_nil)))
    (pss_one (ps_ret (pe_ix ix_list (pv 1) (pe_op op_mod (pv 0) (pe_callB call_len_seq (by rfl) G.len PySem.boot_len (pa_cons (pv 1) pa_nil))) (fun _ _ => rfl))))), ?_⟩
  have sl : sizeLine = 16777216 := sizeLine_eq
  have oc : co ∉ (cloL c1 c2 c3 c4).map (·.2) := C0.out hco (by intro _ z; cases z)
  have os : se ∉ (cloL c1 c2 c3 c4).map (·.2) := C0.out hse (by intro _ z; cases z)
  have un : ∀ b o, H b = some o → (∀ φ, o ≠ .ext φ) → b ≠ co → (upd (unc ((cloL c1 c2 c3 c4).map (·.2)) H) co (.lst (cs ++ [.int m]))) b = some o := fun b o e h hb => by
    rw [upd_ne hb]
    exact unc_at C0 e h
  have np : p ≠ co := ne_of hp hco (by intro z; cases z)
  have eco : unc ((cloL c1 c2 c3 c4).map (·.2)) H co = some (.lst cs) := unc_at C0 hco
  refine ⟨_, rfl, .inl ⟨rfl, _, SqL.of eco⟩, _, rfl, co, cs, .int m, rfl, rfl, eco, by omega, ?_⟩
  have ese := un se _ hse (by intro _ z; cases z) n1.symm
  refine ⟨_, rfl, .inl ⟨rfl, _, SqL.of ese⟩, _, rfl, st, _, _, _, rfl, rfl, SqL.of (un st _ hst (by intro _ z; cases z) n4), atI_nat (j := 0) rfl, p, dx, _, rfl, un p _ hp (by intro _ z; cases z) np, rfl, p, dx, v, x, n, rfl, un p _ hp (by intro _ z; cases z) np, se, ss, .str x, rfl, rfl, ese, by omega, ?_⟩
  have ean : (upd (upd (unc ((cloL c1 c2 c3 c4).map (·.2)) H) co (.lst (cs ++ [.int m]))) se (.lst (ss ++ [.str x]))) an = some (.lst ans) := by
    rw [upd_ne n3]
    exact un an _ han (by intro _ z; cases z) n2
  refine ⟨_, rfl, _, rfl, _, rfl, an, _, rfl, .inl (SqL.of ean), _, _, rfl, rfl, (by show (0 : Int) < (ans.length : Nat); omega), an, ans, _, a, rfl, rfl, SqL.of ean, ha, ?_⟩
  show Q a (rcl _ H _)
  rw [rcl_upd os, rcl_upd oc, rcl_unc]
  exact q
end
end Lv

set_option maxHeartbeats 4000000
namespace L2
open PySem PySem.Spec PyProof.Rows PySem.W
theorem Fun.okE {P : Program} {w : World} {K : PySem.W.Frag} {mg : Str → Option Value} {base : Heap} {x qual : Str} {st : Stmt} {f : Addr} {fd : FuncData} {N ps : List Str} {k : Nat} {sp : Sp} (F : Fun K x qual st f fd) (S : FnScope N ps (defScope st)) (len : ∀ vs H Q E, sp vs H Q E → vs.length = ps.length)
    (hbody : ∀ (cdv : Value) (A : Around) (outer : List Env) (s : Shared) (H : Hp) (vs : List V) (Q : VK) (E : XK), Room k (A.deeper (envOfC qual (defScope st) s.heap.objs.size f cdv)) → sp vs H Q E →
      ∃ t, PSs (cxOf (CXE P w) P w K mg base N qual (defScope st) f cdv A outer s H E) (defBody st) t ∧ t { nx := fun _ H' => Q .non H', rt := Q } (start N vs) H) : FnOk P w K mg base (CXE P w) (k + 1) f fd ps sp := by
  obtain ⟨oc, od, kV, doc, pm, an, cdv, ct, osl, rfl, lk, hcd⟩ := F.ex
  exact fn_of lk hcd S len fun A outer s H vs Q E hr hsp => hbody cdv A outer s H vs Q E hr hsp
end L2
namespace Lv
open PySem L2 PySem.W
theorem addC_keep {l : List (Addr × Value)} {H : Hp} {b : Addr} {o : HO} (n : ∀ p ∈ l, H p.1 = none) (e : H b = some o) : addC l H b = some o := by
  rw [addC_out fun hb => ?_]
  · exact e
  · obtain ⟨p, hp, rfl⟩ := List.mem_map.mp hb
    rw [n p hp] at e
    cases e
def pmOf (mg : Str → Option Value) : Value := (mg "__name__").getD .none
def spFall (pm : Value) (T : Addr) : Sp := fun vs H Q _ => ∃ (an co se st : Addr), vs = [.ref an, .ref co, .ref se, .ref st] ∧ Tab H T hPos hQual ∧ ∀ f H', KeepT T H H' → H f = none → Tab H' T hPos hQual → FallAt pm H' f an co se st → Q (.ref f) H'
theorem nd4 (L : Nat) : [L + 1, L + 1 + 1, L + 1 + 1 + 1, L + 1 + 1 + 1 + 1].Nodup := by
  refine List.nodup_cons.mpr ⟨fun h => ?_, List.nodup_cons.mpr ⟨fun h => ?_, List.nodup_cons.mpr ⟨fun h => ?_, List.nodup_cons.mpr ⟨fun h => (by cases h), List.nodup_nil⟩⟩⟩⟩ <;> simp at h <;> omega
/-- what a writing leaves -/
def Wrote (C : Addr) (H H' : Hp) (p dx f co se : Addr) (x' x : Str) (n : Int) (cs ss : List V) : Prop := (∀ b o, H b = some o → b ≠ p → b ≠ co → b ≠ se → H' b = some o) ∧ H' p = some (.ins C dx (sf (.ref f) x' (n + 1))) ∧ H' co = some (.lst (cs ++ [.int n])) ∧ H' se = some (.lst (ss ++ [.str x]))
/-- a store with a fall, and the lists that it fills -/
structure StAt (pm : Value) (C : Addr) (H : Hp) (p dx f an co se st : Addr) (x : Str) (n : Int) (ans cs ss : List V) : Prop where
  hp : H p = some (.ins C dx (sf (.ref f) x n))
  fa : FallAt pm H f an co se st
  ha : H an = some (.lst ans)
  hc : H co = some (.lst cs)
  hs : H se = some (.lst ss)
  ht : H st = some (.lst [.ref p])
  n1 : co ≠ se
  n2 : an ≠ co
  n3 : an ≠ se
  n4 : st ≠ co
  n5 : st ≠ se
  la : 0 < ans.length
  l2 : ans.length ≤ 1000
  ok : ∀ v ∈ ans, AnsOk v
def cutT (y : Str) (i : Int) : Str := Txt.slice y none (some (if i > 0 then i else 0))
def newT (x y : Str) : V → Str
  | .int i => x ++ cutT y i
  | _ => x ++ y
def spWriteF (pm : Value) (C CF : Addr) : Sp := fun vs H Q E => ∃ (p dx f an co se st : Addr) (x y : Str) (n : Int) (ans cs ss : List V) (a : V), vs = [.ref p, .str y] ∧ StAt pm C H p dx f an co se st x n ans cs ss ∧ cs.length ≤ 1000 ∧ ss.length ≤ 1000 ∧ x.length + y.length ≤ 100000 ∧ atI ans (n % (ans.length : Int)) = some a ∧ AnsOk a ∧
  (a = .non → ∀ H', Wrote C H H' p dx f co se (newT x y a) x n cs ss → Q .non H') ∧ (a ≠ .non → ∀ H', Wrote C H H' p dx f co se (newT x y a) x n cs ss → E (.ref CF) none H')
section
variable {P : Program} {w : World} {K : PySem.W.Frag} {mg : Str → Option Value} {base : Heap}
theorem scFall : FnScope ["_law_answers", "_law_counts", "_law_seen", "_law_store", "_law_fall_here"] ["_law_answers", "_law_counts", "_law_seen", "_law_store"] (defScope sFall) := ⟨rfl, rfl, rfl, by decide +kernel, rfl, by decide +kernel, by decide +kernel⟩
theorem ok_fall {f c T : Addr} {fd : FuncData} (F : FunC K "_law_fall" "_law_fall" sFall f fd c) (hT : codeHdIn K c T = true) (hB : BmAt base mg) : FnOk P w K mg base CX0 1 f fd ["_law_answers", "_law_counts", "_law_seen", "_law_store"] (spFall (pmOf mg) T) := by
  refine F.okC scFall (fun vs H Q E h => ?_) (fun A outer s H vs Q E hr h => ?_)
  · obtain ⟨an, co, se, st, rfl, _⟩ := h
    rfl
  · obtain ⟨an, co, se, st, rfl, tb, t⟩ := h
    refine ⟨sHere, _, _, _, _, rfl, ps_def (T := T) (q := hQual) (i := 4) (clos := cloL (s.heap.objs.size + 1) (s.heap.objs.size + 1 + 1) (s.heap.objs.size + 1 + 1 + 1) (s.heap.objs.size + 1 + 1 + 1 + 1)) rfl hT hB rfl rfl rfl rfl rfl scFall.nd rfl (Or.inl rfl), pv 4, tb, fun f' c' ctv doc H' kt nf tb' hc' hf' => ?_⟩
    refine ⟨.ref f', rfl, [(s.heap.objs.size + 1, .ref an), (s.heap.objs.size + 1 + 1, .ref co), (s.heap.objs.size + 1 + 1 + 1, .ref se), (s.heap.objs.size + 1 + 1 + 1 + 1, .ref st)], nd4 _, all_cons ⟨"_law_answers", 0, an, rfl, rfl, rfl, rfl, rfl⟩ (all_cons ⟨"_law_counts", 1, co, rfl, rfl, rfl, rfl, rfl⟩ (all_cons ⟨"_law_seen", 2, se, rfl, rfl, rfl, rfl, rfl⟩ (all_cons ⟨"_law_store", 3, st, rfl, rfl, rfl, rfl, rfl⟩ all_nil))), fun fr => ?_⟩
    have at_ : ∀ p ∈ [(s.heap.objs.size + 1, Value.ref an), (s.heap.objs.size + 1 + 1, .ref co), (s.heap.objs.size + 1 + 1 + 1, .ref se), (s.heap.objs.size + 1 + 1 + 1 + 1, .ref st)], addC [(s.heap.objs.size + 1, Value.ref an), (s.heap.objs.size + 1 + 1, .ref co), (s.heap.objs.size + 1 + 1 + 1, .ref se), (s.heap.objs.size + 1 + 1 + 1 + 1, .ref st)] H' p.1 = some (cellO p.1 p.2) := fun p hp => addC_at (nd4 _) hp
    refine t f' _ (fun b o n e => addC_keep fr (kt b o n e)) nf ?_ ⟨c', _, _, _, _, ctv, doc, addC_keep fr hf', addC_keep fr hc', at_ (_, _) (.head _), at_ (_, _) (.tail _ (.head _)), at_ (_, _) (.tail _ (.tail _ (.head _))), at_ (_, _) (.tail _ (.tail _ (.tail _ (.head _)))), nd4 _⟩
    obtain ⟨qs, g1, g2, g3⟩ := tb'
    refine ⟨qs, addC_keep fr g1, g2, ?_⟩
    rcases g3 with g3 | ⟨c'', g3, g4⟩
    · exact .inl g3
    · exact .inr ⟨c'', g3, addC_keep fr g4⟩
theorem ok_writeF {f C CF fW : Addr} {fd fdW : FuncData} {pm : Value} (F : Fun K "write" "Store.write" sWrite f fd) (G : Gb mg) (T : Sl K mg C) (TF : Fl K mg CF) (GW : FnOk P w K mg base CX0 1 fW fdW ["self"] (spWhole C)) (bW : Binds K fdW ["self"] []) (mW : Meth K C "whole_text" fW) :
    FnOk P w K mg base (CXE P w) 3 f fd ["self", "text"] (spWriteF pm C CF) := by
  refine F.okE scWrite (fun vs H Q E h => ?_) (fun cdv A outer s H vs Q E hr h => ?_)
  · obtain ⟨p, dx, f', an, co, se, st, x, y, n, ans, cs, ss, a, rfl, _⟩ := h
    rfl
  · obtain ⟨p, dx, f', an, co, se, st, x, y, n, ans, cs, ss, a, rfl, S, lc, ls, l, ea, oka, tq, te⟩ := h
    refine ⟨_, pss_cons (ps_set (i := 2) scWrite.nd rfl (Or.inl rfl) (pe_fld (pv 0) rfl)) (pss_cons (ps_fld (pv 0) (pe_op op_add (pv 2) pe_int) rfl)
      (pss_cons (ps_set (i := 3) scWrite.nd rfl (Or.inl rfl) (pe_fld (pv 0) rfl)) (pss_cons (ps_set (i := 4) scWrite.nd rfl (Or.inl rfl) (pe_ifExp (pt_cmpR op_isN (pv 3) pe_non (nomark _)) pe_non (pe_callV (i := 3) hr (pa_cons (pv 2) pa_nil))))
      (pss_one (ps_if (pt_cmpR op_isN (pv 4) pe_non (nomark _)) (pss_one (ps_fldaug (pv 0) (pv 1) in_adds))
        (pss_cons (ps_fldaug (pv 0) (pe_slice sl_str (pv 1) po_none (po_some (pe_callB (call_max2 rfl) (by rfl) G.max boot_mx (pa_cons pe_int (pa_cons (pv 4) pa_nil))))) in_adds) (pss_one (ps_raise rfl TF.ex rfl TF.mF raises_here (pa_cons pe_str pa_nil))))))))), ?_⟩
    have sl : sizeLine = 16777216 := sizeLine_eq
    have hp := S.hp
    refine ⟨_, rfl, p, C, dx, _, _, rfl, hp, T.cl, T.nA, rfl, ?_⟩
    refine ⟨_, rfl, _, _, rfl, rfl, _, rfl, p, C, dx, _, rfl, hp, T.cl, T.nA, (by show 3 < 1000; decide), ?_⟩
    rw [sf_asked]
    have k1 : ∀ b o, H b = some o → b ≠ p → (upd H p (.ins C dx (sf (.ref f') x (n + 1)))) b = some o := fun b o e nb => by
      rw [upd_ne nb]
      exact e
    have e1 : (upd H p (.ins C dx (sf (.ref f') x (n + 1)))) p = some (.ins C dx (sf (.ref f') x (n + 1))) := upd_same
    generalize upd H p (.ins C dx (sf (.ref f') x (n + 1))) = H1 at k1 e1 ⊢
    refine ⟨_, rfl, p, C, dx, _, _, rfl, e1, T.cl, T.nF, rfl, ?_⟩
    have np : ∀ {b : Addr} {l : List V}, H b = some (.lst l) → b ≠ p := fun e => ne_of e hp (by intro z; cases z)
    have fa1 : FallAt pm H1 f' an co se st := S.fa.mv fun b φ e => k1 _ _ e (ne_of e hp (by intro z; cases z))
    refine ⟨_, rfl, rfl, _, rfl, iteF ?_⟩
    have fnh : FnH H1 f' := by
      obtain ⟨c', c1, c2, c3, c4, ctv, doc, z, _⟩ := fa1
      exact ⟨_, _, _, _, z⟩
    refine ⟨f', rfl, fnh, _, rfl, ?_⟩
    refine run_fall G T GW bW mW fa1 (k1 _ _ S.ha (np S.ha)) (k1 _ _ S.hc (np S.hc)) (k1 _ _ S.hs (np S.hs)) (k1 _ _ S.ht (np S.ht)) e1 S.n1 S.n2 S.n3 S.n4 S.n5 lc ls S.la S.l2 ea ?_
    have npc : p ≠ co := (np S.hc).symm
    have nps : p ≠ se := (np S.hs).symm
    have k3 : ∀ b o, H b = some o → b ≠ p → b ≠ co → b ≠ se → (upd (upd H1 co (.lst (cs ++ [.int n]))) se (.lst (ss ++ [.str x]))) b = some o := fun b o e h1 h2 h3 => by
      rw [upd_ne h3, upd_ne h2]
      exact k1 b o e h1
    have e3 : (upd (upd H1 co (.lst (cs ++ [.int n]))) se (.lst (ss ++ [.str x]))) p = some (.ins C dx (sf (.ref f') x (n + 1))) := by
      rw [upd_ne nps, upd_ne npc]
      exact e1
    have c3 : (upd (upd H1 co (.lst (cs ++ [.int n]))) se (.lst (ss ++ [.str x]))) co = some (.lst (cs ++ [.int n])) := by rw [upd_ne S.n1, upd_same]
    have s3 : (upd (upd H1 co (.lst (cs ++ [.int n]))) se (.lst (ss ++ [.str x]))) se = some (.lst (ss ++ [.str x])) := upd_same
    generalize upd (upd H1 co (.lst (cs ++ [.int n]))) se (.lst (ss ++ [.str x])) = H3 at k3 e3 c3 s3 ⊢
    have wr : ∀ x', Wrote C H (upd H3 p (.ins C dx (sf (.ref f') x' (n + 1)))) p dx f' co se x' x n cs ss := fun x' => ⟨fun b o e h1 h2 h3 => by rw [upd_ne h1]; exact k3 b o e h1 h2 h3, upd_same, by rw [upd_ne npc.symm]; exact c3, by rw [upd_ne nps.symm]; exact s3⟩
    rcases oka with rfl | ⟨i, rfl⟩
    · refine ⟨_, rfl, rfl, _, rfl, iteT ?_⟩
      refine ⟨_, rfl, p, C, dx, _, _, rfl, e3, T.cl, T.nT, rfl, _, rfl, _, _, rfl, rfl, by omega, dx, _, e3, (by show 3 < 1000; decide), ?_⟩
      rw [sf_text]
      exact tq rfl _ (wr _)
    · refine ⟨_, rfl, rfl, _, rfl, iteF ?_⟩
      have ll := Txt.slice_le y none (some (if i > 0 then i else 0))
      refine ⟨_, rfl, p, C, dx, _, _, rfl, e3, T.cl, T.nT, rfl, _, rfl, _, rfl, _, _, rfl, _, rfl, y, rfl, by omega, _, _, rfl, rfl, by omega, dx, _, e3, (by show 3 < 1000; decide), ?_⟩
      rw [sf_text]
      exact ⟨by show 1 ≤ sizeLine; decide, te (by intro z; cases z) _ (wr _)⟩
end
end Lv

set_option maxHeartbeats 4000000
namespace L2
open PySem PySem.Spec PyProof.Rows
section
variable {X : Cx}
theorem pek_ix {a b : Expr} {ta tb : TE} {pos : Pos} {r : R2} (hr : IxR X r) (ha : PEc X a ta) (hb : PE X b tb) (hs : PlainIx b) : PEc X (.Subscript a b pos) (tOp r ta tb) := ⟨pe_ix hr ha.h hb hs⟩
end
end L2
namespace Lv
open PySem L2 PySem.W
theorem kit_self {K : Frag} {C : Addr} : kitOne K (.ref C) (.ref C) = some true := by
  unfold kitOne
  rw [if_pos (by simp)]
structure Rf (K : Frag) (mg : Str → Option Value) (CL CF CD CN : Addr) : Prop where
  mL : mg "LentError" = some (.ref CL)
  mF : mg "Fallen" = some (.ref CF)
  mD : mg "Down" = some (.ref CD)
  mN : mg "NoBook" = some (.ref CN)
  eF : ExcK K CF
  hF : exmOne K (.ref CF) (.ref CL) = some true
  no : kitAny K (.ref CF) ([CD, CN].map Value.ref) = some false
def spWroteN (C : Addr) : Sp := fun vs H Q _ => ∃ (p dx : Addr) (x y : Str) (n : Int), vs = [.ref p, .str y] ∧ H p = some (.ins C dx (sf .non x n)) ∧ x.length + y.length ≤ 100000 ∧ Q (.str "told") (upd H p (.ins C dx (sf .non (x ++ y) (n + 1))))
def wordOf (a : V) : Str := if a = .non then "told" else "fallen"
def spWroteF (pm : Value) (C : Addr) : Sp := fun vs H Q _ => ∃ (p dx f an co se st : Addr) (x y : Str) (n : Int) (ans cs ss : List V) (a : V), vs = [.ref p, .str y] ∧ StAt pm C H p dx f an co se st x n ans cs ss ∧ cs.length ≤ 1000 ∧ ss.length ≤ 1000 ∧ x.length + y.length ≤ 100000 ∧ atI ans (n % (ans.length : Int)) = some a ∧ AnsOk a ∧
  ∀ H1 H', Wrote C H H1 p dx f co se (newT x y a) x n cs ss → Same H1 H' → Q (.str (wordOf a)) H'
section
variable {P : Program} {w : World} {K : PySem.W.Frag} {mg : Str → Option Value} {base : Heap}
theorem scWrote : FnScope ["_law_store", "_law_text_here", "_law_word", "e"] ["_law_store", "_law_text_here"] (defScope sWrote) := ⟨rfl, rfl, rfl, by decide +kernel, rfl, by decide +kernel, by decide +kernel⟩
theorem ok_wroteN {f C CL CF CD CN fW : Addr} {fd fdW : FuncData} (F : Fun K "_law_wrote" "_law_wrote" sWrote f fd) (T : Sl K mg C) (R : Rf K mg CL CF CD CN) (GW : FnOk P w K mg base CX0 3 fW fdW ["self", "text"] (spWriteN C)) (bW : Binds K fdW ["self", "text"] []) (mW : Meth K C "write" fW) :
    FnOk P w K mg base CX0 4 f fd ["_law_store", "_law_text_here"] (spWroteN C) := by
  refine F.ok scWrote (fun vs H Q E h => ?_) (fun cdv A outer s H vs Q E hr h => ?_)
  · obtain ⟨p, dx, x, y, n, rfl, _⟩ := h
    rfl
  · obtain ⟨p, dx, x, y, n, rfl, hp, l, t⟩ := h
    refine ⟨_, pss_cons (ps_set (i := 2) scWrote.nd rfl (Or.inl rfl) pe_str) (pss_cons (ps_try (i := 3) rfl scWrote.nd rfl rfl ⟨rfl, rfl⟩ (by rfl) R.mL
      (fun pn xe E hp => pss_one (ps_if (pt_cmpR op_notN (pe_meth (pv 0) T.cl mW GW hr bW .nil pass0 (pa_cons (pv 1) pa_nil)) pe_non (nomark _)) pss_never pss_nil)) (fun e => pss_never)) (pss_one (ps_ret (pv 2)))), ?_⟩
    refine ⟨_, rfl, p, dx, _, rfl, hp, rfl, _, rfl, p, dx, x, y, n, rfl, hp, l, rfl, _, rfl, iteF ?_⟩
    exact ⟨_, rfl, t⟩
theorem ok_wroteF {f C CL CF CD CN fW : Addr} {fd fdW : FuncData} {pm : Value} (F : Fun K "_law_wrote" "_law_wrote" sWrote f fd) (G : Gb mg) (T : Sl K mg C) (R : Rf K mg CL CF CD CN) (GW : FnOk P w K mg base (CXE P w) 3 fW fdW ["self", "text"] (spWriteF pm C CF)) (bW : Binds K fdW ["self", "text"] []) (mW : Meth K C "write" fW) :
    FnOk P w K mg base CX0 4 f fd ["_law_store", "_law_text_here"] (spWroteF pm C) := by
  refine F.ok scWrote (fun vs H Q E h => ?_) (fun cdv A outer s H vs Q E hr h => ?_)
  · obtain ⟨p, dx, f', an, co, se, st, x, y, n, ans, cs, ss, a, rfl, _⟩ := h
    rfl
  · obtain ⟨p, dx, f', an, co, se, st, x, y, n, ans, cs, ss, a, rfl, S, lc, ls, l, ea, oka, t⟩ := h
    refine ⟨_, pss_cons (ps_set (i := 2) scWrote.nd rfl (Or.inl rfl) pe_str) (pss_cons (ps_try (i := 3) rfl scWrote.nd rfl rfl ⟨rfl, rfl⟩ (by rfl) R.mL
      (fun pn xe E hp => pss_one (ps_if (pt_cmpR op_notN (pe_meth (pv 0) T.cl mW GW hr bW .nil hp (pa_cons (pv 1) pa_nil)) pe_non (nomark _)) pss_never pss_nil))
      (fun e => pss_one (ps_set (i := 2) scWrote.nd rfl (Or.inl rfl) (pe_ix (r := rIxL K) ix_list (pe_lst (pa_cons pe_str (pa_cons pe_str pa_nil))) (pe_callTy call_int1 (by rfl) G.int boot_i (pa_cons (pe_and (pe_callB (r := rIsi K) call_isinst (by rfl) G.isi boot_isi (pa_cons (pv 3) (pa_cons (pe_glob (v := .ref CF) (by rfl) R.mF rfl) pa_nil)))
        (pe_one (pe_not (pe_callB (r := rIsiT K) call_isiT (by rfl) G.isi boot_isi (pa_cons (pv 3) (pa_cons (pe_tup (pa_cons (pe_glob (v := .ref CD) (by rfl) R.mD rfl) (pa_cons (pe_glob (v := .ref CN) (by rfl) R.mN rfl) pa_nil))) pa_nil)))))) pa_nil)) (fun _ _ => rfl))))) (pss_one (ps_ret (pv 2)))), ?_⟩
    refine ⟨_, rfl, p, dx, _, rfl, S.hp, rfl, _, rfl, p, dx, f', an, co, se, st, x, y, n, ans, cs, ss, a, rfl, S, lc, ls, l, ea, oka, fun ha H' hw => ?_, fun ha H' hw => ?_⟩
    · refine ⟨rfl, _, rfl, iteF ?_⟩
      refine ⟨_, rfl, ?_⟩
      have := t H' H' hw (Same.refl _)
      rw [show wordOf a = "told" from if_pos ha] at this
      exact this
    · refine ⟨CF, rfl, R.hF, fun ea' he => ?_⟩
      have e0 : (upd H' ea' (excO ea' CF)) ea' = some (excO ea' CF) := upd_same
      have s1 : Same H' (upd H' ea' (excO ea' CF)) := same_upd he
      generalize upd H' ea' (excO ea' CF) = H2 at e0 s1 ⊢
      refine ⟨by show 2 ≤ sizeLine; decide, fun l2 n2 => ?_⟩
      have s3 : Same H2 (upd H2 l2 (.lst [.str "other", .str "fallen"])) := same_upd n2
      have e3 : (upd H2 l2 (.lst [.str "other", .str "fallen"])) l2 = some (.lst [.str "other", .str "fallen"]) := upd_same
      generalize upd H2 l2 (.lst [.str "other", .str "fallen"]) = H3 at s3 e3 ⊢
      refine ⟨_, rfl, _, _, _, _, rfl, .ref CF, .inr ⟨ea', CF, rfl, s3 _ _ e0, R.eF, kit_self⟩, _, rfl, iteT ?_⟩
      refine ⟨_, rfl, by show 2 ≤ sizeLine; decide, fun l4 n4 => ?_⟩
      have s4 : Same H3 (upd H3 l4 (.tup [.ref CD, .ref CN])) := same_upd n4
      have e4 : (upd H3 l4 (.tup [.ref CD, .ref CN])) l4 = some (.tup [.ref CD, .ref CN]) := upd_same
      generalize upd H3 l4 (.tup [.ref CD, .ref CN]) = H4 at s4 e4 ⊢
      refine ⟨ea', CF, l4, [CD, CN], false, rfl, s4 _ _ (s3 _ _ e0), R.eF, e4, R.no, _, rfl, .inr ⟨_, rfl, ?_⟩⟩
      refine ⟨l2, _, _, .str "fallen", rfl, rfl, SqL.of (s4 _ _ e3), atI_nat (j := 1) rfl, ?_⟩
      refine ⟨_, rfl, ?_⟩
      have := t H' H4 hw (s1.trans (s3.trans s4))
      rw [show wordOf a = "fallen" from if_neg ha] at this
      exact this
end
end Lv

set_option maxHeartbeats 4000000
namespace L2
open PySem PySem.Spec PyProof.Rows PySem.W
section
variable {X : Cx}
/-- range(b) as a thing -/
def rRng1 : List V → Hp → VK → Prop := fun xs H Q => ∃ j : Int, xs = [.int j] ∧ ∀ r, H r = none → Q (.ref r) (upd H r (.rng 0 j))
theorem call_rng1 : CallR X (.type "range") rRng1 := by
  intro pins s σ H xs us Q I r h
  obtain ⟨j, rfl, q⟩ := h
  obtain ⟨u, rfl, ⟨t, rfl⟩⟩ := vals1 r
  refine call_range_1 ?_
  refine ⟨.ref s.heap.objs.size, _, I.laid (o := .rng 0 j) (t' := s.toks + 1 + 1) (fun b o e => Heap.get?_push_of_some _ e) (Nat.le_refl _) ⟨s.toks, t, s.toks + 1, Heap.get?_push_size _ rfl⟩, rfl, q _ (I.hok.fresh (Nat.le_refl _))⟩
end
end L2
namespace Lv
open PySem L2 PySem.W
/-! ### one store with its lists, in a dict -/
structure Rec where
  d : Addr
  p : Addr
  dx : Addr
  f : Addr
  an : Addr
  co : Addr
  se : Addr
  st : Addr
def kv (r : Rec) (x : Str) (m : Int) : List (Key × V) := [(Sum.inr "store", .ref r.p), (Sum.inr "answers", .ref r.an), (Sum.inr "counts", .ref r.co), (Sum.inr "seen", .ref r.se), (Sum.inr "text", .str x), (Sum.inr "many", .int m)]
theorem key_ne {a b : Str} (h : ¬ a = b) : ¬ (Sum.inr a : Key) = Sum.inr b := fun z => h (Sum.inr.inj z)
theorem kv_store {r : Rec} {x : Str} {m : Int} : valV (kv r x m) (Sum.inr "store" : Key) = some (.ref r.p) := valV_pos rfl
theorem kv_answers {r : Rec} {x : Str} {m : Int} : valV (kv r x m) (Sum.inr "answers" : Key) = some (.ref r.an) := by
  unfold kv
  rw [valV_neg (key_ne (by decide +kernel)), valV_pos rfl]
theorem kv_counts {r : Rec} {x : Str} {m : Int} : valV (kv r x m) (Sum.inr "counts" : Key) = some (.ref r.co) := by
  unfold kv
  rw [valV_neg (key_ne (by decide +kernel)), valV_neg (key_ne (by decide +kernel)), valV_pos rfl]
theorem kv_seen {r : Rec} {x : Str} {m : Int} : valV (kv r x m) (Sum.inr "seen" : Key) = some (.ref r.se) := by
  unfold kv
  rw [valV_neg (key_ne (by decide +kernel)), valV_neg (key_ne (by decide +kernel)), valV_neg (key_ne (by decide +kernel)), valV_pos rfl]
theorem kv_text {r : Rec} {x : Str} {m : Int} : valV (kv r x m) (Sum.inr "text" : Key) = some (.str x) := by
  unfold kv
  rw [valV_neg (key_ne (by decide +kernel)), valV_neg (key_ne (by decide +kernel)), valV_neg (key_ne (by decide +kernel)), valV_neg (key_ne (by decide +kernel)), valV_pos rfl]
theorem kv_many {r : Rec} {x : Str} {m : Int} : valV (kv r x m) (Sum.inr "many" : Key) = some (.int m) := by
  unfold kv
  rw [valV_neg (key_ne (by decide +kernel)), valV_neg (key_ne (by decide +kernel)), valV_neg (key_ne (by decide +kernel)), valV_neg (key_ne (by decide +kernel)), valV_neg (key_ne (by decide +kernel)), valV_pos rfl]
theorem kv_ptext {r : Rec} {x x' : Str} {m : Int} : putK (kv r x m) (Sum.inr "text" : Key) (.str x') = kv r x' m := by
  have k1 := key_ne (show ¬ ("store" : Str) = "text" by decide +kernel)
  have k2 := key_ne (show ¬ ("answers" : Str) = "text" by decide +kernel)
  have k3 := key_ne (show ¬ ("counts" : Str) = "text" by decide +kernel)
  have k4 := key_ne (show ¬ ("seen" : Str) = "text" by decide +kernel)
  have k5 := key_ne (show ¬ ("many" : Str) = "text" by decide +kernel)
  unfold putK kv
  rw [if_pos (by simp)]
  simp only [List.map_cons, List.map_nil, if_neg k1, if_neg k2, if_neg k3, if_neg k4, if_neg k5, if_true]
theorem kv_pmany {r : Rec} {x : Str} {m m' : Int} : putK (kv r x m) (Sum.inr "many" : Key) (.int m') = kv r x m' := by
  have k1 := key_ne (show ¬ ("store" : Str) = "many" by decide +kernel)
  have k2 := key_ne (show ¬ ("answers" : Str) = "many" by decide +kernel)
  have k3 := key_ne (show ¬ ("counts" : Str) = "many" by decide +kernel)
  have k4 := key_ne (show ¬ ("seen" : Str) = "many" by decide +kernel)
  have k5 := key_ne (show ¬ ("text" : Str) = "many" by decide +kernel)
  unfold putK kv
  rw [if_pos (by simp)]
  simp only [List.map_cons, List.map_nil, if_neg k1, if_neg k2, if_neg k3, if_neg k4, if_neg k5, if_true]
theorem vn {kvs : List (Key × V)} {k : Key} (h : ∀ e ∈ kvs, ¬ e.1 = k) : valV kvs k = none := by
  unfold valV
  rw [List.find?_eq_none.mpr fun e he => by simpa using h e he]
  rfl
theorem pn {kvs : List (Key × V)} {k : Key} {v : V} (h : ∀ e ∈ kvs, ¬ e.1 = k) : putK kvs k v = kvs ++ [(k, v)] := putK_new _ (vn h)
theorem kv_new {r : Rec} {x : Str} {m : Int} : mergeK [] (kv r x m) = kv r x m := by
  have s1 : putK ([] : List (Key × V)) (Sum.inr "store") (.ref r.p) = [((Sum.inr "store" : Key), (.ref r.p : V))] := pn all_nil
  have s2 : putK ([((Sum.inr "store" : Key), (.ref r.p : V))] : List (Key × V)) (Sum.inr "answers") (.ref r.an) = [((Sum.inr "store" : Key), (.ref r.p : V)), ((Sum.inr "answers" : Key), (.ref r.an : V))] := pn (all_cons (key_ne (by decide +kernel)) all_nil)
  have s3 : putK ([((Sum.inr "store" : Key), (.ref r.p : V)), ((Sum.inr "answers" : Key), (.ref r.an : V))] : List (Key × V)) (Sum.inr "counts") (.ref r.co) = [((Sum.inr "store" : Key), (.ref r.p : V)), ((Sum.inr "answers" : Key), (.ref r.an : V)), ((Sum.inr "counts" : Key), (.ref r.co : V))] := pn (all_cons (key_ne (by decide +kernel)) (all_cons (key_ne (by decide +kernel)) all_nil))
  have s4 : putK ([((Sum.inr "store" : Key), (.ref r.p : V)), ((Sum.inr "answers" : Key), (.ref r.an : V)), ((Sum.inr "counts" : Key), (.ref r.co : V))] : List (Key × V)) (Sum.inr "seen") (.ref r.se) = [((Sum.inr "store" : Key), (.ref r.p : V)), ((Sum.inr "answers" : Key), (.ref r.an : V)), ((Sum.inr "counts" : Key), (.ref r.co : V)), ((Sum.inr "seen" : Key), (.ref r.se : V))] := pn (all_cons (key_ne (by decide +kernel)) (all_cons (key_ne (by decide +kernel)) (all_cons (key_ne (by decide +kernel)) all_nil)))
  have s5 : putK ([((Sum.inr "store" : Key), (.ref r.p : V)), ((Sum.inr "answers" : Key), (.ref r.an : V)), ((Sum.inr "counts" : Key), (.ref r.co : V)), ((Sum.inr "seen" : Key), (.ref r.se : V))] : List (Key × V)) (Sum.inr "text") (.str x) = [((Sum.inr "store" : Key), (.ref r.p : V)), ((Sum.inr "answers" : Key), (.ref r.an : V)), ((Sum.inr "counts" : Key), (.ref r.co : V)), ((Sum.inr "seen" : Key), (.ref r.se : V)), ((Sum.inr "text" : Key), (.str x : V))] := pn (all_cons (key_ne (by decide +kernel)) (all_cons (key_ne (by decide +kernel)) (all_cons (key_ne (by decide +kernel)) (all_cons (key_ne (by decide +kernel)) all_nil))))
  have s6 : putK ([((Sum.inr "store" : Key), (.ref r.p : V)), ((Sum.inr "answers" : Key), (.ref r.an : V)), ((Sum.inr "counts" : Key), (.ref r.co : V)), ((Sum.inr "seen" : Key), (.ref r.se : V)), ((Sum.inr "text" : Key), (.str x : V))] : List (Key × V)) (Sum.inr "many") (.int m) = [((Sum.inr "store" : Key), (.ref r.p : V)), ((Sum.inr "answers" : Key), (.ref r.an : V)), ((Sum.inr "counts" : Key), (.ref r.co : V)), ((Sum.inr "seen" : Key), (.ref r.se : V)), ((Sum.inr "text" : Key), (.str x : V)), ((Sum.inr "many" : Key), (.int m : V))] := pn (all_cons (key_ne (by decide +kernel)) (all_cons (key_ne (by decide +kernel)) (all_cons (key_ne (by decide +kernel)) (all_cons (key_ne (by decide +kernel)) (all_cons (key_ne (by decide +kernel)) all_nil)))))
  unfold mergeK kv
  simp only [List.foldl_cons, List.foldl_nil]
  rw [s1, s2, s3, s4, s5, s6]
theorem dg {H : Hp} {d : Addr} {kvs : List (Key × V)} {k : Str} {v : V} (h : H d = some (.dK kvs)) (e : valV kvs (Sum.inr k : Key) = some v) : DGet H d (.str k) (some v) := by
  have := DGet.k (k := (Sum.inr k : Key)) h
  rw [e] at this
  exact this
theorem rd_ints {K : Frag} {H : Hp} : ∀ (l : List Nat), RdVs K H (l.map fun (k : Nat) => V.int (0 + (k : Int))) ((l.map fun (k : Nat) => (0 : Int) + (k : Int)).map PyData.int)
  | [] => .nil
  | k :: l => .cons (.int _) (rd_ints l)
theorem atI_last {l : List V} {v : V} : atI (l ++ [v]) (-1) = some v := by
  unfold atI ixN
  rw [if_neg (by decide), if_pos (by rw [List.length_append]; show -((l.length + 1 : Nat) : Int) ≤ -1; omega), List.length_append]
  show (l ++ [v])[((-1 : Int) + ((l.length + 1 : Nat) : Int)).toNat]? = _
  rw [show ((-1 : Int) + ((l.length + 1 : Nat) : Int)).toNat = l.length by omega, List.getElem?_append_right (Nat.le_refl _), Nat.sub_self]
  rfl
def Gd (n : Nat) (d : PyData) : Prop := d.canLay0 = true ∧ d.depth ≤ n
theorem canAll : ∀ {ds : List PyData}, (∀ d ∈ ds, d.canLay0 = true) → PyData.canLayAll0 ds = true
  | [], _ => by rw [PyData.canLayAll0]
  | d :: ds, h => by
    rw [PyData.canLayAll0, h d (List.mem_cons_self), canAll fun e he => h e (List.mem_cons_of_mem _ he)]
    rfl
theorem depAll {n : Nat} : ∀ {ds : List PyData}, (∀ d ∈ ds, d.depth ≤ n) → PyData.depthAll ds ≤ n
  | [], _ => by rw [PyData.depthAll]; exact Nat.zero_le _
  | d :: ds, h => by
    rw [PyData.depthAll]
    exact Nat.max_le.mpr ⟨h d List.mem_cons_self, depAll fun e he => h e (List.mem_cons_of_mem _ he)⟩
theorem Gd.tup {n : Nat} {ds : List PyData} (h : ∀ d ∈ ds, Gd n d) : Gd (n + 1) (.tuple ds) := by
  refine ⟨?_, ?_⟩
  · rw [PyData.canLay0]
    exact canAll fun d hd => (h d hd).1
  · rw [PyData.depth]
    exact Nat.succ_le_succ (depAll fun d hd => (h d hd).2)
theorem Gd.lst {n : Nat} {ds : List PyData} (h : ∀ d ∈ ds, Gd n d) : Gd (n + 1) (.list ds) := by
  refine ⟨?_, ?_⟩
  · rw [PyData.canLay0]
    exact canAll fun d hd => (h d hd).1
  · rw [PyData.depth]
    exact Nat.succ_le_succ (depAll fun d hd => (h d hd).2)
theorem Gd.int {n : Nat} (i : Int) : Gd n (.int i) := ⟨by rw [PyData.canLay0], by rw [PyData.depth]; exact Nat.zero_le _⟩
theorem Gd.str {n : Nat} {x : Str} (h : PyData.strOk x = true) : Gd n (.str x) := ⟨by rw [PyData.canLay0]; exact h, by rw [PyData.depth]; exact Nat.zero_le _⟩
theorem Gd.shaped {n : Nat} {d : PyData} (h : Gd n d) (e : n ≤ 64) : SeqAt.shaped d = true := by
  unfold SeqAt.shaped
  rw [h.1, decide_eq_true (Nat.le_trans h.2 e)]
  rfl
theorem gd_nil {n : Nat} : ∀ d ∈ ([] : List PyData), Gd n d := fun d h => absurd h (by simp)
theorem gd_cons {n : Nat} {d : PyData} {ds : List PyData} (h : Gd n d) (hs : ∀ e ∈ ds, Gd n e) : ∀ e ∈ d :: ds, Gd n e := fun e he => by
  rcases List.mem_cons.mp he with z | z
  · rw [z]; exact h
  · exact hs e z
theorem Gd.eqv {n : Nat} {d : PyData} (h : Gd n d) : PyData.eqv d d = true := PySem.SeqAt.eqv_refl d h.1
structure OneAt (pm : Value) (C : Addr) (H : Hp) (r : Rec) (x : Str) (m : Nat) : Prop where
  hd : H r.d = some (.dK (kv r x m))
  tx : PyData.strOk x = true
  st : ∃ ans ss, StAt pm C H r.p r.dx r.f r.an r.co r.se r.st x m ans (rngV 0 m) ss ∧ ss.length = m
/-- what is written of it; what it reads -/
def Rec.ws (r : Rec) : List Addr := [r.d, r.p, r.co, r.se]
def Rec.rs (r : Rec) : List Addr := [r.d, r.p, r.co, r.se, r.an, r.st]
theorem OneAt.mv {pm : Value} {C : Addr} {H H' : Hp} {r : Rec} {x : Str} {m : Nat} (h : OneAt pm C H r x m) (k : ∀ b o, H b = some o → (b ∈ r.rs ∨ ∃ φ, o = .ext φ) → H' b = some o) : OneAt pm C H' r x m := by
  obtain ⟨hd, tx, ans, ss, S, l⟩ := h
  have kr : ∀ b o, b ∈ r.rs → H b = some o → H' b = some o := fun b o hb e => k b o e (.inl hb)
  exact ⟨kr _ _ (by simp [Rec.rs]) hd, tx, ans, ss, ⟨kr _ _ (by simp [Rec.rs]) S.hp, S.fa.mv fun b φ e => k _ _ e (.inr ⟨φ, rfl⟩), kr _ _ (by simp [Rec.rs]) S.ha, kr _ _ (by simp [Rec.rs]) S.hc, kr _ _ (by simp [Rec.rs]) S.hs, kr _ _ (by simp [Rec.rs]) S.ht, S.n1, S.n2, S.n3, S.n4, S.n5, S.la, S.l2, S.ok⟩, l⟩
theorem OneAt.same {pm : Value} {C : Addr} {H H' : Hp} {r : Rec} {x : Str} {m : Nat} (e : Same H H') (h : OneAt pm C H r x m) : OneAt pm C H' r x m := h.mv fun b o z _ => e b o z
theorem rng_snoc (m : Nat) : rngV 0 (m + 1) = rngV 0 m ++ [.int (0 + (m : Int))] := by
  unfold rngV
  rw [List.range_succ, List.map_append]
  rfl
def spGoes (pm : Value) (C : Addr) : Sp := fun vs H Q _ => ∃ (r : Rec) (x y : Str) (m : Nat), vs = [.ref r.d, .str y] ∧ OneAt pm C H r x m ∧ m ≤ 100 ∧ x.length ≤ 10000 ∧ y.length ≤ 31 ∧ PyData.strOk y = true ∧
  ∀ x' H', (∀ b o, H b = some o → b ∉ r.ws → H' b = some o) → OneAt pm C H' r x' (m + 1) → x'.length ≤ x.length + 31 → Q (.bl true) H'
theorem newT_ok {x y : Str} (hx : PyData.strOk x = true) (hy : PyData.strOk y = true) (a : V) : PyData.strOk (newT x y a) = true := by
  unfold newT
  split
  · exact tx_cat hx (tx_cut _ _ hy)
  · exact tx_cat hx hy
theorem newT_le (x y : Str) (a : V) : (newT x y a).length ≤ x.length + y.length := by
  unfold newT
  split
  · rw [cat_len]
    rename_i i
    have := Txt.slice_le y none (some (if i > 0 then i else 0))
    unfold cutT
    omega
  · rw [cat_len]
    exact Nat.le_refl _
section
variable {P : Program} {w : World} {K : PySem.W.Frag} {mg : Str → Option Value} {base : Heap}
theorem scGoes : FnScope ["_law_one", "_law_text_here", "_law_answer", "_law_due", "_law_more"] ["_law_one", "_law_text_here"] (defScope sGoes) := ⟨rfl, rfl, rfl, by decide +kernel, rfl, by decide +kernel, by decide +kernel⟩
theorem ok_goesR {f C fW : Addr} {fdW : FuncData} {pm : Value} (G : Gb mg) (GW : FnOk P w K mg base CX0 4 fW fdW ["_law_store", "_law_text_here"] (spWroteF pm C)) (kW : keepIn K (.ref fW) = true) (bW : Binds K fdW ["_law_store", "_law_text_here"] []) (mW : mg "_law_wrote" = some (.ref fW))
    {cdv : Value} {A : Around} {outer : List Env} {s : Shared} {H : Hp} {E : XK} (hr : Room 4 (A.deeper (PyProof.Rows.envOfC "_law_goes" (defScope sGoes) s.heap.objs.size f cdv))) :
    ∃ t, PSs (cxOf CX0 P w K mg base ["_law_one", "_law_text_here", "_law_answer", "_law_due", "_law_more"] "_law_goes" (defScope sGoes) f cdv A outer s H E).nox ((defBody sGoes).drop 4) t ∧ ∀ (D : Ends) (r : Rec) (x y mo : Str) (m : Nat) (ans ss : List V) (a : V) (G0 : Hp),
      G0 r.d = some (.dK (kv r x m)) → PyData.strOk x = true → PyData.strOk y = true → StAt pm C G0 r.p r.dx r.f r.an r.co r.se r.st x m ans (rngV 0 m) ss → ss.length = m → m ≤ 100 → x.length ≤ 10000 → y.length ≤ 31 → atI ans ((m : Int) % (ans.length : Int)) = some a → AnsOk a → x ++ mo = newT x y a → mo.length ≤ y.length →
      (∀ x' H', (∀ b o, G0 b = some o → b ∉ r.ws → H' b = some o) → OneAt pm C H' r x' (m + 1) → x'.length ≤ x.length + 31 → D.rt (.bl true) H') → t D [some (.ref r.d), some (.str y), some a, some (.str (wordOf a)), some (.str mo)] G0 := by
  have hu := hu_of hr
  refine ⟨_, pss_cons (ps_if (PW.pt (pw_or (pt_cmpR op_ne (pe_call GW hr rfl mW kW bW .nil pass0 (pa_cons (pe_dget hu (pv 0) pe_str (fun _ _ => rfl)) (pa_cons (pv 1) pa_nil))) (pv 3) (nomark _)) (pw_or1 (pt_cmpR (op_neD hr.units) (pe_dget hu (pv 0) pe_str (fun _ _ => rfl)) (pe_callTy (call_listR rfl) (by rfl) G.list boot_l (pa_cons (pe_callTy call_rng1 (by rfl) G.range PyProof.Rows.boot_range (pa_cons (pe_op op_add (pe_dget hu (pv 0) pe_str (fun _ _ => rfl)) pe_int) pa_nil)) pa_nil)) (nomark _))))) pss_never pss_nil)
      (pss_cons (ps_if (pt_cmpR op_ne (pe_ix ix_list (pe_dget hu (pv 0) pe_str (fun _ _ => rfl)) (pe_un un_neg pe_int) (fun _ _ => rfl)) (pe_dget hu (pv 0) pe_str (fun _ _ => rfl)) (nomark _)) pss_never pss_nil)
      (pss_cons (ps_dput hu (pv 0) pe_str (pe_op op_add_str (pe_dget hu (pv 0) pe_str (fun _ _ => rfl)) (pv 4)) rfl)
      (pss_cons (ps_dput hu (pv 0) pe_str (pe_op op_add (pe_dget hu (pv 0) pe_str (fun _ _ => rfl)) pe_int) rfl)
      (pss_one (ps_ret pe_bl))))), ?_⟩
  intro D r x y mo m ans ss a G0 hd tx ty S lss lm lx ly ea oka emo lmo t
  have sl : sizeLine = 16777216 := sizeLine_eq
  have l0 : (rngV 0 m).length ≤ 1000 := by rw [rngV_len]; omega
  refine ⟨_, rfl, r.d, _, rfl, dg hd kv_store, _, rfl, r.p, r.dx, r.f, r.an, r.co, r.se, r.st, x, y, m, ans, rngV 0 m, ss, a, rfl, S, l0, by omega, by omega, ea, oka, fun H1 H2 hw s2 => ?_⟩
  obtain ⟨k1, p1, c1, s1⟩ := hw
  have ndp : r.d ≠ r.p := ne_of hd S.hp (by intro z; cases z)
  have ndc : r.d ≠ r.co := ne_of hd S.hc (by intro z; cases z)
  have nds : r.d ≠ r.se := ne_of hd S.hs (by intro z; cases z)
  have hd2 := s2 _ _ (k1 _ _ hd ndp ndc nds)
  have c2 := s2 _ _ c1
  have se2 := s2 _ _ s1
  refine ⟨_, rfl, rfl, _, rfl, iteNS rfl ?_⟩
  refine ⟨_, rfl, r.d, _, rfl, dg hd2 kv_counts, _, rfl, r.d, _, rfl, dg hd2 kv_many, _, _, rfl, rfl, _, rfl, fun r3 n3 => ?_⟩
  have s3 : Same H2 (upd H2 r3 (.rng 0 ((m : Int) + 1))) := same_upd n3
  have e3 : (upd H2 r3 (.rng 0 ((m : Int) + 1))) r3 = some (.rng 0 ((m : Int) + 1)) := upd_same
  generalize upd H2 r3 (.rng 0 ((m : Int) + 1)) = H3 at s3 e3 ⊢
  refine ⟨r3, 0, (m : Int) + 1, rfl, e3, ⟨by decide, by decide, by omega, by omega⟩, by omega, fun r4 n4 => ?_⟩
  have ern : rngV 0 ((m : Int) + 1 - 0).toNat = rngV 0 m ++ [.int (m : Int)] := by
    rw [show ((m : Int) + 1 - 0).toNat = m + 1 by omega, rng_snoc, Int.zero_add]
  rw [ern]
  have s4 : Same H3 (upd H3 r4 (.lst (rngV 0 m ++ [.int (m : Int)]))) := same_upd n4
  have e4 : (upd H3 r4 (.lst (rngV 0 m ++ [.int (m : Int)]))) r4 = some (.lst (rngV 0 m ++ [.int (m : Int)])) := upd_same
  generalize upd H3 r4 (.lst (rngV 0 m ++ [.int (m : Int)])) = H4 at s4 e4 ⊢
  have s24 := s3.trans s4
  have gd : Gd 1 (.list (((List.range (m + 1)).map fun (k : Nat) => (0 : Int) + (k : Int)).map PyData.int)) := by
    refine Gd.lst (n := 0) fun d hd' => ?_
    obtain ⟨i, _, rfl⟩ := List.mem_map.mp hd'
    exact Gd.int i
  have rds : ∀ G1 : Hp, RdVs K G1 (rngV 0 m ++ [.int (m : Int)]) (((List.range (m + 1)).map fun (k : Nat) => (0 : Int) + (k : Int)).map PyData.int) := fun G1 => by
    rw [← Int.zero_add (m : Int), ← rng_snoc]
    unfold rngV
    exact rd_ints _
  refine ⟨_, _, .lst (SqL.of (s24 _ _ c2)) (rds _), .lst (SqL.of e4) (rds _), gd.shaped (by decide), gd.shaped (by decide), _, rfl, ?_⟩
  rw [gd.eqv]
  refine iteF ?_
  have hd4 := s24 _ _ hd2
  have se4 := s24 _ _ se2
  refine ⟨_, rfl, r.d, _, rfl, dg hd4 kv_seen, _, rfl, r.se, _, _, _, rfl, rfl, SqL.of se4, atI_last, _, rfl, r.d, _, rfl, dg hd4 kv_text, rfl, _, rfl, iteNS rfl ?_⟩
  have lk : ∀ {x : Str} {m : Int}, (kv r x m).length < sizeLine := by
    intro x m
    show 6 < _
    omega
  refine ⟨_, rfl, r.d, _, rfl, dg hd4 kv_text, _, rfl, _, _, rfl, rfl, by omega, _, rfl, r.d, _, rfl, DPut.k (k := (Sum.inr "text" : Key)) hd4 lk, ?_⟩
  rw [kv_ptext, emo]
  refine ⟨_, rfl, r.d, _, rfl, dg upd_same kv_many, _, _, rfl, rfl, _, rfl, r.d, _, rfl, DPut.k (k := (Sum.inr "many" : Key)) upd_same lk, ?_⟩
  rw [kv_pmany, upd_upd]
  have kf : ∀ b o, H1 b = some o → b ≠ r.d → (upd H4 r.d (.dK (kv r (newT x y a) ((m : Int) + 1)))) b = some o := fun b o e n => by
    rw [upd_ne n]
    exact s24 _ _ (s2 _ _ e)
  have k0 : ∀ b o, G0 b = some o → b ∉ r.ws → (upd H4 r.d (.dK (kv r (newT x y a) ((m : Int) + 1)))) b = some o := fun b o e n => by
    have n' : b ≠ r.d ∧ b ≠ r.p ∧ b ≠ r.co ∧ b ≠ r.se := by simpa [Rec.ws] using n
    exact kf _ _ (k1 b o e n'.2.1 n'.2.2.1 n'.2.2.2) n'.1
  have nots : ∀ {b : Addr} {l : List V}, G0 b = some (.lst l) → b ≠ r.co → b ≠ r.se → b ∉ r.ws := fun {b l} e n1 n2 h => by
    have : b = r.d ∨ b = r.p ∨ b = r.co ∨ b = r.se := by simpa [Rec.ws] using h
    rcases this with z | z | z | z
    · rw [z, hd] at e; cases e
    · rw [z, S.hp] at e; cases e
    · exact n1 z
    · exact n2 z
  refine t _ _ k0 ⟨upd_same, newT_ok tx ty a, ans, ss ++ [.str x], ⟨?_, S.fa.mv fun b φ e => k0 _ _ e fun h => ?_, k0 _ _ S.ha (nots S.ha S.n2 S.n3), by rw [rng_snoc, Int.zero_add]; exact kf _ _ c1 ndc.symm, kf _ _ s1 nds.symm, k0 _ _ S.ht (nots S.ht S.n4 S.n5), S.n1, S.n2, S.n3, S.n4, S.n5, S.la, S.l2, S.ok⟩, by rw [List.length_append, lss]; rfl⟩ (Nat.le_trans (newT_le x y a) (by omega))
  · exact kf _ _ p1 ndp.symm
  · have : b = r.d ∨ b = r.p ∨ b = r.co ∨ b = r.se := by simpa [Rec.ws] using h
    rcases this with z | z | z | z
    · rw [z, hd] at e; cases e
    · rw [z, S.hp] at e; cases e
    · rw [z, S.hc] at e; cases e
    · rw [z, S.hs] at e; cases e
theorem ok_goes {f C fW : Addr} {fd fdW : FuncData} {pm : Value} (F : Fun K "_law_goes" "_law_goes" sGoes f fd) (G : Gb mg) (GW : FnOk P w K mg base CX0 4 fW fdW ["_law_store", "_law_text_here"] (spWroteF pm C)) (kW : keepIn K (.ref fW) = true) (bW : Binds K fdW ["_law_store", "_law_text_here"] []) (mW : mg "_law_wrote" = some (.ref fW)) :
    FnOk P w K mg base CX0 5 f fd ["_law_one", "_law_text_here"] (spGoes pm C) := by
  refine F.ok scGoes (fun vs H Q E h => ?_) (fun cdv A outer s H vs Q E hr h => ?_)
  · obtain ⟨r, x, y, m, rfl, _⟩ := h
    rfl
  · obtain ⟨r, x, y, m, rfl, O, lm, lx, ly, ty, t⟩ := h
    have hu := hu_of hr
    obtain ⟨tR, pR, hR⟩ := ok_goesR (f := f) (cdv := cdv) (A := A) (outer := outer) (s := s) (H := H) (E := E) G GW kW bW mW hr
    refine ⟨_, pss_cons (ps_set (i := 2) scGoes.nd rfl (Or.inl rfl) (pe_ix ix_list (pe_dget hu (pv 0) pe_str (fun _ _ => rfl)) (pe_op op_mod (pe_dget hu (pv 0) pe_str (fun _ _ => rfl)) (pe_callB call_len_seq (by rfl) G.len PySem.boot_len (pa_cons (pe_dget hu (pv 0) pe_str (fun _ _ => rfl)) pa_nil))) (fun _ _ => rfl)))
      (pss_cons (ps_set (i := 3) scGoes.nd rfl (Or.inl rfl) pe_str) (pss_cons (ps_set (i := 4) scGoes.nd rfl (Or.inl rfl) (pv 1))
      (pss_cons (ps_if (pt_cmpR op_notN (pv 2) pe_non (nomark _)) (pss_cons (ps_set (i := 3) scGoes.nd rfl (Or.inl rfl) pe_str) (pss_one (ps_set (i := 4) scGoes.nd rfl (Or.inl rfl) (pe_slice sl_str (pv 1) po_none (po_some (pe_callB (call_max2 rfl) (by rfl) G.max boot_mx (pa_cons pe_int (pa_cons (pv 2) pa_nil)))))))) pss_nil) pR))), ?_⟩
    have sl : sizeLine = 16777216 := sizeLine_eq
    obtain ⟨hd, tx, ans, ss, S, lss⟩ := id O
    have pos : (0 : Int) < ((ans.length : Nat) : Int) := by have := S.la; omega
    obtain ⟨k, hk⟩ := Int.eq_ofNat_of_zero_le (Int.emod_nonneg (m : Int) (Int.ne_of_gt pos))
    have hk2 : k < ans.length := by
      have := Int.emod_lt_of_pos (m : Int) pos
      omega
    have ea : atI ans ((m : Int) % ((ans.length : Nat) : Int)) = some ans[k] := by
      rw [hk]
      exact atI_nat (List.getElem?_eq_getElem hk2)
    have oka := S.ok _ (List.getElem_mem hk2)
    generalize ans[k] = a at ea oka
    refine ⟨_, rfl, r.d, _, rfl, dg hd kv_answers, _, rfl, r.d, _, rfl, dg hd kv_many, _, rfl, r.d, _, rfl, dg hd kv_answers, r.an, _, rfl, .inl (SqL.of S.ha), _, _, rfl, rfl, pos, r.an, ans, _, a, rfl, rfl, SqL.of S.ha, ea, ?_⟩
    refine ⟨_, rfl, ?_⟩
    rcases id oka with rfl | ⟨i, rfl⟩
    · refine ⟨_, rfl, rfl, _, rfl, iteF ?_⟩
      exact hR _ r x y y m ans ss .non H hd tx ty S lss lm lx ly ea oka rfl (Nat.le_refl _) t
    · refine ⟨_, rfl, rfl, _, rfl, iteT ?_⟩
      refine ⟨_, rfl, _, rfl, _, _, rfl, _, rfl, y, rfl, by omega, ?_⟩
      exact hR _ r x y (cutT y i) m ans ss (.int i) H hd tx ty S lss lm lx ly ea oka rfl (Txt.slice_le y none (some (if i > 0 then i else 0))) t
end
end Lv

set_option maxHeartbeats 4000000
namespace Lv
open PySem L2 PySem.W
theorem atI_mem {l : List V} {i : Int} (h0 : 0 ≤ i) (h1 : i < l.length) : ∃ v ∈ l, atI l i = some v := by
  obtain ⟨k, rfl⟩ := Int.eq_ofNat_of_zero_le h0
  have hk : k < l.length := by omega
  exact ⟨l[k], List.getElem_mem hk, atI_nat (List.getElem?_eq_getElem hk)⟩
theorem mk_same {H : Hp} {x dx C : Addr} (nx : H x = none) (ndx : H dx = none) : Same H (upd (upd H dx (.own x)) x (.ins C dx [])) := fun b o e => by
  rw [upd_ne (ne_of_none e nx), upd_ne (ne_of_none e ndx)]
  exact e
def Tabby (o : HO) : Prop := (∃ ps, o = .tbl ps) ∨ ∃ c q, o = codeO c q
theorem _root_.L2.Tab.mv {H H' : Hp} {T : Addr} {pos : Pos} {q : Str} (t : Tab H T pos q) (f : ∀ b o, H b = some o → Tabby o → H' b = some o) : Tab H' T pos q := by
  obtain ⟨ps, e, ht, hc⟩ := t
  refine ⟨ps, f _ _ e (.inl ⟨ps, rfl⟩), ht, ?_⟩
  rcases hc with z | ⟨c', z, hC⟩
  · exact .inl z
  · exact .inr ⟨c', z, f _ _ hC (.inr ⟨_, _, rfl⟩)⟩
theorem Tabby.lst {o : HO} {l : List V} (h : Tabby o) : o ≠ .lst l := by
  rcases h with ⟨ps, rfl⟩ | ⟨c, q, rfl⟩ <;> intro z <;> cases z
theorem OneAt.has {pm : Value} {C : Addr} {H : Hp} {r : Rec} {x : Str} {m : Nat} (h : OneAt pm C H r x m) : ∀ a ∈ r.rs, ∃ o, H a = some o ∧ (∀ φ, o ≠ .ext φ) ∧ ∀ ps, o ≠ .tbl ps := by
  obtain ⟨hd, _, ans, ss, S, l⟩ := h
  have L : ∀ {a : Addr} {l : List V}, H a = some (.lst l) → ∃ o, H a = some o ∧ (∀ φ, o ≠ .ext φ) ∧ ∀ ps, o ≠ .tbl ps := fun e => ⟨_, e, by (intro _ z; cases z), by (intro _ z; cases z)⟩
  exact all_cons ⟨_, hd, by (intro _ z; cases z), by (intro _ z; cases z)⟩ (all_cons ⟨_, S.hp, by (intro _ z; cases z), by (intro _ z; cases z)⟩ (all_cons (L S.hc) (all_cons (L S.hs) (all_cons (L S.ha) (all_cons (L S.ht) all_nil)))))
def spMade (pm : Value) (C T : Addr) : Sp := fun vs H Q _ => ∃ (w : Addr), vs = [.ref w] ∧ Wl H w ∧ Tab H T hPos hQual ∧
  ∀ (r : Rec) (H' : Hp), (∀ b o, H b = some o → b ≠ w → b ≠ T → H' b = some o) → Wl H' w → Tab H' T hPos hQual → OneAt pm C H' r "" 0 → (∀ a ∈ r.rs, H a = none ∧ a ≠ w) → Q (.ref r.d) H'
section
variable {P : Program} {w : World} {K : PySem.W.Frag} {mg : Str → Option Value} {base : Heap}
theorem scMade : FnScope ["_law_tape_here", "_law_many", "_law_answers", "_law_k", "_law_counts", "_law_seen", "_law_held", "_law_store"] ["_law_tape_here"] (defScope sMade) := ⟨rfl, rfl, rfl, by decide +kernel, rfl, by decide +kernel, by decide +kernel⟩
theorem ok_made {f C T fD fI fF : Addr} {fd fdD fdI fdF : FuncData} {pm : Value} (F : Fun K "_law_made" "_law_made" sMade f fd) (G : Gb mg) (TS : Sl K mg C) (GD : FnOk P w K mg base CX0 2 fD fdD ["_law_tape_here", "_law_many"] spTake) (kD : keepIn K (.ref fD) = true) (bD : Binds K fdD ["_law_tape_here", "_law_many"] []) (mD : mg "_law_take" = some (.ref fD))
    (GI : FnOk P w K mg base CX0 1 fI fdI ["self", "fall"] (spInit C)) (bI : Binds K fdI ["self", "fall"] []) (MK : Mk K C fI)
    (GF : FnOk P w K mg base CX0 2 fF fdF ["_law_answers", "_law_counts", "_law_seen", "_law_store"] (spFall pm T)) (kF : keepIn K (.ref fF) = true) (bF : Binds K fdF ["_law_answers", "_law_counts", "_law_seen", "_law_store"] []) (mF : mg "_law_fall" = some (.ref fF)) :
    FnOk P w K mg base CX0 3 f fd ["_law_tape_here"] (spMade pm C T) := by
  refine F.ok scMade (fun vs H Q E h => ?_) (fun cdv A outer s H vs Q E hr h => ?_)
  · obtain ⟨w', rfl, _⟩ := h
    rfl
  · obtain ⟨w', rfl, hw, tb, t⟩ := h
    refine ⟨_, pss_cons (ps_set (i := 1) scMade.nd rfl (Or.inl rfl) (pe_op op_add pe_int (pe_call GD hr rfl mD kD bD .nil pass0 (pa_cons (pv 0) (pa_cons pe_int pa_nil)))))
      (pss_cons (ps_set (i := 2) scMade.nd rfl (Or.inl rfl) (pe_lst pa_nil))
      (pss_cons (ps_for PassesOwn.never rfl (pi_range1 rfl G.range (pa_cons (pv 1) pa_nil)) (pg_name (i := 3) scMade.nd rfl (Or.inl rfl))
        (pss_one (ps_expr (pe_bm PySem.F.plainAttrs_list PySem.F.slot_list_append PySem.F.type_list_append mt_append (pv 2) (pa_cons (PEc.h (pek_ix ix_list (pe_lstk (pcc pe_non (pcc pe_non (pcc pe_int (pcc (pe_un un_neg pe_int) (pcc (pe_call GD hr rfl mD kD bD .nil pass0 (pa_cons (pv 0) (pa_cons pe_int pa_nil))) (pcc (pe_op op_pow pe_int pe_int) (pcc (pe_op op_sub pe_int (pe_op op_pow pe_int pe_int)) pcn))))))))
          (pe_call GD hr rfl mD kD bD .nil pass0 (pa_cons (pv 0) (pa_cons pe_int pa_nil))) (fun _ _ => rfl))) pa_nil)))))
      (pss_cons (ps_set (i := 4) scMade.nd rfl (Or.inl rfl) (pe_lst pa_nil)) (pss_cons (ps_set (i := 5) scMade.nd rfl (Or.inl rfl) (pe_lst pa_nil)) (pss_cons (ps_set (i := 6) scMade.nd rfl (Or.inl rfl) (pe_lst pa_nil))
      (pss_cons (ps_set (i := 7) scMade.nd rfl (Or.inl rfl) (pe_make MK GI hr rfl TS.mgC bI .nil pass0 (pa_cons (pe_call GF hr rfl mF kF bF .nil pass0 (pa_cons (pv 2) (pa_cons (pv 4) (pa_cons (pv 5) (pa_cons (pv 6) pa_nil))))) pa_nil)))
      (pss_cons (ps_expr (pe_bm PySem.F.plainAttrs_list PySem.F.slot_list_append PySem.F.type_list_append mt_append (pv 6) (pa_cons (pv 7) pa_nil)))
      (pss_one (ps_ret (pe_disp (pps_cons pe_str (pv 7) (pps_cons pe_str (pv 2) (pps_cons pe_str (pv 4) (pps_cons pe_str (pv 5) (pps_cons pe_str pe_str (pps_cons pe_str pe_int pps_nil)))))) rfl rfl (by intro z; cases z) (by decide))))))))))), ?_⟩
    have sl : sizeLine = 16777216 := sizeLine_eq
    have pw17 : CPow 10 17 := ⟨by decide, by decide, by decide⟩
    refine ⟨_, rfl, w', 6, rfl, hw, by decide, by decide, fun r1 H1 k1 a1 b1 => ?_⟩
    refine ⟨_, _, rfl, rfl, ?_⟩
    refine ⟨Nat.zero_le _, fun an nan => ?_⟩
    have na : an ≠ w' := (k1.wl.ne nan).symm
    have han : H an = none := k1.fresh na nan
    have kA : Kp w' H (upd H1 an (.lst [])) := k1.upd na han
    have eA : (upd H1 an (.lst [])) an = some (.lst []) := upd_same
    generalize upd H1 an (.lst []) = H2 at kA eA ⊢
    -- the answers
    refine ⟨_, rfl, 1 + r1, rfl, by omega, by omega, for_range (lo := 0) (n := (1 + r1).toNat) (fun i σ G => ∃ xs o3, σ = [some (.ref w'), some (.int (1 + r1)), some (.ref an), o3, none, none, none, none] ∧ G an = some (.lst xs) ∧ xs.length = i ∧ (∀ v ∈ xs, AnsOk v) ∧ Kp w' H G) ⟨[], none, rfl, eA, rfl, all_nil, kA⟩ ?_ ?_⟩
    · rintro i σ G3 hi ⟨xs, o3, rfl, e3, l3, ok3, k3⟩
      refine gName_in ?_
      refine ⟨_, rfl, .inl ⟨rfl, _, SqL.of e3⟩, _, rfl, _, rfl, w', 33, rfl, k3.wl, by decide, by decide, fun r4 H4 k4 a4 b4 => ?_⟩
      refine ⟨_, _, rfl, rfl, pw17, _, _, rfl, rfl, pw17, _, _, rfl, rfl, by show 7 ≤ sizeLine; decide, fun l5 n5 => ?_⟩
      have nl : l5 ≠ w' := (k4.wl.ne n5).symm
      have al : ∀ v ∈ [V.non, .non, .int 0, .int (-1), .int r4, .int (10 ^ (17 : Int).toNat), .int (0 - 10 ^ (17 : Int).toNat)], AnsOk v := all_cons (.inl rfl) (all_cons (.inl rfl) (all_cons (.inr ⟨_, rfl⟩) (all_cons (.inr ⟨_, rfl⟩) (all_cons (.inr ⟨_, rfl⟩) (all_cons (.inr ⟨_, rfl⟩) (all_cons (.inr ⟨_, rfl⟩) all_nil))))))
      have l7 : [V.non, .non, .int 0, .int (-1), .int r4, .int (10 ^ (17 : Int).toNat), .int (0 - 10 ^ (17 : Int).toNat)].length = 7 := rfl
      have kB : Kp w' H (upd H4 l5 (.lst [V.non, .non, .int 0, .int (-1), .int r4, .int (10 ^ (17 : Int).toNat), .int (0 - 10 ^ (17 : Int).toNat)])) := (k3.trans k4).same (same_upd n5)
      have e5 : (upd H4 l5 (.lst [V.non, .non, .int 0, .int (-1), .int r4, .int (10 ^ (17 : Int).toNat), .int (0 - 10 ^ (17 : Int).toNat)])) l5 = some (.lst [V.non, .non, .int 0, .int (-1), .int r4, .int (10 ^ (17 : Int).toNat), .int (0 - 10 ^ (17 : Int).toNat)]) := upd_same
      have e3' : (upd H4 l5 (.lst [V.non, .non, .int 0, .int (-1), .int r4, .int (10 ^ (17 : Int).toNat), .int (0 - 10 ^ (17 : Int).toNat)])) an = some (.lst xs) := same_upd n5 _ _ (k4.at_ _ _ na e3)
      generalize upd H4 l5 (.lst [V.non, .non, .int 0, .int (-1), .int r4, .int (10 ^ (17 : Int).toNat), .int (0 - 10 ^ (17 : Int).toNat)]) = H5 at kB e5 e3' ⊢
      generalize [V.non, .non, .int 0, .int (-1), .int r4, .int (10 ^ (17 : Int).toNat), .int (0 - 10 ^ (17 : Int).toNat)] = odd at e5 al l7
      refine ⟨_, rfl, w', 7, rfl, kB.wl, by decide, by decide, fun r6 H6 k6 a6 b6 => ?_⟩
      obtain ⟨v, hv, ev⟩ := atI_mem (l := odd) (i := r6) a6 (by rw [l7]; exact b6)
      have e6 := k6.at_ _ _ na e3'
      refine ⟨l5, _, _, v, rfl, rfl, SqL.of (k6.at_ _ _ nl e5), ev, an, xs, v, rfl, rfl, e6, by omega, ?_⟩
      exact ⟨xs ++ [v], _, rfl, upd_same, by rw [List.length_append, l3]; rfl, fun u hu => (List.mem_append.mp hu).elim (ok3 u) fun z => by rw [List.mem_singleton.mp z]; exact al v hv, (kB.trans k6).upd na han⟩
    rintro σ G3 ⟨ans, o3, rfl, e3, l3, ok3, k3⟩
    -- the lists
    refine ⟨Nat.zero_le _, fun co nco => ?_⟩
    have s4 : Same G3 (upd G3 co (.lst [])) := same_upd nco
    have c4 : (upd G3 co (.lst [])) co = some (.lst []) := upd_same
    generalize upd G3 co (.lst []) = G4 at s4 c4 ⊢
    refine ⟨Nat.zero_le _, fun se nse => ?_⟩
    have s5 : Same G4 (upd G4 se (.lst [])) := same_upd nse
    have c5 : (upd G4 se (.lst [])) se = some (.lst []) := upd_same
    generalize upd G4 se (.lst []) = G5 at s5 c5 ⊢
    refine ⟨Nat.zero_le _, fun st nst => ?_⟩
    have s6 : Same G5 (upd G5 st (.lst [])) := same_upd nst
    have c6 : (upd G5 st (.lst [])) st = some (.lst []) := upd_same
    generalize upd G5 st (.lst []) = G6 at s6 c6 ⊢
    have k6 : Kp w' H G6 := k3.same (s4.trans (s5.trans s6))
    have notW : ∀ {b : Addr} {o : HO}, H b = some o → Tabby o → b ≠ w' := fun e hb z => by
      obtain ⟨a, b', c, hw'⟩ := hw
      rw [z, hw'] at e
      exact hb.lst (Option.some.inj e).symm
    have tb6 : Tab G6 T hPos hQual := tb.mv fun b o e hb => k6.at_ _ _ (notW e hb) e
    have fr : ∀ {b : Addr}, G6 b = none → H b = none := fun {b} e => by
      cases q : H b with
      | none => rfl
      | some o =>
        by_cases z : b = w'
        · subst z
          exact absurd rfl (k6.wl.ne e)
        · rw [k6.at_ b o z q] at e
          cases e
    -- the fall
    refine ⟨_, rfl, _, rfl, _, rfl, _, rfl, an, co, se, st, rfl, tb6, fun f' G7 k7 nf tb7 fa7 => ?_⟩
    have nT : ∀ {b : Addr} {l : List V}, G6 b = some (.lst l) → b ≠ T := fun e z => by
      obtain ⟨qs, g, _⟩ := tb6
      rw [z, g] at e
      cases e
    have k67 : ∀ {b : Addr} {l : List V}, G6 b = some (.lst l) → G7 b = some (.lst l) := fun e => k7 _ _ (nT e) e
    have an6 : G6 an = some (.lst ans) := s6 _ _ (s5 _ _ (s4 _ _ e3))
    have co6 : G6 co = some (.lst []) := s6 _ _ (s5 _ _ c4)
    have se6 : G6 se = some (.lst []) := s6 _ _ c5
    -- the store
    refine fun p dx np ndx ne => ?_
    have s8 := mk_same (C := C) np ndx
    have e8 : (upd (upd G7 dx (.own p)) p (.ins C dx [])) p = some (.ins C dx []) := upd_same
    generalize upd (upd G7 dx (.own p)) p (.ins C dx []) = G8 at s8 e8 ⊢
    refine ⟨p, dx, .ref f', rfl, e8, rfl, ?_⟩
    have k9 : ∀ b o, G7 b = some o → (upd G8 p (.ins C dx (sf (.ref f') "" 0))) b = some o := fun b o e => by
      rw [upd_ne (ne_of_none e np)]
      exact s8 _ _ e
    have e9 : (upd G8 p (.ins C dx (sf (.ref f') "" 0))) p = some (.ins C dx (sf (.ref f') "" 0)) := upd_same
    generalize upd G8 p (.ins C dx (sf (.ref f') "" 0)) = G9 at k9 e9 ⊢
    have st9 := k9 _ _ (k67 c6)
    refine ⟨_, rfl, .inl ⟨rfl, _, SqL.of st9⟩, _, rfl, st, [], .ref p, rfl, rfl, st9, by show 0 < sizeLine; decide, ?_⟩
    have nps : p ≠ st := ne_of e9 st9 (by intro z; cases z)
    have n1 : co ≠ se := ne_of_none c4 nse
    have n2 : an ≠ co := ne_of_none e3 nco
    have n3 : an ≠ se := ne_of_none (s4 _ _ e3) nse
    have n4 : st ≠ co := (ne_of_none (s5 _ _ c4) nst).symm
    have n5 : st ≠ se := (ne_of_none c5 nst).symm
    have n6 : an ≠ st := ne_of_none (s5 _ _ (s4 _ _ e3)) nst
    have k10 : ∀ b o, G9 b = some o → b ≠ st → (upd G9 st (.lst ([] ++ [.ref p]))) b = some o := fun b o e n => by
      rw [upd_ne n]
      exact e
    have e10 : (upd G9 st (.lst ([] ++ [.ref p]))) st = some (.lst [.ref p]) := upd_same
    generalize upd G9 st (.lst ([] ++ [.ref p])) = G10 at k10 e10 ⊢
    refine fun d nd => ⟨_, rfl, _, rfl, _, rfl, _, rfl, upd_same, kv ⟨d, p, dx, f', an, co, se, st⟩ "" 0, rfl, by show 6 ≤ 15; decide, ?_⟩
    rw [kv_new, upd_upd]
    have s11 : Same G10 (upd G10 d (.dK (kv ⟨d, p, dx, f', an, co, se, st⟩ "" 0))) := same_upd nd
    have kk : ∀ b o, G6 b = some o → b ≠ T → b ≠ st → (upd G10 d (.dK (kv ⟨d, p, dx, f', an, co, se, st⟩ "" 0))) b = some o := fun b o e h1 h2 => s11 _ _ (k10 _ _ (k9 _ _ (k7 _ _ h1 e)) h2)
    have kc := k3.same s4
    have ks := k3.same (s4.trans s5)
    have wco : co ≠ w' := (k3.wl.ne nco).symm
    have wse : se ≠ w' := (kc.wl.ne nse).symm
    have wst : st ≠ w' := (ks.wl.ne nst).symm
    have hco : H co = none := k3.fresh wco nco
    have hse : H se = none := kc.fresh wse nse
    have hst : H st = none := ks.fresh wst nst
    have w7 : Wl G7 w' := by
      obtain ⟨a, b, c, z⟩ := k6.wl
      exact ⟨a, b, c, k67 z⟩
    have fr7 : ∀ {b : Addr}, G7 b = none → H b = none ∧ b ≠ w' := fun {b} e => by
      have nw : b ≠ w' := (w7.ne e).symm
      refine ⟨?_, nw⟩
      cases q : H b with
      | none => rfl
      | some o =>
        by_cases z : b = T
        · obtain ⟨qs, g, _⟩ := tb7
          rw [z, g] at e
          cases e
        · rw [k7 b o z (k6.at_ b o nw q)] at e
          cases e
    have d7 : G7 d = none := by
      cases q : G7 d with
      | none => rfl
      | some o =>
        by_cases z : d = st
        · rw [z, e10] at nd
          cases nd
        · rw [k10 _ _ (k9 _ _ q) z] at nd
          cases nd
    have wT : w' ≠ T := by
      obtain ⟨a, b, c, z⟩ := k6.wl
      exact nT z
    refine t ⟨d, p, dx, f', an, co, se, st⟩ _ (fun b o e h1 h2 => kk b o (k6.at_ b o h1 e) h2 (ne_of_none e hst)) ?_ ?_ ⟨upd_same, tx_nil, ans, [], ⟨?_, ?_, ?_, ?_, ?_, ?_, n1, n2, n3, n4, n5, ?_, ?_, ok3⟩, rfl⟩ ?_
    · obtain ⟨a, b, c, z⟩ := k6.wl
      exact ⟨a, b, c, kk _ _ z wT wst.symm⟩
    · exact tb7.mv fun b o e hb => s11 _ _ (k10 _ _ (k9 _ _ e) (ne_of (k9 _ _ e) st9 hb.lst))
    · exact s11 _ _ (k10 _ _ e9 nps)
    · exact fa7.mv fun b φ e => s11 _ _ (k10 _ _ (k9 _ _ e) (ne_of (k9 _ _ e) st9 (by intro z; cases z)))
    · exact kk _ _ an6 (nT an6) n6
    · exact kk _ _ co6 (nT co6) n4.symm
    · exact kk _ _ se6 (nT se6) n5.symm
    · exact s11 _ _ e10
    · rw [l3]
      omega
    · rw [l3]
      omega
    · exact all_cons (fr7 d7) (all_cons (fr7 np) (all_cons ⟨hco, wco⟩ (all_cons ⟨hse, wse⟩ (all_cons ⟨han, na⟩ (all_cons ⟨hst, wst⟩ all_nil)))))
end
end Lv

set_option maxHeartbeats 4000000
namespace Lv
open PySem L2 PySem.W
theorem cut_ints (ns : List Int) (lo hi : Option Int) : ∃ zs : List Int, cutV (ns.map V.int) lo hi = zs.map V.int ∧ zs.length ≤ ns.length := by
  refine ⟨(ns.drop (HT.sIx ns.length 0 lo)).take (HT.sIx ns.length ns.length hi - HT.sIx ns.length 0 lo), ?_, ?_⟩
  · unfold cutV
    rw [List.length_map, List.map_take, List.map_drop]
  · rw [List.length_take, List.length_drop]
    omega
/-- a thing of the list that is looked through -/
def Good (C : Addr) (G : Hp) (v : V) : Prop := ∃ (d p dx : Addr) (fv : V) (x : Str) (m : Int) (kvs : List (Key × V)), v = .ref d ∧ G d = some (.dK kvs) ∧ valV kvs (Sum.inr "store" : Key) = some (.ref p) ∧ valV kvs (Sum.inr "text" : Key) = some (.str x) ∧ valV kvs (Sum.inr "many" : Key) = some (.int m) ∧ PyData.strOk x = true ∧ G p = some (.ins C dx (sf fv x m))
theorem Good.same {C : Addr} {G G' : Hp} {v : V} (e : Same G G') (h : Good C G v) : Good C G' v := by
  obtain ⟨d, p, dx, fv, x, m, kvs, h1, h2, h3, h4, h5, h6, h7⟩ := h
  exact ⟨d, p, dx, fv, x, m, kvs, h1, e _ _ h2, h3, h4, h5, h6, e _ _ h7⟩
theorem OneAt.good {pm : Value} {C : Addr} {H : Hp} {r : Rec} {x : Str} {m : Nat} (h : OneAt pm C H r x m) : Good C H (.ref r.d) := by
  obtain ⟨hd, tx, ans, ss, S, l⟩ := h
  exact ⟨r.d, r.p, r.dx, .ref r.f, x, m, _, rfl, hd, kv_store, kv_text, kv_many, tx, S.hp⟩
def kv3 (p : Addr) (x : Str) (m : Int) : List (Key × V) := [(Sum.inr "store", .ref p), (Sum.inr "text", .str x), (Sum.inr "many", .int m)]
theorem kv3_new {p : Addr} {x : Str} {m : Int} : mergeK [] (kv3 p x m) = kv3 p x m := by
  have s1 : putK ([] : List (Key × V)) (Sum.inr "store") (.ref p) = [((Sum.inr "store" : Key), (.ref p : V))] := pn all_nil
  have s2 : putK ([((Sum.inr "store" : Key), (.ref p : V))] : List (Key × V)) (Sum.inr "text") (.str x) = [((Sum.inr "store" : Key), (.ref p : V)), ((Sum.inr "text" : Key), (.str x : V))] := pn (all_cons (key_ne (by decide +kernel)) all_nil)
  have s3 : putK ([((Sum.inr "store" : Key), (.ref p : V)), ((Sum.inr "text" : Key), (.str x : V))] : List (Key × V)) (Sum.inr "many") (.int m) = [((Sum.inr "store" : Key), (.ref p : V)), ((Sum.inr "text" : Key), (.str x : V)), ((Sum.inr "many" : Key), (.int m : V))] := pn (all_cons (key_ne (by decide +kernel)) (all_cons (key_ne (by decide +kernel)) all_nil))
  unfold mergeK kv3
  simp only [List.foldl_cons, List.foldl_nil]
  rw [s1, s2, s3]
theorem kv3_text {p : Addr} {x : Str} {m : Int} : valV (kv3 p x m) (Sum.inr "text" : Key) = some (.str x) := by
  unfold kv3
  rw [valV_neg (key_ne (by decide +kernel)), valV_pos rfl]
theorem kv3_many {p : Addr} {x : Str} {m : Int} : valV (kv3 p x m) (Sum.inr "many" : Key) = some (.int m) := by
  unfold kv3
  rw [valV_neg (key_ne (by decide +kernel)), valV_neg (key_ne (by decide +kernel)), valV_pos rfl]
/-- what stands apart -/
structure Dj (HL : Hp) (w so pl : Addr) (r1 r2 : Rec) : Prop where
  a12 : ∀ b ∈ r1.ws, b ∉ r2.rs
  a21 : ∀ b ∈ r2.ws, b ∉ r1.rs
  w1 : w ∉ r1.rs
  w2 : w ∉ r2.rs
  p1 : pl ∉ r1.rs
  p2 : pl ∉ r2.rs
  s1 : so ∉ r1.rs
  s2 : so ∉ r2.rs
  sw : so ≠ w
  n1 : ∀ b ∈ r1.rs, HL b = none
  n2 : ∀ b ∈ r2.rs, HL b = none
  nw : HL w = none
  np : HL pl = none
theorem ws_rs {r : Rec} {b : Addr} (h : b ∈ r.ws) : b ∈ r.rs := by
  simp only [Rec.ws, Rec.rs, List.mem_cons, List.not_mem_nil, or_false] at h ⊢
  rcases h with h | h | h | h
  · exact .inl h
  · exact .inr (.inl h)
  · exact .inr (.inr (.inl h))
  · exact .inr (.inr (.inr (.inl h)))
structure Inn (pm : Value) (C T : Addr) (HL : Hp) (w so pl dxp : Addr) (r1 r2 : Rec) (G : Hp) (i : Nat) (xp : Str) : Prop where
  k : ∀ b o, HL b = some o → b ≠ T → G b = some o
  tb : Tab G T hPos hQual
  wl : Wl G w
  o1 : ∃ x m, OneAt pm C G r1 x m ∧ m ≤ i ∧ x.length ≤ 31 * i
  o2 : ∃ x m, OneAt pm C G r2 x m ∧ m ≤ i ∧ x.length ≤ 31 * i
  hp : G pl = some (.ins C dxp (sf .non xp i))
  tx : PyData.strOk xp = true
  lp : xp.length ≤ 31 * i
  hs : G so = some (.lst [.ref r1.d, .ref r2.d])
/-- objects of other kinds stay -/
theorem not_ws {pm : Value} {C : Addr} {G : Hp} {r : Rec} {x : Str} {m : Nat} (O : OneAt pm C G r x m) {b : Addr} {o : HO} (e : G b = some o) (h : (∃ φ, o = .ext φ) ∨ ∃ ps, o = .tbl ps) : b ∉ r.rs := fun hb => by
  obtain ⟨o', e', h1, h2⟩ := O.has b hb
  rw [e] at e'
  cases e'
  rcases h with ⟨φ, rfl⟩ | ⟨ps, rfl⟩
  · exact h1 φ rfl
  · exact h2 ps rfl
theorem Tabby.ek {o : HO} (h : Tabby o) : (∃ φ, o = .ext φ) ∨ ∃ ps, o = .tbl ps := by
  rcases h with ⟨ps, rfl⟩ | ⟨c, q, rfl⟩
  · exact .inr ⟨ps, rfl⟩
  · exact .inl ⟨_, rfl⟩
section
variable {pm : Value} {C T : Addr} {HL : Hp} {w so pl dxp : Addr} {r1 r2 : Rec} {G G' : Hp} {i : Nat} {xp : Str}
theorem Inn.kp (D : Dj HL w so pl r1 r2) (I : Inn pm C T HL w so pl dxp r1 r2 G i xp) (k : Kp w G G') : Inn pm C T HL w so pl dxp r1 r2 G' i xp := by
  obtain ⟨a, b, c, hw⟩ := I.wl
  have nk : ∀ {b : Addr} {o : HO}, G b = some o → (∀ l, o ≠ .lst l) → G' b = some o := fun e h => k.at_ _ _ (ne_of e hw (h _)) e
  have one : ∀ r, w ∉ r.rs → (∃ x m, OneAt pm C G r x m ∧ m ≤ i ∧ x.length ≤ 31 * i) → ∃ x m, OneAt pm C G' r x m ∧ m ≤ i ∧ x.length ≤ 31 * i := fun r hr ⟨x, m, O, l1, l2⟩ =>
    ⟨x, m, O.mv fun b o e h => by
      rcases h with h | ⟨φ, rfl⟩
      · exact k.at_ _ _ (fun z => hr (z ▸ h)) e
      · exact nk e (by intro _ z; cases z), l1, l2⟩
  exact ⟨fun b o e n => k.at_ _ _ (ne_of_none e D.nw) (I.k b o e n), I.tb.mv fun b o e h => nk e fun l => h.lst, k.wl, one r1 D.w1 I.o1, one r2 D.w2 I.o2, nk I.hp (by intro _ z; cases z), I.tx, I.lp, k.at_ _ _ D.sw I.hs⟩
theorem Inn.same (I : Inn pm C T HL w so pl dxp r1 r2 G i xp) (e : Same G G') : Inn pm C T HL w so pl dxp r1 r2 G' i xp := by
  obtain ⟨x1, m1, O1, a1, b1⟩ := I.o1
  obtain ⟨x2, m2, O2, a2, b2⟩ := I.o2
  exact ⟨fun b o z n => e _ _ (I.k b o z n), I.tb.same e, I.wl.same e, ⟨x1, m1, O1.same e, a1, b1⟩, ⟨x2, m2, O2.same e, a2, b2⟩, e _ _ I.hp, I.tx, I.lp, e _ _ I.hs⟩
/-- a writing at the one, and at the plain one -/
theorem Inn.step (D : Dj HL w so pl r1 r2) (I : Inn pm C T HL w so pl dxp r1 r2 G i xp) {r r' : Rec} (hr : (r = r1 ∧ r' = r2) ∨ (r = r2 ∧ r' = r1)) {x x' y : Str} {m : Nat} (O : OneAt pm C G r x m) (lm : m ≤ i) (lx : x.length ≤ 31 * i) (ly : y.length ≤ 31) (ty : PyData.strOk y = true)
    (k : ∀ b o, G b = some o → b ∉ r.ws → G' b = some o) (O' : OneAt pm C G' r x' (m + 1)) (l' : x'.length ≤ x.length + 31) :
    G' pl = some (.ins C dxp (sf .non xp i)) ∧ Inn pm C T HL w so pl dxp r1 r2 (upd G' pl (.ins C dxp (sf .non (xp ++ y) ((i : Int) + 1)))) (i + 1) (xp ++ y) := by
  obtain ⟨a, b, c, hw⟩ := I.wl
  have dj : (∀ b ∈ r.ws, b ∉ r'.rs) ∧ pl ∉ r.rs ∧ pl ∉ r'.rs ∧ so ∉ r.rs ∧ w ∉ r.rs ∧ (∀ b ∈ r.rs, HL b = none) ∧ ∃ x m, OneAt pm C G r' x m ∧ m ≤ i ∧ x.length ≤ 31 * i := by
    rcases hr with ⟨rfl, rfl⟩ | ⟨rfl, rfl⟩
    · exact ⟨D.a12, D.p1, D.p2, D.s1, D.w1, D.n1, I.o2⟩
    · exact ⟨D.a21, D.p2, D.p1, D.s2, D.w2, D.n2, I.o1⟩
  obtain ⟨dw, dp, dp', ds, dw', dn, xo, mo, Oo, lmo, lxo⟩ := dj
  have hp' := k _ _ I.hp fun h => dp (ws_rs h)
  have up : ∀ {b : Addr} {o : HO}, G b = some o → b ∉ r.ws → b ≠ pl → (upd G' pl (.ins C dxp (sf .non (xp ++ y) ((i : Int) + 1)))) b = some o := fun e h n => by
    rw [upd_ne n]
    exact k _ _ e h
  have ek : ∀ {b : Addr} {o : HO}, G b = some o → ((∃ φ, o = .ext φ) ∨ ∃ ps, o = .tbl ps) → b ∉ r.ws ∧ b ≠ pl := fun {b o} e h => ⟨fun z => not_ws O e h (ws_rs z), ne_of e I.hp (by rcases h with ⟨φ, rfl⟩ | ⟨ps, rfl⟩ <;> intro z <;> cases z)⟩
  have tb' : Tab (upd G' pl (.ins C dxp (sf .non (xp ++ y) ((i : Int) + 1)))) T hPos hQual := I.tb.mv fun b o e h => up e (ek e h.ek).1 (ek e h.ek).2
  have me : OneAt pm C (upd G' pl (.ins C dxp (sf .non (xp ++ y) ((i : Int) + 1)))) r x' (m + 1) := O'.mv fun b o e h => by
    rw [upd_ne ?_]
    · exact e
    · rcases h with h | ⟨φ, rfl⟩
      · exact fun z => dp (z ▸ h)
      · exact ne_of e hp' (by intro z; cases z)
  have ot : OneAt pm C (upd G' pl (.ins C dxp (sf .non (xp ++ y) ((i : Int) + 1)))) r' xo mo := Oo.mv fun b o e h => by
    rcases h with h | ⟨φ, rfl⟩
    · exact up e (fun z => dw b z h) fun z => dp' (z ▸ h)
    · exact up e (ek e (.inl ⟨φ, rfl⟩)).1 (ek e (.inl ⟨φ, rfl⟩)).2
  refine ⟨hp', fun b o e n => up (I.k b o e n) (fun z => ?_) (ne_of_none e D.np), tb', ⟨a, b, c, up hw (fun z => dw' (ws_rs z)) (ne_of hw I.hp (by intro z; cases z))⟩, ?_, ?_, ?_, tx_cat I.tx ty, ?_, up I.hs (fun z => ds (ws_rs z)) (ne_of I.hs I.hp (by intro z; cases z))⟩
  · rw [dn b (ws_rs z)] at e
    cases e
  · rcases hr with ⟨rfl, rfl⟩ | ⟨rfl, rfl⟩
    · exact ⟨x', m + 1, me, by omega, by omega⟩
    · exact ⟨xo, mo, ot, by omega, by omega⟩
  · rcases hr with ⟨rfl, rfl⟩ | ⟨rfl, rfl⟩
    · exact ⟨xo, mo, ot, by omega, by omega⟩
    · exact ⟨x', m + 1, me, by omega, by omega⟩
  · rw [upd_same]
    rfl
  · have := I.lp
    rw [cat_len]
    omega
end
abbrev lawN : List Str := ["_law_script", "_law_cell", "_law_tape_here", "_law_some", "_law_plain", "_law_text_here", "_law_k", "_law_more", "_law_one", "_law_store", "_law_fresh"]
theorem scLaw : FnScope lawN ["_law_script"] (defScope sLaw) := ⟨rfl, rfl, rfl, by decide +kernel, rfl, by decide +kernel, by decide +kernel⟩
theorem tab_new {H : Hp} {T : Addr} {pos : Pos} {q : Str} (h : H T = some (.tbl #[])) : Tab H T pos q := ⟨#[], h, trivial, .inl rfl⟩
def spLaw (K : Frag) (T : Addr) : Sp := fun vs H Q _ => ∃ (a : Addr) (ns : List Int), vs = [.ref a] ∧ SqL K H a (ns.map V.int) ∧ ns.length ≤ 63 ∧ H T = some (.tbl #[]) ∧ ∀ H', Q (.bl true) H'
end Lv

set_option maxHeartbeats 4000000
namespace Lv
open PySem L2 PySem.W
theorem gd_tm {x : Str} (h : PyData.strOk x = true) (m : Int) : Gd 1 (.tuple [.str x, .int m]) := Gd.tup (n := 0) (gd_cons (Gd.str h) (gd_cons (Gd.int _) gd_nil))
section
variable {P : Program} {w : World} {K : PySem.W.Frag} {mg : Str → Option Value} {base : Heap}
theorem ok_law {f C T : Addr} {fd : FuncData} {pm : Value} (F : Fun K "law" "law" sLaw f fd) (G : Gb mg) (TS : Sl K mg C)
    {fC : Addr} {fdC : FuncData} (GC : FnOk P w K mg base CX0 5 fC fdC ["_law_script", "_law_at"] (spCell K)) (kC : keepIn K (.ref fC) = true) (bC : Binds K fdC ["_law_script", "_law_at"] []) (mC : mg "_law_cell_at" = some (.ref fC))
    {fP : Addr} {fdP : FuncData} (GP : FnOk P w K mg base CX0 5 fP fdP ["_law_cell"] spTape) (kP : keepIn K (.ref fP) = true) (bP : Binds K fdP ["_law_cell"] []) (mP : mg "_law_tape" = some (.ref fP))
    {fM : Addr} {fdM : FuncData} (GM : FnOk P w K mg base CX0 5 fM fdM ["_law_tape_here"] (spMade pm C T)) (kM : keepIn K (.ref fM) = true) (bM : Binds K fdM ["_law_tape_here"] []) (mM : mg "_law_made" = some (.ref fM))
    {fT : Addr} {fdT : FuncData} (GT : FnOk P w K mg base CX0 5 fT fdT ["_law_tape_here", "_law_many"] spTake) (kT : keepIn K (.ref fT) = true) (bT : Binds K fdT ["_law_tape_here", "_law_many"] []) (mT : mg "_law_take" = some (.ref fT))
    {fX : Addr} {fdX : FuncData} (GX : FnOk P w K mg base CX0 5 fX fdX ["_law_tape_here"] spText) (kX : keepIn K (.ref fX) = true) (bX : Binds K fdX ["_law_tape_here"] []) (mX : mg "_law_text" = some (.ref fX))
    {fG : Addr} {fdG : FuncData} (GG : FnOk P w K mg base CX0 5 fG fdG ["_law_one", "_law_text_here"] (spGoes pm C)) (kG : keepIn K (.ref fG) = true) (bG : Binds K fdG ["_law_one", "_law_text_here"] []) (mG : mg "_law_goes" = some (.ref fG))
    {fW : Addr} {fdW : FuncData} (GW : FnOk P w K mg base CX0 5 fW fdW ["_law_store", "_law_text_here"] (spWroteN C)) (kW : keepIn K (.ref fW) = true) (bW : Binds K fdW ["_law_store", "_law_text_here"] []) (mW : mg "_law_wrote" = some (.ref fW))
    {fI : Addr} {fdI : FuncData} (GI : FnOk P w K mg base CX0 4 fI fdI ["self", "fall"] (spInit C)) (bI : Binds K fdI ["self", "fall"] []) (bI0 : Binds K fdI ["self", "fall"] [.none]) (MK : Mk K C fI)
    {fS : Addr} {fdS : FuncData} (GS : FnOk P w K mg base CX0 5 fS fdS ["self"] (spWhole C)) (bS : Binds K fdS ["self"] []) (mS : Meth K C "whole_text" fS)
    {fA : Addr} {fdA : FuncData} (GA : FnOk P w K mg base CX0 5 fA fdA ["self"] (spAsked C)) (bA : Binds K fdA ["self"] []) (mA : Meth K C "asked_for" fA) :
    FnOk P w K mg base CX0 6 f fd ["_law_script"] (spLaw K T) := by
  refine F.ok scLaw (fun vs H Q E h => ?_) (fun cdv A outer s H vs Q E hr h => ?_)
  · obtain ⟨a, ns, rfl, _⟩ := h
    rfl
  · obtain ⟨a, ns, rfl, hS, hl, hT, q⟩ := h
    have hu := hu_of hr
    have dv : Vals [V.non] [Value.none] := .cons rfl .nil
    refine ⟨_, pss_cons (ps_for PassesOwn.never rfl (pi_list (pe_op op_cat (pe_lst (pa_cons (pe_call GC hr rfl mC kC bC .nil pass0 (pa_cons (pv 0) (pa_cons pe_int pa_nil))) pa_nil)) (pe_slice sl_list (pv 0) (po_some pe_int) (po_some pe_int)))) (pg_name (i := 1) scLaw.nd rfl (Or.inl rfl))
        (pss_cons (ps_set (i := 2) scLaw.nd rfl (Or.inl rfl) (pe_call GP hr rfl mP kP bP .nil pass0 (pa_cons (pv 1) pa_nil)))
        (pss_cons (ps_set (i := 3) scLaw.nd rfl (Or.inl rfl) (pe_lst (pa_cons (pe_call GM hr rfl mM kM bM .nil pass0 (pa_cons (pv 2) pa_nil)) (pa_cons (pe_call GM hr rfl mM kM bM .nil pass0 (pa_cons (pv 2) pa_nil)) pa_nil))))
        (pss_cons (ps_set (i := 4) scLaw.nd rfl (Or.inl rfl) (pe_ix ix_list (pe_lst (pa_cons (pe_make0 MK GI hr rfl TS.mgC bI0 dv pass0) (pa_cons (pe_make MK GI hr rfl TS.mgC bI .nil pass0 (pa_cons pe_non pa_nil)) pa_nil))) (pe_call GT hr rfl mT kT bT .nil pass0 (pa_cons (pv 2) (pa_cons pe_int pa_nil))) (fun _ _ => rfl)))
        (pss_cons (ps_set (i := 5) scLaw.nd rfl (Or.inl rfl) pe_str)
        (pss_cons (ps_for PassesOwn.never rfl (pi_range1 rfl G.range (pa_cons (pe_call GT hr rfl mT kT bT .nil pass0 (pa_cons (pv 2) (pa_cons pe_int pa_nil))) pa_nil)) (pg_name (i := 6) scLaw.nd rfl (Or.inl rfl))
          (pss_cons (ps_set (i := 7) scLaw.nd rfl (Or.inl rfl) (pe_call GX hr rfl mX kX bX .nil pass0 (pa_cons (pv 2) pa_nil)))
          (pss_cons (ps_if (PW.pt (pw_or (pt_not (pt_val (pe_call GG hr rfl mG kG bG .nil pass0 (pa_cons (pe_ix ix_list (pv 3) (pe_call GT hr rfl mT kT bT .nil pass0 (pa_cons (pv 2) (pa_cons pe_int pa_nil))) (fun _ _ => rfl)) (pa_cons (pv 7) pa_nil))))) (pw_or1 (pt_cmpR op_ne (pe_call GW hr rfl mW kW bW .nil pass0 (pa_cons (pv 4) (pa_cons (pv 7) pa_nil))) pe_str (nomark _))))) pss_never pss_nil)
          (pss_cons (ps_set (i := 5) scLaw.nd rfl (Or.inl rfl) (pe_op op_add_str (pv 5) (pv 7)))
          (pss_one (ps_for PassesOwn.never rfl (pi_list (pe_op op_cat (pv 3) (pe_lst (pa_cons (pe_disp (pps_cons pe_str (pv 4) (pps_cons pe_str (pv 5) (pps_cons pe_str (pe_op op_add (pv 6) pe_int) pps_nil))) rfl rfl (by intro z; cases z) (by decide)) pa_nil)))) (pg_name (i := 8) scLaw.nd rfl (Or.inl rfl))
            (pss_cons (ps_set (i := 9) scLaw.nd rfl (Or.inl rfl) (pe_dget hu (pv 8) pe_str (fun _ _ => rfl)))
            (pss_one (ps_if (pt_cmpR (op_neD hr.units) (pe_tup (pa_cons (pe_meth0 (pv 9) TS.cl mS GS hr bS .nil pass0) (pa_cons (pe_meth0 (pv 9) TS.cl mA GA hr bA .nil pass0) pa_nil))) (pe_tup (pa_cons (pe_dget hu (pv 8) pe_str (fun _ _ => rfl)) (pa_cons (pe_dget hu (pv 8) pe_str (fun _ _ => rfl)) pa_nil))) (nomark _)) pss_never pss_nil)))))))))
        (pss_cons (ps_set (i := 10) scLaw.nd rfl (Or.inl rfl) (pe_make0 MK GI hr rfl TS.mgC bI0 dv pass0))
        (pss_one (ps_if (pt_cmpR (op_neD hr.units) (pe_tup (pa_cons (pe_meth0 (pv 10) TS.cl mS GS hr bS .nil pass0) (pa_cons (pe_meth0 (pv 10) TS.cl mA GA hr bA .nil pass0) pa_nil))) (pe_tup (pa_cons pe_str (pa_cons pe_int pa_nil))) (nomark _)) pss_never pss_nil)))))))))
      (pss_one (ps_ret pe_bl)), ?_⟩
    have sl : sizeLine = 16777216 := sizeLine_eq
    refine ⟨_, rfl, a, ns, 0, rfl, hS, hl, fun c0 => ⟨by show 1 ≤ sizeLine; decide, fun l1 h1 => ?_⟩⟩
    have t1 : Same H (upd H l1 (.lst [.int c0])) := same_upd h1
    have e1 : (upd H l1 (.lst [.int c0])) l1 = some (.lst [.int c0]) := upd_same
    generalize upd H l1 (.lst [.int c0]) = H1 at t1 e1 ⊢
    obtain ⟨zs0, ez0, lz0⟩ := cut_ints ns (some 1) (some 6)
    refine ⟨_, rfl, _, rfl, _, rfl, a, _, rfl, t1.seq hS, fun l2 h2 => ?_⟩
    rw [ez0]
    have t2 : Same H1 (upd H1 l2 (.lst (zs0.map V.int))) := same_upd h2
    have e2 : (upd H1 l2 (.lst (zs0.map V.int))) l2 = some (.lst (zs0.map V.int)) := upd_same
    generalize upd H1 l2 (.lst (zs0.map V.int)) = H2 at t2 e2 ⊢
    refine ⟨l1, l2, _, _, rfl, rfl, t2 _ _ e1, e2, by rw [List.length_map]; show 1 + zs0.length ≤ sizeLine; omega, fun l3 h3 => ?_⟩
    have hTL : (upd H2 l3 (.lst ([V.int c0] ++ zs0.map V.int))) T = some (.tbl #[]) := same_upd h3 _ _ (t2 _ _ (t1 _ _ hT))
    have e3 : (upd H2 l3 (.lst ([V.int c0] ++ zs0.map V.int))) l3 = some (.lst ((c0 :: zs0).map V.int)) := upd_same
    generalize upd H2 l3 (.lst ([V.int c0] ++ zs0.map V.int)) = HL at e3 hTL ⊢
    have n3T : l3 ≠ T := ne_of e3 hTL (by intro z; cases z)
    refine ⟨l3, rfl, ⟨_, SqL.of e3⟩, for_list (K := K) (a := l3) (xs := (c0 :: zs0).map V.int) (fun i σ G7 => (∀ b o, HL b = some o → b ≠ T → G7 b = some o) ∧ Tab G7 T hPos hQual ∧ ∃ o1 o2 o3 o4 o5 o6 o7 o8 o9 o10 : Option V, σ = [some (.ref a), o1, o2, o3, o4, o5, o6, o7, o8, o9, o10])
      ⟨fun _ _ e _ => e, tab_new hTL, _, _, _, _, _, _, _, _, _, _, rfl⟩ (fun i σ G7 _ h => SqL.of (h.1 _ _ e3 n3T)) ?_ ?_⟩
    rotate_left
    · rintro σ G7 ⟨_, _, o1, o2, o3, o4, o5, o6, o7, o8, o9, o10, rfl⟩
      exact q G7
    rintro i y σ G7 hi ⟨k7, tb7, o1, o2, o3, o4, o5, o6, o7, o8, o9, o10, rfl⟩
    obtain ⟨cc, rfl⟩ : ∃ z, y = V.int z := by
      rw [List.getElem?_map] at hi
      cases e : (c0 :: zs0)[i]? with
      | none => rw [e] at hi; cases hi
      | some z => rw [e] at hi; exact ⟨z, (Option.some.inj hi).symm⟩
    refine gName_in ?_
    refine ⟨_, rfl, cc, rfl, fun w' H8 s8 n8 wl8 => ?_⟩
    have tb8 := tb7.same s8
    have T8 : ∃ qs, H8 T = some (.tbl qs) := by
      obtain ⟨qs, g, _⟩ := tb8
      exact ⟨qs, g⟩
    obtain ⟨qs8, gT8⟩ := T8
    have nwT : w' ≠ T := by
      obtain ⟨x, y, z, hw⟩ := wl8
      exact ne_of hw gT8 (by intro z; cases z)
    have c8 : ∀ b o, HL b = some o → b ≠ T → H8 b = some o := fun b o e n => s8 _ _ (k7 b o e n)
    have nw : HL w' = none := by
      cases z : HL w' with
      | none => rfl
      | some o => rw [k7 _ _ z nwT] at n8; cases n8
    -- two stores that fall
    refine ⟨_, rfl, w', rfl, wl8, tb8, fun r1 H9 k9 wl9 tb9 O1 f1 => ⟨_, rfl, w', rfl, wl9, tb9, fun r2 H10 k10 wl10 tb10 O2 f2 => ⟨by show 2 ≤ sizeLine; decide, fun so nso => ?_⟩⟩⟩
    have T9 : ∃ qs, H9 T = some (.tbl qs) := by
      obtain ⟨qs, g, _⟩ := tb9
      exact ⟨qs, g⟩
    obtain ⟨qs9, gT9⟩ := T9
    have O1' : OneAt pm C H10 r1 "" 0 := O1.mv fun b o e h => by
      have hk : b ≠ w' ∧ b ≠ T := by
        rcases h with h | ⟨φ, rfl⟩
        · obtain ⟨o', e', _, h2⟩ := O1.has b h
          exact ⟨(f1 b h).2, ne_of e' gT9 (h2 _)⟩
        · obtain ⟨x, y, z, hw⟩ := wl9
          exact ⟨ne_of e hw (by intro z; cases z), ne_of e gT9 (by intro z; cases z)⟩
      exact k10 b o e hk.1 hk.2
    have c9 : ∀ b o, HL b = some o → b ≠ T → H9 b = some o := fun b o e n => k9 _ _ (c8 b o e n) (ne_of_none e nw) n
    have c10 : ∀ b o, HL b = some o → b ≠ T → H10 b = some o := fun b o e n => k10 _ _ (c9 b o e n) (ne_of_none e nw) n
    have s11 : Same H10 (upd H10 so (.lst [.ref r1.d, .ref r2.d])) := same_upd nso
    have e11 : (upd H10 so (.lst [.ref r1.d, .ref r2.d])) so = some (.lst [.ref r1.d, .ref r2.d]) := upd_same
    generalize upd H10 so (.lst [.ref r1.d, .ref r2.d]) = H11 at s11 e11 ⊢
    -- the plain one
    refine fun p1 dx1 np1 ndx1 ne1 => ?_
    have s12 := mk_same (C := C) np1 ndx1
    have e12 : (upd (upd H11 dx1 (.own p1)) p1 (.ins C dx1 [])) p1 = some (.ins C dx1 []) := upd_same
    generalize upd (upd H11 dx1 (.own p1)) p1 (.ins C dx1 []) = H12 at s12 e12 ⊢
    refine ⟨p1, dx1, .non, rfl, e12, rfl, ?_⟩
    have s13 : Same H11 (upd H12 p1 (.ins C dx1 (sf .non "" 0))) := fun b o e => by
      rw [upd_ne (ne_of_none e np1)]
      exact s12 _ _ e
    have e13 : (upd H12 p1 (.ins C dx1 (sf .non "" 0))) p1 = some (.ins C dx1 (sf .non "" 0)) := upd_same
    generalize upd H12 p1 (.ins C dx1 (sf .non "" 0)) = H13 at s13 e13 ⊢
    refine fun p2 dx2 np2 ndx2 ne2 => ?_
    have s14 := mk_same (C := C) np2 ndx2
    have e14 : (upd (upd H13 dx2 (.own p2)) p2 (.ins C dx2 [])) p2 = some (.ins C dx2 []) := upd_same
    generalize upd (upd H13 dx2 (.own p2)) p2 (.ins C dx2 []) = H14 at s14 e14 ⊢
    refine ⟨p2, dx2, .non, rfl, e14, rfl, ?_⟩
    have s15 : Same H13 (upd H14 p2 (.ins C dx2 (sf .non "" 0))) := fun b o e => by
      rw [upd_ne (ne_of_none e np2)]
      exact s14 _ _ e
    have e15 : (upd H14 p2 (.ins C dx2 (sf .non "" 0))) p2 = some (.ins C dx2 (sf .non "" 0)) := upd_same
    generalize upd H14 p2 (.ins C dx2 (sf .non "" 0)) = H15 at s15 e15 ⊢
    refine ⟨by show 2 ≤ sizeLine; decide, fun l16 n16 => ?_⟩
    have s16 : Same H15 (upd H15 l16 (.lst [.ref p1, .ref p2])) := same_upd n16
    have e16 : (upd H15 l16 (.lst [.ref p1, .ref p2])) l16 = some (.lst [.ref p1, .ref p2]) := upd_same
    generalize upd H15 l16 (.lst [.ref p1, .ref p2]) = H16 at s16 e16 ⊢
    have s1116 : Same H11 H16 := s13.trans (s15.trans s16)
    have wl11 : Wl H11 w' := wl10.same s11
    refine ⟨_, rfl, w', 2, rfl, wl11.same s1116, by decide, by decide, fun rr H17 k17 a17 b17 => ?_⟩
    have nl16 : l16 ≠ w' := ((wl11.same (s13.trans s15)).ne n16).symm
    obtain ⟨pl, dxp, epl, hpl, npl⟩ : ∃ pl dxp, atI [V.ref p1, .ref p2] rr = some (.ref pl) ∧ H16 pl = some (.ins C dxp (sf .non "" 0)) ∧ H11 pl = none := by
      obtain h | h : rr = 0 ∨ rr = 1 := by omega
      · exact ⟨p1, dx1, by rw [h]; exact atI_nat (j := 0) rfl, s16 _ _ (s15 _ _ e13), np1⟩
      · exact ⟨p2, dx2, by rw [h]; exact atI_nat (j := 1) rfl, s16 _ _ e15, s13.free np2⟩
    refine ⟨l16, _, _, _, rfl, rfl, SqL.of (k17.at_ _ _ nl16 e16), epl, ?_⟩
    -- what stands apart
    have O1'' := O1'.same s11
    have O2'' := O2.same s11
    have dj : Dj HL w' so pl r1 r2 := by
      have h1 : ∀ {b : Addr}, b ∈ r1.rs → ∃ o, H9 b = some o := fun hb => let ⟨o, e, _⟩ := O1.has _ hb; ⟨o, e⟩
      have hh1 : ∀ {b : Addr}, b ∈ r1.rs → ∃ o, H10 b = some o := fun hb => let ⟨o, e, _⟩ := O1'.has _ hb; ⟨o, e⟩
      have hh2 : ∀ {b : Addr}, b ∈ r2.rs → ∃ o, H10 b = some o := fun hb => let ⟨o, e, _⟩ := O2.has _ hb; ⟨o, e⟩
      have cl : ∀ {G8 : Hp} {X : Prop} {b : Addr} {o : HO}, G8 b = some o → G8 b = none → X := fun e n => by rw [e] at n; cases n
      have x12 : ∀ b, b ∈ r1.rs → b ∈ r2.rs → False := fun b u v => by
        obtain ⟨o, e⟩ := h1 u
        exact cl e (f2 b v).1
      refine ⟨fun b u v => x12 b (ws_rs u) v, fun b u v => x12 b v (ws_rs u), fun z => (f1 _ z).2 rfl, fun z => (f2 _ z).2 rfl, fun z => ?_, fun z => ?_, fun z => ?_, fun z => ?_, (wl10.ne nso).symm, fun b z => ?_, fun b z => ?_, nw, ?_⟩
      · obtain ⟨o, e⟩ := hh1 z
        exact cl (s11 _ _ e) npl
      · obtain ⟨o, e⟩ := hh2 z
        exact cl (s11 _ _ e) npl
      · obtain ⟨o, e⟩ := hh1 z
        exact cl e nso
      · obtain ⟨o, e⟩ := hh2 z
        exact cl e nso
      · cases e : HL b with
        | none => rfl
        | some o =>
          by_cases z' : b = T
          · exact cl (z' ▸ gT8) (f1 b z).1
          · exact cl (c8 b o e z') (f1 b z).1
      · cases e : HL b with
        | none => rfl
        | some o =>
          by_cases z' : b = T
          · exact cl (z' ▸ gT9) (f2 b z).1
          · exact cl (c9 b o e z') (f2 b z).1
      · cases e : HL pl with
        | none => rfl
        | some o =>
          by_cases z' : pl = T
          · obtain ⟨qs, g, _⟩ := tb10
            exact cl (s11 _ _ (z' ▸ g)) npl
          · exact cl (s11 _ _ (c10 _ _ e z')) npl
    have I0 : Inn pm C T HL w' so pl dxp r1 r2 H16 0 "" := ⟨fun b o e n => s1116 _ _ (s11 _ _ (c10 b o e n)), (tb10.same s11).same s1116, wl11.same s1116, ⟨"", 0, O1''.same s1116, Nat.le_refl _, by decide +kernel⟩, ⟨"", 0, O2''.same s1116, Nat.le_refl _, by decide +kernel⟩, hpl, tx_nil, by decide +kernel, s1116 _ _ e11⟩
    have I1 := I0.kp dj k17
    refine ⟨_, rfl, w', 13, rfl, I1.wl, by decide, by decide, fun nn H18 k18 a18 b18 => ?_⟩
    have I2 := I1.kp dj k18
    clear I0 I1 O1'' O2'' O1' k17 k18 s1116 s16 s15 s14 s13 s12 s11 e11 e12 e13 e14 e15 e16 epl hpl npl
    refine ⟨nn, rfl, by omega, by omega, for_range (lo := 0) (n := nn.toNat) (fun i σ G8 => ∃ (xp : Str) (o6 o7 o8 o9 o10 : Option V), σ = [some (.ref a), some (.int cc), some (.ref w'), some (.ref so), some (.ref pl), some (.str xp), o6, o7, o8, o9, o10] ∧ Inn pm C T HL w' so pl dxp r1 r2 G8 i xp) ⟨"", _, _, _, _, _, rfl, I2⟩ ?_ ?_⟩
    · rintro j σ G8 hj ⟨xp, u6, u7, u8, u9, u10, rfl, I⟩
      have hj12 : j ≤ 12 := by omega
      refine gName_in ?_
      refine ⟨_, rfl, w', rfl, I.wl, fun y H19 k19 ly ty => ?_⟩
      have I3 := I.kp dj k19
      refine ⟨_, rfl, _, rfl, w', 2, rfl, I3.wl, by decide, by decide, fun r20 H20 k20 a20 b20 => ?_⟩
      have I4 := I3.kp dj k20
      obtain ⟨r, r', hrr, er, x, m, O, lm, lx⟩ : ∃ r r', ((r = r1 ∧ r' = r2) ∨ (r = r2 ∧ r' = r1)) ∧ atI [V.ref r1.d, .ref r2.d] r20 = some (.ref r.d) ∧ ∃ x m, OneAt pm C H20 r x m ∧ m ≤ j ∧ x.length ≤ 31 * j := by
        obtain h | h : r20 = 0 ∨ r20 = 1 := by omega
        · exact ⟨r1, r2, .inl ⟨rfl, rfl⟩, by rw [h]; exact atI_nat (j := 0) rfl, I4.o1⟩
        · exact ⟨r2, r1, .inr ⟨rfl, rfl⟩, by rw [h]; exact atI_nat (j := 1) rfl, I4.o2⟩
      refine ⟨so, _, _, _, rfl, rfl, SqL.of I4.hs, er, _, rfl, r, x, y, m, rfl, O, by omega, by omega, ly, ty, fun x' H21 k21 O' l' => ?_⟩
      refine ⟨_, rfl, iteF ?_⟩
      obtain ⟨hp21, I5⟩ := I4.step dj hrr O lm lx ly ty k21 O' l'
      have lp := I4.lp
      refine ⟨_, rfl, _, rfl, pl, dxp, xp, y, j, rfl, hp21, by omega, ?_⟩
      generalize upd H21 pl (.ins C dxp (sf .non (xp ++ y) ((j : Int) + 1))) = H22 at I5 ⊢
      refine ⟨rfl, _, rfl, iteNS rfl ?_⟩
      refine ⟨_, rfl, _, rfl, _, _, rfl, rfl, by omega, ?_⟩
      -- all of them
      refine ⟨_, rfl, fun d23 n23 => ?_⟩
      have s23 : Same H22 (upd H22 d23 (.dK [])) := same_upd n23
      refine ⟨_, rfl, _, rfl, _, rfl, _, _, rfl, rfl, upd_same, kv3 pl (xp ++ y) (0 + (j : Int) + 1), rfl, by show 3 ≤ 15; decide, ?_⟩
      rw [kv3_new, upd_upd]
      have s24 : Same H22 (upd H22 d23 (.dK (kv3 pl (xp ++ y) (0 + (j : Int) + 1)))) := same_upd n23
      have e24 : (upd H22 d23 (.dK (kv3 pl (xp ++ y) (0 + (j : Int) + 1)))) d23 = some (.dK (kv3 pl (xp ++ y) (0 + (j : Int) + 1))) := upd_same
      generalize upd H22 d23 (.dK (kv3 pl (xp ++ y) (0 + (j : Int) + 1))) = H24 at s24 e24 ⊢
      refine ⟨by show 1 ≤ sizeLine; decide, fun l25 n25 => ?_⟩
      have s25 : Same H24 (upd H24 l25 (.lst [.ref d23])) := same_upd n25
      have e25 : (upd H24 l25 (.lst [.ref d23])) l25 = some (.lst [.ref d23]) := upd_same
      generalize upd H24 l25 (.lst [.ref d23]) = H25 at s25 e25 ⊢
      have I6 := I5.same (s24.trans s25)
      refine ⟨so, l25, _, _, rfl, rfl, I6.hs, e25, by show 3 ≤ sizeLine; decide, fun l26 n26 => ?_⟩
      have s26 : Same H25 (upd H25 l26 (.lst ([V.ref r1.d, .ref r2.d] ++ [.ref d23]))) := same_upd n26
      have e26 : (upd H25 l26 (.lst ([V.ref r1.d, .ref r2.d] ++ [.ref d23]))) l26 = some (.lst [V.ref r1.d, .ref r2.d, .ref d23]) := upd_same
      generalize upd H25 l26 (.lst ([V.ref r1.d, .ref r2.d] ++ [.ref d23])) = H26 at s26 e26 ⊢
      have I7 := I6.same s26
      have good : ∀ v ∈ [V.ref r1.d, .ref r2.d, .ref d23], Good C H26 v := by
        obtain ⟨x1, m1, O1, _⟩ := I7.o1
        obtain ⟨x2, m2, O2, _⟩ := I7.o2
        refine all_cons O1.good (all_cons O2.good (all_cons ⟨d23, pl, dxp, .non, xp ++ y, ((j + 1 : Nat) : Int), _, rfl, s26 _ _ (s25 _ _ e24), valV_pos rfl, kv3_text, ?_, I7.tx, I7.hp⟩ all_nil))
        rw [kv3_many]
        congr 2
        omega
      generalize [V.ref r1.d, .ref r2.d, .ref d23] = three at e26 good
      refine ⟨l26, rfl, ⟨_, SqL.of e26⟩, for_list (K := K) (a := l26) (xs := three) (fun i σ G9 => Same H26 G9 ∧ ∃ o8 o9 : Option V, σ = [some (.ref a), some (.int cc), some (.ref w'), some (.ref so), some (.ref pl), some (.str (xp ++ y)), some (.int (0 + (j : Int))), some (.str y), o8, o9, u10]) ⟨Same.refl _, _, _, rfl⟩ (fun i σ G9 _ h => SqL.of (h.1 _ _ e26)) ?_ ?_⟩
      · rintro k v σ G9 hk ⟨s27, v8, v9, rfl⟩
        obtain ⟨d, p, dx, fv, xx, mm, kvs, rfl, g1, g2, g3, g4, g5, g6⟩ := (good v (List.mem_of_getElem? hk)).same s27
        refine gName_in ?_
        refine ⟨_, rfl, d, _, rfl, dg g1 g2, ?_⟩
        refine ⟨_, rfl, p, dx, _, rfl, g6, rfl, p, dx, fv, xx, mm, rfl, g6, _, rfl, p, dx, _, rfl, g6, rfl, p, dx, fv, xx, mm, rfl, g6, by show 2 ≤ sizeLine; decide, fun r28 n28 => ?_⟩
        have s28 : Same G9 (upd G9 r28 (.tup [.str xx, .int mm])) := same_upd n28
        have e28 : (upd G9 r28 (.tup [.str xx, .int mm])) r28 = some (.tup [.str xx, .int mm]) := upd_same
        generalize upd G9 r28 (.tup [.str xx, .int mm]) = H28 at s28 e28 ⊢
        refine ⟨_, rfl, d, _, rfl, dg (s28 _ _ g1) g3, _, rfl, d, _, rfl, dg (s28 _ _ g1) g4, by show 2 ≤ sizeLine; decide, fun r29 n29 => ?_⟩
        have s29 : Same H28 (upd H28 r29 (.tup [.str xx, .int mm])) := same_upd n29
        refine ⟨_, _, .tup (SqT.of (s29 _ _ e28)) (.cons (.str _) (.cons (.int _) .nil)), .tup (SqT.of upd_same) (.cons (.str _) (.cons (.int _) .nil)), (gd_tm g5 mm).shaped (by decide), (gd_tm g5 mm).shaped (by decide), _, rfl, ?_⟩
        rw [(gd_tm g5 mm).eqv]
        exact iteF ⟨s27.trans (s28.trans s29), _, _, rfl⟩
      · rintro σ G9 ⟨s27, v8, v9, rfl⟩
        exact ⟨xp ++ y, _, _, _, _, _, rfl, I7.same s27⟩
    · rintro σ G8 ⟨xp, u6, u7, u8, u9, u10, rfl, I⟩
      refine fun p3 dx3 np3 ndx3 ne3 => ?_
      have s30 := mk_same (C := C) np3 ndx3
      have e30 : (upd (upd G8 dx3 (.own p3)) p3 (.ins C dx3 [])) p3 = some (.ins C dx3 []) := upd_same
      generalize upd (upd G8 dx3 (.own p3)) p3 (.ins C dx3 []) = H30 at s30 e30 ⊢
      refine ⟨p3, dx3, .non, rfl, e30, rfl, ?_⟩
      have s31 : Same G8 (upd H30 p3 (.ins C dx3 (sf .non "" 0))) := fun b o e => by
        rw [upd_ne (ne_of_none e np3)]
        exact s30 _ _ e
      have e31 : (upd H30 p3 (.ins C dx3 (sf .non "" 0))) p3 = some (.ins C dx3 (sf .non "" 0)) := upd_same
      generalize upd H30 p3 (.ins C dx3 (sf .non "" 0)) = H31 at s31 e31 ⊢
      refine ⟨_, rfl, p3, dx3, _, rfl, e31, rfl, p3, dx3, .non, "", 0, rfl, e31, _, rfl, p3, dx3, _, rfl, e31, rfl, p3, dx3, .non, "", 0, rfl, e31, by show 2 ≤ sizeLine; decide, fun r32 n32 => ?_⟩
      have s32 : Same H31 (upd H31 r32 (.tup [.str "", .int 0])) := same_upd n32
      have e32 : (upd H31 r32 (.tup [.str "", .int 0])) r32 = some (.tup [.str "", .int 0]) := upd_same
      generalize upd H31 r32 (.tup [.str "", .int 0]) = H32 at s32 e32 ⊢
      refine ⟨by show 2 ≤ sizeLine; decide, fun r33 n33 => ?_⟩
      have s33 : Same H32 (upd H32 r33 (.tup [.str "", .int 0])) := same_upd n33
      refine ⟨_, _, .tup (SqT.of (s33 _ _ e32)) (.cons (.str _) (.cons (.int _) .nil)), .tup (SqT.of upd_same) (.cons (.str _) (.cons (.int _) .nil)), (gd_tm tx_nil 0).shaped (by decide), (gd_tm tx_nil 0).shaped (by decide), _, rfl, ?_⟩
      rw [(gd_tm tx_nil 0).eqv]
      have sE := s31.trans (s32.trans s33)
      exact iteF ⟨fun b o e n => sE _ _ (I.k b o e n), I.tb.same sE, _, _, _, _, _, _, _, _, _, _, rfl⟩
end
end Lv

set_option maxHeartbeats 4000000
namespace Lv
open PySem L2 PySem.W
theorem len1 {α : Type} {us : List α} (h : us.length = 1) : ∃ a, us = [a] := match us, h with | [a], _ => ⟨a, rfl⟩
theorem len2 {α : Type} {us : List α} (h : us.length = 2) : ∃ a b, us = [a, b] := match us, h with | [a, b], _ => ⟨a, b, rfl⟩
theorem len4 {α : Type} {us : List α} (h : us.length = 4) : ∃ a b c d, us = [a, b, c, d] := match us, h with | [a, b, c, d], _ => ⟨a, b, c, d, rfl⟩
theorem all_mk {l : OpenLaw} {w : World} {K : Frag} {h : Heap} {mg : Str → Option Value} {fa : Addr} {T : Addr} {f1 : Addr} {f2 : Addr} {f3 : Addr} {f4 : Addr} {f5 : Addr} {f6 : Addr} {f7 : Addr} {f8 : Addr} {f9 : Addr} {f10 : Addr} {f11 : Addr} {f12 : Addr} {f13 : Addr} {od1 an1 : Option Addr} {sl1 : Array (Option Value)} {oc1 kV1 dc1 pm1 ct1 : Value} {cd1 : Value} {od2 an2 : Option Addr} {sl2 : Array (Option Value)} {oc2 kV2 dc2 pm2 ct2 : Value} {cd2 : Value} {od3 an3 : Option Addr} {sl3 : Array (Option Value)} {oc3 kV3 dc3 pm3 ct3 : Value} {cd3 : Value} {od4 an4 : Option Addr} {sl4 : Array (Option Value)} {oc4 kV4 dc4 pm4 ct4 : Value} {cd4 : Value} {od5 an5 : Option Addr} {sl5 : Array (Option Value)} {oc5 kV5 dc5 pm5 ct5 : Value} {cd5 : Addr} {od6 an6 : Option Addr} {sl6 : Array (Option Value)} {oc6 kV6 dc6 pm6 ct6 : Value} {cd6 : Value} {od7 an7 : Option Addr} {sl7 : Array (Option Value)} {oc7 kV7 dc7 pm7 ct7 : Value} {cd7 : Value} {od8 an8 : Option Addr} {sl8 : Array (Option Value)} {oc8 kV8 dc8 pm8 ct8 : Value} {cd8 : Value} {od9 an9 : Option Addr} {sl9 : Array (Option Value)} {oc9 kV9 dc9 pm9 ct9 : Value} {cd9 : Value} {od10 an10 : Option Addr} {sl10 : Array (Option Value)} {oc10 kV10 dc10 pm10 ct10 : Value} {cd10 : Value} {od11 an11 : Option Addr} {sl11 : Array (Option Value)} {oc11 kV11 dc11 pm11 ct11 : Value} {cd11 : Value} {od12 an12 : Option Addr} {sl12 : Array (Option Value)} {oc12 kV12 dc12 pm12 ct12 : Value} {cd12 : Value} {od13 an13 : Option Addr} {sl13 : Array (Option Value)} {oc13 kV13 dc13 pm13 ct13 : Value} {cd13 : Value} {CLentError : Addr} {CFallen : Addr} {CDown : Addr} {CNoBook : Addr} {CS : Addr} {dT : Addr} {ocT : Value} {odT : Option Addr} {nT : Nat} {slT : Array (Option Value)} (X : K.In h) (G : h.Ns mainGlobals mg) (hfa : mg "law" = some (.ref fa))
    (gCS : nsIn K mainGlobals "Store" = some (some (.ref CS)))
    (nLentError : nsIn K mainGlobals "LentError" = some (some (.ref CLentError)))
    (nFallen : nsIn K mainGlobals "Fallen" = some (some (.ref CFallen)))
    (nDown : nsIn K mainGlobals "Down" = some (some (.ref CDown)))
    (nNoBook : nsIn K mainGlobals "NoBook" = some (some (.ref CNoBook)))
    (a1 : nsIn K mainGlobals "_law_cell_at" = some (some (.ref f1)))
    (l1 : K.lookup f1 = some ⟨oc1, od1, .func (fnOf "_law_cell_at" "_law_cell_at" (defArgs sCell) (defBody sCell) (defScope sCell) .none kV1 dc1 pm1 an1 cd1 ct1), sl1⟩)
    (c1 : codeIn K cd1 "_law_cell_at" = true)
    (k1 : keepIn K (.ref f1) = true)
    (a2 : nsIn K mainGlobals "_law_tape" = some (some (.ref f2)))
    (l2 : K.lookup f2 = some ⟨oc2, od2, .func (fnOf "_law_tape" "_law_tape" (defArgs sTape) (defBody sTape) (defScope sTape) .none kV2 dc2 pm2 an2 cd2 ct2), sl2⟩)
    (c2 : codeIn K cd2 "_law_tape" = true)
    (k2 : keepIn K (.ref f2) = true)
    (a3 : nsIn K mainGlobals "_law_take" = some (some (.ref f3)))
    (l3 : K.lookup f3 = some ⟨oc3, od3, .func (fnOf "_law_take" "_law_take" (defArgs sTake) (defBody sTake) (defScope sTake) .none kV3 dc3 pm3 an3 cd3 ct3), sl3⟩)
    (c3 : codeIn K cd3 "_law_take" = true)
    (k3 : keepIn K (.ref f3) = true)
    (a4 : nsIn K mainGlobals "_law_text" = some (some (.ref f4)))
    (l4 : K.lookup f4 = some ⟨oc4, od4, .func (fnOf "_law_text" "_law_text" (defArgs sText) (defBody sText) (defScope sText) .none kV4 dc4 pm4 an4 cd4 ct4), sl4⟩)
    (c4 : codeIn K cd4 "_law_text" = true)
    (k4 : keepIn K (.ref f4) = true)
    (a5 : nsIn K mainGlobals "_law_fall" = some (some (.ref f5)))
    (l5 : K.lookup f5 = some ⟨oc5, od5, .func (fnOf "_law_fall" "_law_fall" (defArgs sFall) (defBody sFall) (defScope sFall) .none kV5 dc5 pm5 an5 (.ref cd5) ct5), sl5⟩)
    (c5 : codeIn K (.ref cd5) "_law_fall" = true)
    (k5 : keepIn K (.ref f5) = true)
    (t5 : codeHdIn K cd5 T = true)
    (a6 : nsIn K mainGlobals "_law_wrote" = some (some (.ref f6)))
    (l6 : K.lookup f6 = some ⟨oc6, od6, .func (fnOf "_law_wrote" "_law_wrote" (defArgs sWrote) (defBody sWrote) (defScope sWrote) .none kV6 dc6 pm6 an6 cd6 ct6), sl6⟩)
    (c6 : codeIn K cd6 "_law_wrote" = true)
    (k6 : keepIn K (.ref f6) = true)
    (a7 : nsIn K mainGlobals "_law_made" = some (some (.ref f7)))
    (l7 : K.lookup f7 = some ⟨oc7, od7, .func (fnOf "_law_made" "_law_made" (defArgs sMade) (defBody sMade) (defScope sMade) .none kV7 dc7 pm7 an7 cd7 ct7), sl7⟩)
    (c7 : codeIn K cd7 "_law_made" = true)
    (k7 : keepIn K (.ref f7) = true)
    (a8 : nsIn K mainGlobals "_law_goes" = some (some (.ref f8)))
    (l8 : K.lookup f8 = some ⟨oc8, od8, .func (fnOf "_law_goes" "_law_goes" (defArgs sGoes) (defBody sGoes) (defScope sGoes) .none kV8 dc8 pm8 an8 cd8 ct8), sl8⟩)
    (c8 : codeIn K cd8 "_law_goes" = true)
    (k8 : keepIn K (.ref f8) = true)
    (a9 : findIn K (.ref CS) "__init__" = some (some (.ref f9)))
    (i9 : isFn K (.ref f9) = true)
    (l9 : K.lookup f9 = some ⟨oc9, od9, .func (fnOf "__init__" "Store.__init__" (defArgs sInit) (defBody sInit) (defScope sInit) (.ref dT) kV9 dc9 pm9 an9 cd9 ct9), sl9⟩)
    (c9 : codeIn K cd9 "Store.__init__" = true)
    (k9 : keepIn K (.ref f9) = true)
    (a10 : findIn K (.ref CS) "write" = some (some (.ref f10)))
    (i10 : isFn K (.ref f10) = true)
    (l10 : K.lookup f10 = some ⟨oc10, od10, .func (fnOf "write" "Store.write" (defArgs sWrite) (defBody sWrite) (defScope sWrite) .none kV10 dc10 pm10 an10 cd10 ct10), sl10⟩)
    (c10 : codeIn K cd10 "Store.write" = true)
    (k10 : keepIn K (.ref f10) = true)
    (a11 : findIn K (.ref CS) "whole_text" = some (some (.ref f11)))
    (i11 : isFn K (.ref f11) = true)
    (l11 : K.lookup f11 = some ⟨oc11, od11, .func (fnOf "whole_text" "Store.whole_text" (defArgs sWhole) (defBody sWhole) (defScope sWhole) .none kV11 dc11 pm11 an11 cd11 ct11), sl11⟩)
    (c11 : codeIn K cd11 "Store.whole_text" = true)
    (k11 : keepIn K (.ref f11) = true)
    (a12 : findIn K (.ref CS) "asked_for" = some (some (.ref f12)))
    (i12 : isFn K (.ref f12) = true)
    (l12 : K.lookup f12 = some ⟨oc12, od12, .func (fnOf "asked_for" "Store.asked_for" (defArgs sAsked) (defBody sAsked) (defScope sAsked) .none kV12 dc12 pm12 an12 cd12 ct12), sl12⟩)
    (c12 : codeIn K cd12 "Store.asked_for" = true)
    (k12 : keepIn K (.ref f12) = true)
    (a13 : nsIn K mainGlobals "law" = some (some (.ref f13)))
    (l13 : K.lookup f13 = some ⟨oc13, od13, .func (fnOf "law" "law" (defArgs sLaw) (defBody sLaw) (defScope sLaw) .none kV13 dc13 pm13 an13 cd13 ct13), sl13⟩)
    (c13 : codeIn K cd13 "law" = true)
    (k13 : keepIn K (.ref f13) = true)
    (ld : K.lookup dT = some ⟨ocT, odT, .seq #[.none] nT, slT⟩)
    (z0 : nsIn K mainGlobals "isinstance" = some none)
    (z1 : nsIn K mainGlobals "int" = some none)
    (z2 : nsIn K mainGlobals "len" = some none)
    (z3 : nsIn K mainGlobals "range" = some none)
    (z4 : nsIn K mainGlobals "list" = some none)
    (z5 : nsIn K mainGlobals "max" = some none)
    (pgCS : plainGet K CS Str.empty = true)
    (hdCS : hasDictIn K CS = true)
    (poCS : plainOver K CS = true)
    (saCS : findIn K (.ref CS) "__setattr__" = some (some (.builtin "object.__setattr__")))
    (mkCS : makesIn K CS = true)
    (kcCS : keepIn K (.ref CS) = true)
    (nCS_fall : findIn K (.ref CS) "fall" = some none)
    (nCS_text : findIn K (.ref CS) "text" = some none)
    (nCS_asked : findIn K (.ref CS) "asked" = some none)
    (xFallen : excIn K CFallen [.type "ValueError", .type "Exception", .type "BaseException", .type "object"] "ValueError.__new__" = true)
    (clFallen : (clsIn K CFallen).isSome = true)
    (gaFallen : findIn K (.ref CFallen) "__getattribute__" = some (some (.builtin "BaseException.__getattribute__")))
    (ghFallen : findIn K (.ref CFallen) "__getattr__" = some none)
    (caFallen : findIn K (.ref CFallen) "__class__" = some (some (.builtin "object.__class__")))
    (moFallen : mroIn K CFallen (.type "object") = some true)
    (mbFallen : mroIn K CFallen (.type "BaseException") = some true)
    (hitFallenLentError : exmOne K (.ref CFallen) (.ref CLentError) = some true)
    (noAny : kitAny K (.ref CFallen) ([CDown, CNoBook].map Value.ref) = some false)
    (cg : specialIn K (.builtin "object.__class__") "__get__" = some (some (.builtin "getset_descriptor.__get__")))
    (ct : takesIn K (.builtin "object.__class__") = some true) :
    ∃ fd : FuncData, (∀ (s : Shared) (v : Value), BindsTo s fd ⟨[v], []⟩ [("_law_script", v)]) ∧ ∀ base : Heap, K.In base → base.Ns mainGlobals mg → BmAt base mg → FnOk l.prog w K mg base CX0 6 fa fd ["_law_script"] (spLaw K T) := by
  have e := hfa.symm.trans (mg_of X G a13)
  cases e
  have B : Gb mg := ⟨mg_none_of X G z0, mg_none_of X G z1, mg_none_of X G z2, mg_none_of X G z3, mg_none_of X G z4, mg_none_of X G z5⟩
  have F1 := fun_mk (st := sCell) l1 c1 k1
  have b1 := F1.binds (ps := ["_law_script", "_law_at"]) fun _ _ _ _ _ _ us hl => by obtain ⟨a0_, a1_, rfl⟩ := len2 hl; rfl
  have M1 := mg_of X G a1
  have F2 := fun_mk (st := sTape) l2 c2 k2
  have b2 := F2.binds (ps := ["_law_cell"]) fun _ _ _ _ _ _ us hl => by obtain ⟨a0_, rfl⟩ := len1 hl; rfl
  have M2 := mg_of X G a2
  have F3 := fun_mk (st := sTake) l3 c3 k3
  have b3 := F3.binds (ps := ["_law_tape_here", "_law_many"]) fun _ _ _ _ _ _ us hl => by obtain ⟨a0_, a1_, rfl⟩ := len2 hl; rfl
  have M3 := mg_of X G a3
  have F4 := fun_mk (st := sText) l4 c4 k4
  have b4 := F4.binds (ps := ["_law_tape_here"]) fun _ _ _ _ _ _ us hl => by obtain ⟨a0_, rfl⟩ := len1 hl; rfl
  have M4 := mg_of X G a4
  have F5 := func_mk (st := sFall) l5 c5 k5
  have b5 := F5.toFun.binds (ps := ["_law_answers", "_law_counts", "_law_seen", "_law_store"]) fun _ _ _ _ _ _ us hl => by obtain ⟨a0_, a1_, a2_, a3_, rfl⟩ := len4 hl; rfl
  have M5 := mg_of X G a5
  have F6 := fun_mk (st := sWrote) l6 c6 k6
  have b6 := F6.binds (ps := ["_law_store", "_law_text_here"]) fun _ _ _ _ _ _ us hl => by obtain ⟨a0_, a1_, rfl⟩ := len2 hl; rfl
  have M6 := mg_of X G a6
  have F7 := fun_mk (st := sMade) l7 c7 k7
  have b7 := F7.binds (ps := ["_law_tape_here"]) fun _ _ _ _ _ _ us hl => by obtain ⟨a0_, rfl⟩ := len1 hl; rfl
  have M7 := mg_of X G a7
  have F8 := fun_mk (st := sGoes) l8 c8 k8
  have b8 := F8.binds (ps := ["_law_one", "_law_text_here"]) fun _ _ _ _ _ _ us hl => by obtain ⟨a0_, a1_, rfl⟩ := len2 hl; rfl
  have M8 := mg_of X G a8
  have F10 := fun_mk (st := sWrite) l10 c10 k10
  have b10 := F10.binds (ps := ["self", "text"]) fun _ _ _ _ _ _ us hl => by obtain ⟨a0_, a1_, rfl⟩ := len2 hl; rfl
  have M10 : Meth K CS "write" f10 := ⟨a10, i10, k10⟩
  have F11 := fun_mk (st := sWhole) l11 c11 k11
  have b11 := F11.binds (ps := ["self"]) fun _ _ _ _ _ _ us hl => by obtain ⟨a0_, rfl⟩ := len1 hl; rfl
  have M11 : Meth K CS "whole_text" f11 := ⟨a11, i11, k11⟩
  have F12 := fun_mk (st := sAsked) l12 c12 k12
  have b12 := F12.binds (ps := ["self"]) fun _ _ _ _ _ _ us hl => by obtain ⟨a0_, rfl⟩ := len1 hl; rfl
  have M12 : Meth K CS "asked_for" f12 := ⟨a12, i12, k12⟩
  have F13 := fun_mk (st := sLaw) l13 c13 k13
  refine ⟨fnOf "law" "law" (defArgs sLaw) (defBody sLaw) (defScope sLaw) .none kV13 dc13 pm13 an13 cd13 ct13, fun s v => .of_eq rfl, fun base _ _ hB => ?_⟩
  have TS : Sl K mg CS := ⟨⟨pgCS, hdCS, poCS, saCS⟩, nCS_fall, nCS_text, nCS_asked, mg_of X G gCS⟩
  have TF : Fl K mg CFallen := ⟨mg_of X G nFallen, xFallen⟩
  have R : Rf K mg CLentError CFallen CDown CNoBook := ⟨mg_of X G nLentError, mg_of X G nFallen, mg_of X G nDown, mg_of X G nNoBook, ⟨xFallen, clFallen, gaFallen, ghFallen, caFallen, cg, ct, moFallen, mbFallen⟩, hitFallenLentError, noAny⟩
  have G9 : FnOk l.prog w K mg base CX0 1 f9 _ ["self", "fall"] (spInit CS) := ok_init l9 c9 TS
  have b9 : Binds K (fnOf "__init__" "Store.__init__" (defArgs sInit) (defBody sInit) (defScope sInit) (.ref dT) kV9 dc9 pm9 an9 cd9 ct9) ["self", "fall"] [] := fun s us KX hl => by obtain ⟨a_, b_, rfl⟩ := len2 (by simpa using hl); exact BindsTo.of_defaults rfl (KX _ _ ld) rfl rfl rfl
  have d9 : Binds K (fnOf "__init__" "Store.__init__" (defArgs sInit) (defBody sInit) (defScope sInit) (.ref dT) kV9 dc9 pm9 an9 cd9 ct9) ["self", "fall"] [.none] := fun s us KX hl => by obtain ⟨a_, rfl⟩ := len1 (show us.length = 1 by simpa using hl); exact BindsTo.of_defaults rfl (KX _ _ ld) rfl rfl rfl
  have G1 : FnOk l.prog w K mg base CX0 1 f1 _ ["_law_script", "_law_at"] (spCell K) := ok_cell F1 B
  have G2 : FnOk l.prog w K mg base CX0 1 f2 _ ["_law_cell"] spTape := ok_tape F2 B
  have G3 : FnOk l.prog w K mg base CX0 1 f3 _ ["_law_tape_here", "_law_many"] spTake := ok_take F3
  have G4 : FnOk l.prog w K mg base CX0 2 f4 _ ["_law_tape_here"] spText := ok_text F4 B G3 k3 b3 M3
  have G11 : FnOk l.prog w K mg base CX0 1 f11 _ ["self"] (spWhole CS) := ok_whole F11 TS
  have G12 : FnOk l.prog w K mg base CX0 1 f12 _ ["self"] (spAsked CS) := ok_asked F12 TS
  have G10 : FnOk l.prog w K mg base CX0 3 f10 _ ["self", "text"] (spWriteN CS) := ok_writeN F10 TS
  have N10 : FnOk l.prog w K mg base (CXE l.prog w) 3 f10 _ ["self", "text"] (spWriteF (pmOf mg) CS CFallen) := ok_writeF F10 B TS TF G11 b11 M11
  have G5 : FnOk l.prog w K mg base CX0 1 f5 _ ["_law_answers", "_law_counts", "_law_seen", "_law_store"] (spFall (pmOf mg) T) := ok_fall F5 t5 hB
  have G6 : FnOk l.prog w K mg base CX0 4 f6 _ ["_law_store", "_law_text_here"] (spWroteN CS) := ok_wroteN F6 TS R G10 b10 M10
  have N6 : FnOk l.prog w K mg base CX0 4 f6 _ ["_law_store", "_law_text_here"] (spWroteF (pmOf mg) CS) := ok_wroteF F6 B TS R N10 b10 M10
  have G8 : FnOk l.prog w K mg base CX0 5 f8 _ ["_law_one", "_law_text_here"] (spGoes (pmOf mg) CS) := ok_goes F8 B N6 k6 b6 M6
  have G7 : FnOk l.prog w K mg base CX0 3 f7 _ ["_law_tape_here"] (spMade (pmOf mg) CS T) := ok_made F7 B TS (G3.mono (by decide)) k3 b3 M3 G9 b9 ⟨mkCS, a9, i9, kcCS⟩ (G5.mono (by decide)) k5 b5 M5
  exact ok_law F13 B TS (G1.mono (by decide)) k1 b1 M1 (G2.mono (by decide)) k2 b2 M2 (G7.mono (by decide)) k7 b7 M7 (G3.mono (by decide)) k3 b3 M3 (G4.mono (by decide)) k4 b4 M4 G8 k8 b8 M8 (G6.mono (by decide)) k6 b6 M6 (G9.mono (by decide)) b9 d9 ⟨mkCS, a9, i9, kcCS⟩ (G11.mono (by decide)) b11 M11 (G12.mono (by decide)) b12 M12
theorem tabsOk {h : Heap} {T cT : Addr} (aT : h.get? T = some (tabObj #[])) (bT : CodeHd h cT T) : ∀ p ∈ [T], h.get? p = some (tabObj #[]) ∧ isCodeTable h p := all_cons ⟨aT, (bT.tab aT).isCodeTable⟩ all_nil
theorem walk {l : OpenLaw} {q : Program} {loose : List Str} {XP : (Str → Option Value) → Heap → Prop} {YP : World → Heap → Prop} {d : DefRec} {K : Params → Frag} {T : Addr} (hn : l.most = some 63) (hdf : d.params.defaults = [])
    (hY : ∀ (w : World) (h : Heap), YP w h → (K w.params).In h ∧ noTabs (K w.params) = true ∧ ∀ p ∈ [T], h.get? p = some (tabObj #[]) ∧ isCodeTable h p)
    (F : ∀ (w : World) (mg : Str → Option Value) (fa : Addr) (h : Heap), (K w.params).In h → h.Ns mainGlobals mg → mg d.name = some (.ref fa) →
      ∃ fd : FuncData, (∀ (s : Shared) (u : Value), BindsTo s fd ⟨[u], []⟩ [("_law_script", u)]) ∧ ∀ base : Heap, (K w.params).In base → base.Ns mainGlobals mg → BmAt base mg → FnOk l.prog w (K w.params) mg base CX0 6 fa fd ["_law_script"] (spLaw (K w.params) T)) :
    WalkO q loose XP YP l.row.toRowW d [] (fun f vs => PySem.call f vs) :=
  L2.walk_ofT (ts := [T]) (n := 63) (k := 6) (x := "_law_script") (CX := fun _ => CX0) (sp := fun w => spLaw (K w.params) T) hn (by decide) hdf ⟨rfl, by decide, by decide⟩ hY F (fun _ _ a ns hl _ hT hS => ⟨a, ns, rfl, hS, hl, hT _ (by simp), fun _ => rfl⟩) fun _ _ _ _ _ z => z
end Lv
open PySem PySem.W PyProof.Rows
set_option maxRecDepth 100000 in
set_option maxHeartbeats 0 in
theorem PySem.Challenge.cw_lentwork_k41_stores_holds : PySem.Challenge.rw_lentwork_k41_stores.Holds := by
  w_on; o_law; k_head; (case hw => w_witness2)
  k_fill
  refine Lv.walk (l := PySem.Challenge.rw_lentwork_k41_stores) (T := 155) rfl rfl (fun w h Y => ⟨km_in_of Y, by kernel_rfl, Lv.tabsOk (km_tabs_of Y 155 (by k_mem)) (codeHd_of_K (c := 159) (P := 155) (km_in_of Y) (by kernel_rfl))⟩) ?F
  case F =>
    intro w mg fa h KX G hmg
    refine' Lv.all_mk (T := 155) KX G hmg ?gCS ?nLentError ?nFallen ?nDown ?nNoBook ?a1 ?l1 ?c1 ?k1 ?a2 ?l2 ?c2 ?k2 ?a3 ?l3 ?c3 ?k3 ?a4 ?l4 ?c4 ?k4 ?a5 ?l5 ?c5 ?k5 ?t5 ?a6 ?l6 ?c6 ?k6 ?a7 ?l7 ?c7 ?k7 ?a8 ?l8 ?c8 ?k8 ?a9 ?i9 ?l9 ?c9 ?k9 ?a10 ?i10 ?l10 ?c10 ?k10 ?a11 ?i11 ?l11 ?c11 ?k11 ?a12 ?i12 ?l12 ?c12 ?k12 ?a13 ?l13 ?c13 ?k13 ?ld ?z0 ?z1 ?z2 ?z3 ?z4 ?z5 ?pgCS ?hdCS ?poCS ?saCS ?mkCS ?kcCS ?nCS_fall ?nCS_text ?nCS_asked ?xFallen ?clFallen ?gaFallen ?ghFallen ?caFallen ?moFallen ?mbFallen ?hitFallenLentError ?noAny ?cg ?ct
    (case gCS => k_is)
    (case nLentError => k_is)
    (case nFallen => k_is)
    (case nDown => k_is)
    (case nNoBook => k_is)
    (case a1 => k_is)
    (case l1 => k_is)
    (case c1 => k_is)
    (case k1 => k_is)
    (case a2 => k_is)
    (case l2 => k_is)
    (case c2 => k_is)
    (case k2 => k_is)
    (case a3 => k_is)
    (case l3 => k_is)
    (case c3 => k_is)
    (case k3 => k_is)
    (case a4 => k_is)
    (case l4 => k_is)
    (case c4 => k_is)
    (case k4 => k_is)
    (case a5 => k_is)
    (case l5 => k_is)
    (case c5 => k_is)
    (case k5 => k_is)
    (case t5 => kernel_rfl)
    (case a6 => k_is)
    (case l6 => k_is)
    (case c6 => k_is)
    (case k6 => k_is)
    (case a7 => k_is)
    (case l7 => k_is)
    (case c7 => k_is)
    (case k7 => k_is)
    (case a8 => k_is)
    (case l8 => k_is)
    (case c8 => k_is)
    (case k8 => k_is)
    (case a9 => k_is)
    (case i9 => k_is)
    (case l9 => k_is)
    (case c9 => k_is)
    (case k9 => k_is)
    (case a10 => k_is)
    (case i10 => k_is)
    (case l10 => k_is)
    (case c10 => k_is)
    (case k10 => k_is)
    (case a11 => k_is)
    (case i11 => k_is)
    (case l11 => k_is)
    (case c11 => k_is)
    (case k11 => k_is)
    (case a12 => k_is)
    (case i12 => k_is)
    (case l12 => k_is)
    (case c12 => k_is)
    (case k12 => k_is)
    (case a13 => k_is)
    (case l13 => k_is)
    (case c13 => k_is)
    (case k13 => k_is)
    (case ld => k_is)
    (case z0 => k_is)
    (case z1 => k_is)
    (case z2 => k_is)
    (case z3 => k_is)
    (case z4 => k_is)
    (case z5 => k_is)
    (case pgCS => k_is)
    (case hdCS => k_is)
    (case poCS => k_is)
    (case saCS => k_is)
    (case mkCS => k_is)
    (case kcCS => k_is)
    (case nCS_fall => k_is)
    (case nCS_text => k_is)
    (case nCS_asked => k_is)
    (case xFallen => k_exc)
    (case clFallen => kernel_rfl)
    (case gaFallen => k_is)
    (case ghFallen => k_is)
    (case caFallen => k_is)
    (case moFallen => k_is)
    (case mbFallen => k_is)
    (case hitFallenLentError => kernel_rfl)
    (case noAny => kernel_rfl)
    (case cg => k_is)
    (case ct => k_is)

