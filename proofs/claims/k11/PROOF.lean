import PyProof.Rows.All
import Wide.All
import OpenK.AllK
import Wide.FinOn
import Lean
import PyProof.EqAt
import PyProof.EqKinds
import PyProof.TupleCall
import PySem.Challenge.RW_lentwork_k11_results_laid
set_option Elab.async false
set_option linter.all false
set_option maxRecDepth 100000
/-! THE HAND LAYER, for ints, bools, texts, own classes, LISTS and tuples (index, slices, in, append, pop ..), calls, loops. Paste it whole ahead of your own text; what your proof does not reach may be deleted. -/
namespace L2
open PySem PySem.Spec PyProof.Rows

/-- a key: an int or a str -/
abbrev Key := Sum Int Str
def keyIs : Key → Value → Bool
  | .inl k, v => Value.isInt k v
  | .inr x, v => Value.isStrOf x v
def keyH (w : World) : Key → Int
  | .inl k => hashInt k
  | .inr x => hashStr w x
theorem keyIs_shape : ∀ {k : Key} {v : Value}, keyIs k v = true → (∃ i t, k = Sum.inl i ∧ v = Value.int i t) ∨ (∃ x t, k = Sum.inr x ∧ v = Value.str x t)
  | .inl i, v, h => by
    obtain ⟨t, e⟩ := Value.isInt_shape (k := i) (v := v) h
    exact .inl ⟨i, t, rfl, e⟩
  | .inr x, v, h => by
    obtain ⟨t, e⟩ := Value.isStrOf_shape (x := x) (v := v) h
    exact .inr ⟨x, t, rfl, e⟩
theorem keyIs_int (i : Int) (t : Tok) : keyIs (.inl i) (.int i t) = true := by simp [keyIs, Value.isInt]
theorem keyIs_str (x : Str) (t : Tok) : keyIs (.inr x) (.str x t) = true := by simp [keyIs, Value.isStrOf]
theorem key_ll (a b : Int) : decide ((Sum.inl a : Key) = Sum.inl b) = (a == b) := by
  by_cases e : a = b
  · subst e; simp
  · have h : ¬ (Sum.inl a : Key) = Sum.inl b := fun q => e (Sum.inl.inj q)
    rw [decide_eq_false h]
    exact (beq_eq_false_iff_ne.mpr e).symm
theorem key_rr (a b : Str) : decide ((Sum.inr a : Key) = Sum.inr b) = decide (a = b) := by
  by_cases e : a = b
  · subst e; simp
  · have h : ¬ (Sum.inr a : Key) = Sum.inr b := fun q => e (Sum.inr.inj q)
    rw [decide_eq_false h, decide_eq_false e]
theorem key_lr (a : Int) (b : Str) : decide ((Sum.inl a : Key) = Sum.inr b) = false := decide_eq_false (fun q => nomatch q)
theorem key_rl (a : Str) (b : Int) : decide ((Sum.inr a : Key) = Sum.inl b) = false := decide_eq_false (fun q => nomatch q)

def mixKind (prog : Program) (w : World) : PySem.KeyKind prog w Key where
  is := keyIs
  hash := keyH w
  inj := fun v a b ha hb => by
    rcases keyIs_shape ha with ⟨i, t, rfl, rfl⟩ | ⟨x, t, rfl, rfl⟩
    · rcases keyIs_shape hb with ⟨j, u, rfl, e⟩ | ⟨y, u, rfl, e⟩
      · injection e with e1 _; rw [e1]
      · exact nomatch e
    · rcases keyIs_shape hb with ⟨j, u, rfl, e⟩ | ⟨y, u, rfl, e⟩
      · exact nomatch e
      · injection e with e1 _; rw [e1]
  byValue := fun k v h => by
    rcases keyIs_shape h with ⟨i, t, rfl, rfl⟩ | ⟨x, t, rfl, rfl⟩ <;> rfl
  pyHash := fun hv h => by
    rcases keyIs_shape hv with ⟨i, t, rfl, rfl⟩ | ⟨x, t, rfl, rfl⟩
    · exact wpAny_pyHash_int h
    · exact wpAny_pyHash_str h
  eqBool := fun hu hv h => by
    rcases keyIs_shape hu with ⟨i, t, rfl, rfl⟩ | ⟨x, t, rfl, rfl⟩
    · rcases keyIs_shape hv with ⟨j, u, rfl, rfl⟩ | ⟨y, u, rfl, rfl⟩
      · rw [key_ll] at h; exact wpAny_eqBool_int h
      · rw [key_lr] at h; exact SeqAt.EqAt.int_str i t y u _ _ _ _ h
    · rcases keyIs_shape hv with ⟨j, u, rfl, rfl⟩ | ⟨y, u, rfl, rfl⟩
      · rw [key_rl] at h; exact SeqAt.EqAt.str_int x t j u _ _ _ _ h
      · rw [key_rr] at h; exact wpAny_eqBool_str h
  «strs» := fun k x t v h => by
    rcases keyIs_shape h with ⟨i, u, rfl, e⟩ | ⟨y, u, rfl, e⟩
    · exact nomatch e
    · injection e with e1 _
      subst e1
      cases v <;> rfl

theorem mixKind_is (prog : Program) (w : World) (k : Key) (v : Value) : (mixKind prog w).is k v = keyIs k v := rfl
theorem mixKind_int (prog : Program) (w : World) (i : Int) (t : Tok) : (mixKind prog w).is (.inl i) (.int i t) = true := keyIs_int i t
theorem mixKind_str (prog : Program) (w : World) (x : Str) (t : Tok) : (mixKind prog w).is (.inr x) (.str x t) = true := keyIs_str x t
end L2

namespace L2
open PySem PySem.Spec PyProof.Rows

/-- a value, without the heap -/
inductive V where
  | non | bl (b : Bool) | int (i : Int) | str (x : Str) | byt (b : Array UInt8) | flt (b : UInt64) | ref (a : Addr) | ty (n : String)
  deriving DecidableEq

def RelV : V → Value → Prop
  | .non, u => u = Value.none
  | .bl b, u => u = Value.bool b
  | .int i, u => ∃ t, u = Value.int i t
  | .str x, u => ∃ t, u = Value.str x t
  | .byt b, u => ∃ t, u = Value.bytes b t
  | .flt b, u => ∃ t, u = Value.float b t
  | .ref a, u => u = Value.ref a
  | .ty n, u => u = Value.type n

abbrev Vals : List V → List Value → Prop := Paired RelV
theorem Vals.length {xs : List V} {us : List Value} (r : Vals xs us) : xs.length = us.length := Paired.length r
theorem Vals.get : ∀ {xs : List V} {us : List Value} {i : Nat} {x : V}, Vals xs us → xs[i]? = some x → ∃ u, us[i]? = some u ∧ RelV x u
  | _, _, _, _, .nil, e => by simp at e
  | _, _, 0, _, .cons r _, e => by simp at e; subst e; exact ⟨_, rfl, r⟩
  | _, _, i + 1, x, .cons _ t, e => by
    obtain ⟨u, h1, h2⟩ := Vals.get (i := i) (x := x) t (by simpa using e)
    exact ⟨u, by simpa using h1, h2⟩
theorem Vals.set {x : V} {u : Value} (r : RelV x u) : ∀ {xs : List V} {us : List Value} (i : Nat), Vals xs us → Vals (xs.set i x) (us.set i u)
  | _, _, _, .nil => .nil
  | _, _, 0, .cons _ t => .cons r t
  | _, _, i + 1, .cons q t => .cons q (Vals.set r i t)
theorem Vals.append : ∀ {xs ys : List V} {us ws : List Value}, Vals xs us → Vals ys ws → Vals (xs ++ ys) (us ++ ws)
  | _, _, _, _, .nil, s => s
  | _, _, _, _, .cons r t, s => .cons r (Vals.append t s)
theorem Vals.take : ∀ {xs : List V} {us : List Value} (n : Nat), Vals xs us → Vals (xs.take n) (us.take n)
  | _, _, 0, _ => .nil
  | _, _, _ + 1, .nil => .nil
  | _, _, n + 1, .cons r t => .cons r (Vals.take n t)
theorem Vals.drop : ∀ {xs : List V} {us : List Value} (n : Nat), Vals xs us → Vals (xs.drop n) (us.drop n)
  | _, _, 0, r => r
  | _, _, _ + 1, .nil => .nil
  | _, _, n + 1, .cons _ t => Vals.drop n t

def RelO : Option V → Option Value → Prop
  | some v, some u => RelV v u
  | none, none => True
  | _, _ => False
def KV {κ : Type} : List (κ × V) → List (κ × Value) → Prop := Paired fun (p : κ × V) (q : κ × Value) => p.1 = q.1 ∧ RelV p.2 q.2

/-- a key of a dict (00_mix): an int or a text -/
def kV : Key → V
  | .inl i => .int i
  | .inr x => .str x

/-- what stands at a tracked address -/
inductive HO where
  /-- a list -/
  | lst (xs : List V)
  /-- a tuple (never changes) -/
  | tup (xs : List V)
  /-- a dict whose keys are ints and texts; one whose keys are tuples of ints and texts (the empty one is both) -/
  | dK (kvs : List (Key × V)) | dT (kvs : List (List Key × V))
  /-- a set of ints: its members, its size -/
  | set (S : Int → Bool) (n : Nat)
  /-- an instance of the class at C, its dict at dx, its attributes -/
  | ins (C dx : Addr) (fs : List (Str × V))
  /-- the dict of the instance at x -/
  | own (x : Addr)
  /-- the dict of an exception -/
  | xd (fs : List (Str × V))
  /-- a bound method, f of x -/
  | met (f x : Addr)
  /-- a range object lo, lo + 1, .. below hi -/
  | rng (lo hi : Int)
  /-- a thing that is known to the object (the script; a dict while a loop walks it): read, never written while it is so -/
  | frz (o : Obj) (u : HO)
  /-- a code object's table -/
  | tbl (ps : Array Value)
  /-- any other thing, by what is true of its one object (a def of one's own: SetO a S n := HO.ext fun h => ..) -/
  | ext (φ : Heap → Prop)

abbrev Hp := Addr → Option HO
def upd (H : Hp) (a : Addr) (o : HO) : Hp := fun b => if b = a then some o else H b
theorem upd_same {H : Hp} {a : Addr} {o : HO} : upd H a o a = some o := by unfold upd; rw [if_pos rfl]
theorem upd_ne {H : Hp} {a b : Addr} {o : HO} (h : b ≠ a) : upd H a o b = H b := by unfold upd; rw [if_neg h]
/-- two objects of different content stand apart -/
theorem ne_of {H : Hp} {a b : Addr} {o u : HO} (h : H a = some o) (h' : H b = some u) (d : o ≠ u) : a ≠ b := by
  intro e; subst e; rw [h] at h'; exact d (Option.some.inj h')
theorem ne_of_none {H : Hp} {a b : Addr} {o : HO} (h : H a = some o) (h' : H b = none) : a ≠ b := by
  intro e; subst e; rw [h] at h'; cases h'

section
variable (P : Program) (w : World)
def ObjOk (H : Hp) (h : Heap) (a : Addr) : HO → Prop
  | .lst xs => xs.length ≤ sizeLine ∧ ∃ (its : List Value) (n : Nat), Vals xs its ∧ h.get? a = some { cls := .type "list", data := .seq its.toArray n }
  | .tup xs => xs.length ≤ sizeLine ∧ ∃ its : List Value, Vals xs its ∧ IsTup h a its.toArray
  | .dK kvs => kvs.length ≤ sizeLine ∧ (a == sysModules) = false ∧ ∃ vs, KV kvs vs ∧ h.DictOf (mixKind P w) a vs
  | .dT kvs => kvs.length ≤ sizeLine ∧ (a == sysModules) = false ∧ ∃ xs : List (List Key × Addr × Value),
      Paired (fun (p : List Key × V) (q : List Key × Addr × Value) => p.1 = q.1 ∧ H q.2.1 = some (.tup (p.1.map kV)) ∧ RelV p.2 q.2.2) kvs xs ∧
      ∃ o es ep, h.get? a = some o ∧ o.ExactDict ∧ o.data = .dict es ep ∧ es.toList = xs.map (entryOfKey (tupleKind (mixKind P w))) ∧ (xs.map (·.1)).Nodup
  | .set S n => h.SetOf (intKind P w) a S n
  | .ins C dx fs => H dx = some (.own a) ∧ fs.length ≤ 1000 ∧ dx ≠ a ∧ h.get? a = some (PySem.W.instObj C dx) ∧
      ∃ mA, h.Ns1 dx mA ∧ (∀ f, RelO (fs.lookup f) (mA f)) ∧ PySem.Within mA (fs.map (·.1))
  | .own _ => ∃ o, h.get? a = some o
  | .xd fs => ∃ mA, h.Ns1 a mA ∧ ∀ f, RelO (fs.lookup f) (mA f)
  | .rng lo hi => ∃ t u v, h.get? a = some { cls := .type "range", data := .fields #[.int lo t, .int hi u, .int 1 v] }
  | .frz o u => h.get? a = some o ∧ ObjOk H h a u
  | .tbl ps => h.get? a = some { cls := .none, data := .fields ps }
  | .met f x => h.get? a = some (PySem.W.methodObj (.ref f) (.ref x))
  | .ext φ => φ h ∧ (∃ o, h.get? a = some o) ∧ ∀ h1 h2 : Heap, φ h1 → (∀ o, h1.get? a = some o → h2.get? a = some o) → φ h2
/-- the abstract heap is held -/
def HOk (H : Hp) (h : Heap) : Prop := ∀ a o, H a = some o → ObjOk P w H h a o
end

section
variable {P : Program} {w : World} {H H' : Hp} {h h' : Heap} {a : Addr} {o : HO}
theorem ObjOk.lt (x : ObjOk P w H h a o) : a < h.objs.size := by
  cases o with
  | lst xs => obtain ⟨_, _, _, _, e⟩ := x; exact Heap.lt_size e
  | tup xs => obtain ⟨_, _, _, p⟩ := x; exact p.lt
  | dK kvs => obtain ⟨_, _, _, _, o, _, _, e, _⟩ := x; exact Heap.lt_size e
  | dT kvs => obtain ⟨_, _, _, _, o, _, _, e, _⟩ := x; exact Heap.lt_size e
  | set S n => obtain ⟨o, _, _, _, e, _⟩ := x; exact Heap.lt_size e
  | ins C dx fs => obtain ⟨_, _, _, e, _⟩ := x; exact Heap.lt_size e
  | own y => obtain ⟨_, e⟩ := x; exact Heap.lt_size e
  | xd fs => obtain ⟨_, ⟨_, _, _, e, _⟩, _⟩ := x; exact Heap.lt_size e
  | rng lo hi => obtain ⟨_, _, _, e⟩ := x; exact Heap.lt_size e
  | frz ob u => obtain ⟨e, _⟩ := x; exact Heap.lt_size e
  | tbl ps => exact Heap.lt_size (show h.get? a = some _ from x)
  | met f y => exact Heap.lt_size (show h.get? a = some _ from x)
  | ext φ => obtain ⟨_, ⟨_, e⟩, _⟩ := x; exact Heap.lt_size e
theorem Paired.mapP {α β : Type} {F G : α → β → Prop} : ∀ {l₁ : List α} {l₂ : List β}, Paired F l₁ l₂ → (∀ a b, F a b → G a b) → Paired G l₁ l₂
  | _, _, .nil, _ => .nil
  | _, _, .cons r t, f => .cons (f _ _ r) (Paired.mapP t f)
/-- what an object's description leans on: its own object, its own dict, the tuples -/
theorem ObjOk.stay (x : ObjOk P w H h a o) (k : ∀ b u, (b = a ∨ H b = some (.own a)) → h.get? b = some u → h'.get? b = some u)
    (ho : ∀ b, H b = some (.own a) → H' b = some (.own a)) (ht : ∀ b xs, H b = some (.tup xs) → H' b = some (.tup xs)) : ObjOk P w H' h' a o := by
  induction o with
  | lst xs => obtain ⟨z, its, n, r, e⟩ := x; exact ⟨z, its, n, r, k _ _ (.inl rfl) e⟩
  | tup xs => obtain ⟨z, its, r, ob, e, c⟩ := x; exact ⟨z, its, r, ob, k _ _ (.inl rfl) e, c⟩
  | dK kvs => obtain ⟨z, y, vs, r, ob, es, ep, e, c⟩ := x; exact ⟨z, y, vs, r, ob, es, ep, k _ _ (.inl rfl) e, c⟩
  | dT kvs =>
    obtain ⟨z, y, xs, r, ob, es, ep, e, c⟩ := x
    exact ⟨z, y, xs, Paired.mapP r fun p q z => ⟨z.1, ht _ _ z.2.1, z.2.2⟩, ob, es, ep, k _ _ (.inl rfl) e, c⟩
  | set S n => obtain ⟨ob, es, ep, t, e, c⟩ := x; exact ⟨ob, es, ep, t, k _ _ (.inl rfl) e, c⟩
  | ins C dx fs =>
    obtain ⟨d, z, ne, e, mA, ⟨od, es, ep, e2, c⟩, r⟩ := x
    exact ⟨ho _ d, z, ne, k _ _ (.inl rfl) e, mA, ⟨od, es, ep, k _ _ (.inr d) e2, c⟩, r⟩
  | own y => obtain ⟨ob, e⟩ := x; exact ⟨ob, k _ _ (.inl rfl) e⟩
  | xd fs => obtain ⟨mA, ⟨od, es, ep, e, c⟩, r⟩ := x; exact ⟨mA, ⟨od, es, ep, k _ _ (.inl rfl) e, c⟩, r⟩
  | rng lo hi => obtain ⟨t, u, v, e⟩ := x; exact ⟨t, u, v, k _ _ (.inl rfl) e⟩
  | frz ob u ih => obtain ⟨e, q⟩ := x; exact ⟨k _ _ (.inl rfl) e, ih q⟩
  | tbl ps =>
    have e : h.get? a = some { cls := .none, data := .fields ps } := x
    show h'.get? a = some { cls := .none, data := .fields ps }
    exact k a _ (.inl rfl) e
  | met f y =>
    have e : h.get? a = some (PySem.W.methodObj (.ref f) (.ref y)) := x
    show h'.get? a = some (PySem.W.methodObj (.ref f) (.ref y))
    exact k a _ (.inl rfl) e
  | ext φ => obtain ⟨p, ⟨o, e⟩, st⟩ := x; exact ⟨st _ _ p fun o q => k _ _ (.inl rfl) q, ⟨o, k _ _ (.inl rfl) e⟩, st⟩
theorem HOk.lt (x : HOk P w H h) (e : H a = some o) : a < h.objs.size := (x a o e).lt
theorem HOk.fresh (x : HOk P w H h) (e : h.objs.size ≤ a) : H a = none := by
  cases q : H a with
  | none => rfl
  | some u => exact absurd (Nat.lt_of_lt_of_le (x.lt q) e) (Nat.lt_irrefl _)
/-- every object of the heap is kept -/
theorem HOk.kept (x : HOk P w H h) (k : ∀ b u, h.get? b = some u → h'.get? b = some u) : HOk P w H h' := fun a o e =>
  (x a o e).stay (fun b u _ q => k b u q) (fun _ q => q) fun _ _ q => q
/-- a new object is laid and tracked -/
theorem HOk.laid (x : HOk P w H h) (k : ∀ b u, h.get? b = some u → h'.get? b = some u) (hp : h.objs.size ≤ a) (new : ObjOk P w (upd H a o) h' a o) : HOk P w (upd H a o) h' := fun b u e => by
  have hn := x.fresh hp
  by_cases hb : b = a
  · subst hb; rw [upd_same] at e; cases e; exact new
  · rw [upd_ne hb] at e
    exact (x b u e).stay (fun c v _ q => k c v q) (fun c q => by rw [upd_ne (ne_of_none q hn)]; exact q) fun c xs q => by rw [upd_ne (ne_of_none q hn)]; exact q
end

/-- what may be read as u: it is u, or a known u -/
def Rd (H : Hp) (a : Addr) (u : HO) : Prop := H a = some u ∨ ∃ o, H a = some (.frz o u)
theorem Rd.ok {P : Program} {w : World} {H : Hp} {h : Heap} {a : Addr} {u : HO} (r : Rd H a u) (x : HOk P w H h) : ObjOk P w H h a u := by
  rcases r with r | ⟨o, r⟩
  · exact x a u r
  · obtain ⟨_, q⟩ := x a _ r
    exact q
/-- what may be written -/
def Mut : Option HO → Prop
  | some (.lst _) => True
  | some (.dK _) => True
  | some (.dT _) => True
  | some (.set _ _) => True
  | some (.ins _ _ _) => True
  | some (.ext _) => True
  | _ => False
section
variable {P : Program} {w : World} {H : Hp} {h h' : Heap} {x e : Addr} {o' : HO}
/-- the object at e is changed: x itself, or the dict of the instance x -/
theorem HOk.write (ok : HOk P w H h) (mu : Mut (H x)) (he : e = x ∨ H e = some (.own x)) (k : ∀ b u, b ≠ e → h.get? b = some u → h'.get? b = some u) (heo : ∃ u, h'.get? e = some u)
    (new : ObjOk P w (upd H x o') h' x o') : HOk P w (upd H x o') h' := fun b u q => by
  have nown : ∀ c y, H c = some (.own y) → c ≠ x := fun c y r z => by subst z; rw [r] at mu; exact mu
  have ntup : ∀ c xs, H c = some (.tup xs) → c ≠ x := fun c xs r z => by subst z; rw [r] at mu; exact mu
  by_cases hb : b = x
  · subst hb; rw [upd_same] at q; cases q; exact new
  · rw [upd_ne hb] at q
    by_cases hbe : b = e
    · have q' : H b = some (.own x) := by
        rcases he with z | z
        · exact absurd (hbe.trans z) hb
        · rw [hbe]; exact z
      rw [q] at q'; cases q'
      obtain ⟨v, hv⟩ := heo
      exact ⟨v, by rw [hbe]; exact hv⟩
    · refine (ok b u q).stay (fun c v hc r => k c v ?_ r) (fun c r => by rw [upd_ne (nown c b r)]; exact r) fun c xs r => by rw [upd_ne (ntup c xs r)]; exact r
      rcases hc with rfl | hc
      · exact hbe
      · rintro rfl
        rcases he with z | z
        · exact nown c b hc z
        · rw [hc] at z; cases z; exact hb rfl
end

/-! ### kept unless tracked; of the frames at fs (the callers') the slots may change (an exception that passes writes there); of the records at ex (iterators) nothing is said -/
structure Un (fs ex : List Addr) (H H' : Hp) (h h' : Heap) : Prop where
  keep : ∀ b o, h.get? b = some o → H b = none → b ∉ fs → b ∉ ex → h'.get? b = some o
  slot : ∀ b o, h.get? b = some o → H b = none → b ∈ fs → b ∉ ex → ∃ sl, h'.get? b = some { o with slots := sl }
  free : ∀ b o, h.get? b = some o → H b = none → b ∉ ex → H' b = none
  there : ∀ b o, h.get? b = some o → b ∉ ex → ∃ o', h'.get? b = some o'
  tups : ∀ b xs, H b = some (.tup xs) → H' b = some (.tup xs)
  frzs : ∀ b o u, H b = some (.frz o u) → H' b = some (.frz o u)
  tbls : ∀ b ps, H b = some (.tbl ps) → ∃ more, H' b = some (.tbl (ps ++ more))
section
variable {fs fs' ex ex' : List Addr} {H H1 H2 : Hp} {h h1 h2 h' : Heap} {a x e : Addr} {o : HO}
theorem Un.any (u : Un fs ex H H1 h h1) {b : Addr} {ob : Obj} (q : h.get? b = some ob) (n : H b = none) (hx : b ∉ ex) : ∃ sl, h1.get? b = some { ob with slots := sl } := by
  by_cases hb : b ∈ fs
  · exact u.slot b ob q n hb hx
  · exact ⟨ob.slots, u.keep b ob q n hb hx⟩
theorem Un.kept (k : ∀ b u, h.get? b = some u → h'.get? b = some u) : Un fs ex H H h h' :=
  ⟨fun b ob q _ _ _ => k b ob q, fun b ob q _ _ _ => ⟨ob.slots, k b ob q⟩, fun _ _ _ n _ => n, fun b ob q _ => ⟨ob, k b ob q⟩, fun _ _ q => q, fun _ _ _ q => q, fun _ ps q => ⟨#[], by rw [q]; simp⟩⟩
theorem Un.refl : Un fs ex H H h h := Un.kept fun _ _ q => q
theorem Un.laid (k : ∀ b u, h.get? b = some u → h'.get? b = some u) (hp : h.objs.size ≤ a) (hn : H a = none) : Un fs ex H (upd H a o) h h' where
  keep := fun b u q _ _ _ => k b u q
  slot := fun b u q _ _ _ => ⟨u.slots, k b u q⟩
  free := fun b u q n _ => by rw [upd_ne (Nat.ne_of_lt (Nat.lt_of_lt_of_le (Heap.lt_size q) hp))]; exact n
  there := fun b u q _ => ⟨u, k b u q⟩
  tups := fun b xs q => by rw [upd_ne (ne_of_none q hn)]; exact q
  frzs := fun b u xs q => by rw [upd_ne (ne_of_none q hn)]; exact q
  tbls := fun b ps q => ⟨#[], by rw [upd_ne (ne_of_none q hn), q]; simp⟩
theorem Un.write (mu : Mut (H x)) (he : e = x ∨ H e = some (.own x)) (k : ∀ b u, b ≠ e → h.get? b = some u → h'.get? b = some u) (heo : ∃ u, h'.get? e = some u) : Un fs ex H (upd H x o) h h' := by
  have hx : ∀ b, H b = none → b ≠ x := fun b n z => by subst z; rw [n] at mu; exact mu
  have hb : ∀ b, H b = none → b ≠ e := fun b n z => by
    subst z
    rcases he with r | r
    · exact hx b n r
    · rw [n] at r; cases r
  have hm : ∀ b u, H b = some u → ¬ Mut (some u) → b ≠ x := fun b u q nm z => by subst z; rw [q] at mu; exact nm mu
  refine ⟨fun b u q n _ _ => k b u (hb b n) q, fun b u q n _ _ => ⟨u.slots, k b u (hb b n) q⟩, fun b u q n _ => by rw [upd_ne (hx b n)]; exact n, fun b u q _ => ?_,
    fun b xs q => by rw [upd_ne (hm b _ q fun z => z)]; exact q, fun b u xs q => by rw [upd_ne (hm b _ q fun z => z)]; exact q, fun b ps q => ⟨#[], by rw [upd_ne (hm b _ q fun z => z), q]; simp⟩⟩
  by_cases hbe : b = e
  · subst hbe; exact heo
  · exact ⟨u, k b u hbe q⟩
end

/-! ### the heap without what is tracked -/
def trk (h : Heap) (H : Hp) : List Addr := (List.range h.objs.size).filter fun a => (H a).isSome
def hidT (h : Heap) (H : Hp) : Heap := PySem.W.hideAll h (trk h H)
theorem hidT_size (h : Heap) (H : Hp) : (hidT h H).objs.size = h.objs.size := PySem.W.hideAll_size _ _
theorem hidT_get {h : Heap} {H : Hp} {b : Addr} {o : Obj} (e : h.get? b = some o) (n : H b = none) : (hidT h H).get? b = some o :=
  PySem.W.hideAll_get _ e fun hm => by
    have q : (H b).isSome = true := (List.mem_filter.mp hm).2
    rw [n] at q; simp at q
theorem of_hidT {h : Heap} {H : Hp} {b : Addr} {o : Obj} (e : (hidT h H).get? b = some o) : h.get? b = some o ∧ H b = none := by
  have e' : h.get? b = some o := PySem.W.of_hideAll (trk h H) e
  refine ⟨e', ?_⟩
  cases q : H b with
  | none => rfl
  | some x =>
    have hm : b ∈ trk h H := List.mem_filter.mpr ⟨List.mem_range.mpr (Heap.lt_size e'), by simp [q]⟩
    have z : (hidT h H).get? b = none := PySem.W.hideAll_none (trk h H) hm
    rw [z] at e; cases e

/-! ### OpenK's ledger, filled with every new object but one -/
def allNews (g h : Heap) (L : Addr) : List (Addr × Obj) := (List.range h.objs.size).filterMap fun a => if a = L ∨ (g.get? a).isSome = true then none else (h.get? a).map fun o => (a, o)
theorem mem_allNews {g h : Heap} {L a : Addr} {o : Obj} (h1 : a ≠ L) (h2 : g.get? a = none) (h3 : h.get? a = some o) : (a, o) ∈ allNews g h L :=
  List.mem_filterMap.mpr ⟨a, List.mem_range.mpr (Heap.lt_size h3), by simp [h1, h2, h3]⟩
theorem of_mem_allNews {g h : Heap} {L : Addr} {p : Addr × Obj} (hp : p ∈ allNews g h L) : p.1 ≠ L ∧ g.get? p.1 = none ∧ h.get? p.1 = some p.2 := by
  obtain ⟨b, _, e⟩ := List.mem_filterMap.mp hp
  split at e
  · cases e
  · rename_i hn
    cases q : h.get? b with
    | none => rw [q] at e; simp at e
    | some u =>
      rw [q] at e
      simp only [Option.map_some, Option.some.injEq] at e
      subst e
      refine ⟨fun z => hn (.inl z), ?_, q⟩
      show g.get? b = none
      cases r : g.get? b with
      | none => rfl
      | some v => exact (hn (.inr (by simp [r]))).elim
theorem news_all {g h : Heap} {L : Addr} : News g L h (allNews g h L) := fun p hp => let ⟨a, b, c⟩ := of_mem_allNews hp; ⟨c, a, b⟩
end L2

namespace L2
open PySem PySem.Spec PyProof.Rows

/-- the module's facts, over the base: the heap at the law's entry without what is tracked there -/
structure Mod (K : PySem.W.Frag) (mg : Str → Option Value) (base : Heap) : Prop where
  kin : K.In base
  glob : base.Ns mainGlobals mg
  blt : ∃ mb, base.Ns builtinsNs mb ∧ ∀ x : Str, x ≠ "__name__" → mb x = bootBuiltins x
  nolimit : base.NoLimit

/-- the context: a def's body (or a comprehension's block) running. base: fixed through the whole law; s₀, H₀: the entry; outer: the frames whose slots others may change (a def's callers); stack: all frames that run;
   ex: iterators that were made ahead of the entry and are walked here (a comprehension's); fn: the names whose cells were made at the entry (a def: all; a comprehension's block: its own); calm: not within an except suite; pn: pins that every state bears; xe: what is wanted of an exception that leaves the code -/
structure Cx where
  prog : Program
  w : World
  K : PySem.W.Frag
  mg : Str → Option Value
  base : Heap
  A : Around
  N : List Str
  s₀ : Shared
  H₀ : Hp
  env : Env
  outer : List Env
  stack : List Env
  ex : List Addr
  fn : Str → Bool
  calm : Bool
  pn : List (Addr × Obj)
  xe : Value → Shared → Prop
/-- the callers' frames -/
def frs (l : List Env) : List Addr := l.filterMap (·.frame)
abbrev Cx.fs (X : Cx) : List Addr := frs X.outer

def Vis (sc : Scope) (x : Str) : Prop := sc.names.lookup x = some .local ∨ sc.names.lookup x = some .cell ∨ sc.names.lookup x = some .free
def Loc (sc : Scope) (x : Str) : Prop := sc.names.lookup x = some .local ∨ sc.names.lookup x = some .cell
def Look (env : Env) (h : Heap) (m : Str → Option Value) (x : Str) (u : Value) : Prop :=
  (env.kindOf x = some .local ∧ m x = some u) ∨ ((env.kindOf x = some .cell ∨ env.kindOf x = some .free) ∧ ∃ c, env.cells.lookup x = some c ∧ h.IsCell c (some u))

structure Cx.Ok (X : Cx) : Prop where
  mod : Mod X.K X.mg X.base
  kind : X.env.scope.kind = .function
  glob : X.env.globals = mainGlobals
  blt : X.env.builtins = builtinsNs
  above : X.s₀.heap.objs.size ≤ X.env.locals
  inj : ∀ x y c, X.env.cells.lookup x = some c → X.env.cells.lookup y = some c → x = y
  has : ∀ x, (X.env.kindOf x = some .cell ∨ X.env.kindOf x = some .free) → ∃ c, X.env.cells.lookup x = some c
  cab : ∀ x c, X.fn x = true → X.env.cells.lookup x = some c → X.s₀.heap.objs.size ≤ c
  hd : X.calm = true → X.A.handled = none
  frames : X.A.frames = some X.stack
  stk : X.stack = X.outer ∨ (X.stack = X.env :: X.outer ∧ X.env.frame = some X.env.locals)
  exf : ∀ b ∈ X.ex, b ≠ X.env.locals ∧ ∀ x c, X.env.cells.lookup x = some c → c ≠ b
  bs : ∀ b o, X.base.get? b = some o → X.s₀.heap.get? b = some o ∧ X.H₀ b = none
  bsz : X.base.objs.size ≤ X.s₀.heap.objs.size
  noex : ∀ b o, X.base.get? b = some o → b ∉ X.ex
  exfs : ∀ b ∈ X.ex, b ∉ X.fs
  funs : X.s₀.heap.FunFrames X.base X.outer
  frf : ∀ b ∈ X.fs, X.H₀ b = none

structure Inv (X : Cx) (pins : List (Addr × Obj)) (σ : List (Option V)) (H : Hp) (s : Shared) : Prop where
  ok : X.Ok
  os : s.os = X.s₀.os
  bare : AllBare s.gens
  base : Un X.fs X.ex X.H₀ H X.s₀.heap s.heap
  loc : ∃ m, s.heap.Ns X.env.locals m ∧ ∀ (i : Nat) (x : Str) (v : V), X.N[i]? = some x → σ[i]? = some (some v) → Vis X.env.scope x → ∃ u, RelV v u ∧ Look X.env s.heap m x u
  cell : ∀ x c, X.env.cells.lookup x = some c → ∃ v, s.heap.IsCell c v
  free : H X.env.locals = none
  freeC : ∀ x c, X.env.cells.lookup x = some c → H c = none
  pin : ∀ p ∈ X.pn ++ pins, s.heap.get? p.1 = some p.2 ∧ H p.1 = none ∧ p.1 ≠ X.env.locals ∧ p.1 ∉ X.fs ∧ ∀ v, p.2.data ≠ .cell v
  hok : HOk X.prog X.w H s.heap
  len : σ.length = X.N.length

section
variable {X : Cx} {pins : List (Addr × Obj)} {σ : List (Option V)} {H H' : Hp} {s : Shared} {h' : Heap}

theorem Cx.Ok.nofr (ok : X.Ok) {b : Addr} {o : Obj} (e : X.base.get? b = some o) : b ∉ X.fs := fun hb => by
  have := (ok.funs.mem hb).1
  rw [e] at this; cases this
theorem Inv.bs (I : Inv X pins σ H s) : ∀ b o, X.base.get? b = some o → s.heap.get? b = some o ∧ H b = none := fun b o e =>
  ⟨I.base.keep b o (I.ok.bs b o e).1 (I.ok.bs b o e).2 (I.ok.nofr e) (I.ok.noex b o e), I.base.free b o (I.ok.bs b o e).1 (I.ok.bs b o e).2 (I.ok.noex b o e)⟩
theorem Inv.bk (I : Inv X pins σ H s) : ∀ b o, X.base.get? b = some o → s.heap.get? b = some o := fun b o e => (I.bs b o e).1
theorem Inv.mod (I : Inv X pins σ H s) : Mod X.K X.mg X.base := I.ok.mod
theorem Inv.kIn (I : Inv X pins σ H s) : X.K.In s.heap := I.ok.mod.kin.keeps I.bk
/-- the frame over the base: for OpenK's rules (K.In X.base is I.mod.kin) -/
theorem Inv.fr (I : Inv X pins σ H s) : ∃ m, Fr X.base X.env.locals s.heap m :=
  let ⟨m, hn, _⟩ := I.loc
  ⟨m, hn, I.bk, Nat.le_trans I.ok.bsz I.ok.above⟩
theorem Inv.lt (I : Inv X pins σ H s) : X.env.locals < s.heap.objs.size := let ⟨_, hn, _⟩ := I.loc; hn.lt
theorem Inv.sz (I : Inv X pins σ H s) : X.s₀.heap.objs.size ≤ s.heap.objs.size := Nat.le_trans I.ok.above (Nat.le_of_lt I.lt)
theorem Inv.nofs (I : Inv X pins σ H s) {a : Addr} (h : s.heap.objs.size ≤ a) : a ∉ X.fs := fun hb => by
  obtain ⟨_, o, ho, _⟩ := I.ok.funs.mem hb
  exact absurd (Nat.lt_of_lt_of_le (Heap.lt_size ho) (Nat.le_trans I.sz h)) (Nat.lt_irrefl _)
theorem Inv.cne (I : Inv X pins σ H s) : ∀ x c, X.env.cells.lookup x = some c → c ≠ X.env.locals := fun x c e z => by
  obtain ⟨v, o, ho, hd⟩ := I.cell x c e
  obtain ⟨m, ⟨o', es, ep, ho', hd', _⟩, _⟩ := I.loc
  rw [z, ho'] at ho; cases ho; rw [hd'] at hd; cases hd
theorem Inv.funs (I : Inv X pins σ H s) : s.heap.FunFrames X.base X.outer := by
  have all : ∀ (l : List Env), (∀ b ∈ frs l, b ∈ X.fs) → X.s₀.heap.FunFrames X.base l → s.heap.FunFrames X.base l := by
    intro l
    induction l with
    | nil => intro _ _; trivial
    | cons env r ih =>
      intro hs hl
      obtain ⟨hk, ⟨L, o, hf, hn, ho, hd⟩, hr⟩ := hl
      have hL : L ∈ X.fs := hs L (by unfold frs; rw [List.filterMap_cons, hf]; exact List.mem_cons_self)
      obtain ⟨sl, e⟩ := I.base.slot L o ho (I.ok.frf L hL) hL fun z => I.ok.exfs L z hL
      exact ⟨hk, ⟨L, _, hf, hn, e, hd⟩, ih (fun b hb => hs b (by unfold frs; rw [List.filterMap_cons, hf]; exact List.mem_cons_of_mem _ hb)) hr⟩
  exact all X.outer (fun _ hb => hb) I.ok.funs

/-- the frames that run, for a call -/
theorem Inv.stack (I : Inv X pins σ H s) : s.heap.FunFrames X.base X.stack := by
  rcases I.ok.stk with e | ⟨e, hf⟩
  · rw [e]; exact I.funs
  · rw [e]
    obtain ⟨m, hn, _⟩ := I.loc
    refine .cons (by rw [I.ok.kind]; decide) hf hn ?_ I.funs
    exact Heap.get?_none_of_le (Nat.le_trans I.ok.bsz I.ok.above)
theorem Inv.stkSub (I : Inv X pins σ H s) : ∀ b ∈ frs X.stack, b ∈ X.env.locals :: X.fs := fun b hb => by
  rcases I.ok.stk with e | ⟨e, hf⟩
  · rw [e] at hb; exact List.mem_cons_of_mem _ hb
  · rw [e] at hb
    unfold frs at hb
    rw [List.filterMap_cons, hf] at hb
    exact hb
theorem Inv.stkFree (I : Inv X pins σ H s) : ∀ b ∈ frs X.stack, H b = none := fun b hb => by
  rcases List.mem_cons.mp (I.stkSub b hb) with e | hb
  · rw [e]; exact I.free
  · obtain ⟨_, o, ho, _⟩ := I.ok.funs.mem hb
    exact I.base.free b o ho (I.ok.frf b hb) fun z => I.ok.exfs b z hb

/-- THE STEP: the untracked objects but the frame and the records at ch are kept (the callers' frames up to slots), the frame's map is kept, the new abstract heap is held -/
theorem Inv.step {g' : Array GenState} {t' : Nat} {d' : Drawn} {ch : List Addr} (I : Inv X pins σ H s)
    (hch : ∀ b ∈ ch, (b ∈ X.ex ∨ X.s₀.heap.objs.size ≤ b) ∧ b ≠ X.env.locals ∧ (∀ x c, X.env.cells.lookup x = some c → c ≠ b) ∧ ∀ p ∈ X.pn ++ pins, p.1 ≠ b)
    (keep : ∀ b o, b ≠ X.env.locals → b ∉ X.fs → b ∉ ch → s.heap.get? b = some o → H b = none → h'.get? b = some o)
    (slot : ∀ b o, b ≠ X.env.locals → b ∈ X.fs → b ∉ ch → s.heap.get? b = some o → H b = none → ∃ sl, h'.get? b = some { o with slots := sl }) (free : ∀ b o, b ∉ ch → s.heap.get? b = some o → H b = none → H' b = none)
    (there : ∀ b o, b ∉ ch → s.heap.get? b = some o → ∃ o', h'.get? b = some o')
    (tups : ∀ b xs, H b = some (.tup xs) → H' b = some (.tup xs)) (frzs : ∀ b o u, H b = some (.frz o u) → H' b = some (.frz o u)) (tbls : ∀ b ps, H b = some (.tbl ps) → ∃ more, H' b = some (.tbl (ps ++ more)))
    (ns : ∀ m, s.heap.Ns X.env.locals m → h'.Ns X.env.locals m) (hok : HOk X.prog X.w H' h') (hg : AllBare g') :
    Inv X pins σ H' { s with heap := h', gens := g', drawn := d', toks := t' } := by
  have neL : ∀ b o, X.s₀.heap.get? b = some o → b ≠ X.env.locals := fun b o e => Nat.ne_of_lt (Nat.lt_of_lt_of_le (Heap.lt_size e) I.ok.above)
  have neC : ∀ b o, X.s₀.heap.get? b = some o → b ∉ X.ex → b ∉ ch := fun b o e hx hb => by
    rcases (hch b hb).1 with z | z
    · exact hx z
    · exact absurd (Nat.lt_of_lt_of_le (Heap.lt_size e) z) (Nat.lt_irrefl _)
  have cellK : ∀ x c, X.env.cells.lookup x = some c → ∀ v, s.heap.IsCell c v → h'.IsCell c v := fun x c e v ⟨o, ho, hd⟩ => by
    have nch : c ∉ ch := fun z => (hch c z).2.2.1 x c e rfl
    by_cases hc : c ∈ X.fs
    · obtain ⟨sl, q⟩ := slot c o (I.cne x c e) hc nch ho (I.freeC x c e)
      exact ⟨_, q, hd⟩
    · exact ⟨o, keep c o (I.cne x c e) hc nch ho (I.freeC x c e), hd⟩
  refine ⟨I.ok, I.os, hg, ⟨fun b o e n hb hx => ?_, fun b o e n hb hx => ?_, fun b o e n hx => ?_, fun b o e hx => ?_, fun b xs e => tups b xs (I.base.tups b xs e), fun b o xs e => frzs b o xs (I.base.frzs b o xs e), fun b ps e => ?_⟩, ?_, fun x c e => ?_, ?_, fun x c e => ?_, fun p hp => ?_, hok, I.len⟩
  · exact keep b o (neL b o e) hb (neC b o e hx) (I.base.keep b o e n hb hx) (I.base.free b o e n hx)
  · obtain ⟨sl, e1⟩ := I.base.slot b o e n hb hx
    obtain ⟨sl', e2⟩ := slot b _ (neL b o e) hb (neC b o e hx) e1 (I.base.free b o e n hx)
    exact ⟨sl', e2⟩
  · obtain ⟨o', e1⟩ := I.base.there b o e hx
    exact free b o' (neC b o e hx) e1 (I.base.free b o e n hx)
  · obtain ⟨o', e1⟩ := I.base.there b o e hx
    exact there b o' (neC b o e hx) e1
  · obtain ⟨m1, e1⟩ := I.base.tbls b ps e
    obtain ⟨m2, e2⟩ := tbls b _ e1
    exact ⟨m1 ++ m2, by rw [e2, Array.append_assoc]⟩
  · obtain ⟨m, hn, hl⟩ := I.loc
    refine ⟨m, ns m hn, fun i x v e1 e2 e3 => ?_⟩
    obtain ⟨u, r, l⟩ := hl i x v e1 e2 e3
    refine ⟨u, r, ?_⟩
    rcases l with l | ⟨k, c, e, z⟩
    · exact .inl l
    · exact .inr ⟨k, c, e, cellK x c e _ z⟩
  · obtain ⟨v, z⟩ := I.cell x c e
    exact ⟨v, cellK x c e v z⟩
  · obtain ⟨m, ⟨o, _, _, ho, _⟩, _⟩ := I.loc
    exact free _ o (fun z => (hch _ z).2.1 rfl) ho I.free
  · obtain ⟨v, o, ho, hd⟩ := I.cell x c e
    exact free c o (fun z => (hch c z).2.2.1 x c e rfl) ho (I.freeC x c e)
  · obtain ⟨e, n, ne, nf, d⟩ := I.pin p hp
    have nch : p.1 ∉ ch := fun z => (hch p.1 z).2.2.2 p hp rfl
    exact ⟨keep p.1 p.2 ne nf nch e n, free p.1 p.2 nch e n, ne, nf, d⟩
/-- .. where the frame's own object is kept too -/
theorem Inv.un {t' : Nat} (I : Inv X pins σ H s) (u : Un X.fs [] H H' s.heap h') (hok : HOk X.prog X.w H' h') : Inv X pins σ H' { s with heap := h', toks := t' } := by
  obtain ⟨m, ⟨o, es, ep, ho, r⟩, _⟩ := id I.loc
  obtain ⟨sl, hL⟩ := u.any ho I.free (by simp)
  exact I.step (g' := s.gens) (d' := s.drawn) (ch := []) (fun _ z => nomatch z) (fun b o _ hb _ e n => u.keep b o e n hb (by simp)) (fun b o _ hb _ e n => u.slot b o e n hb (by simp)) (fun b o _ e n => u.free b o e n (by simp)) (fun b o _ e => u.there b o e (by simp)) u.tups u.frzs u.tbls (fun m' hm => by
    obtain ⟨o', es', ep', ho', r'⟩ := hm
    rw [ho] at ho'; cases ho'
    exact ⟨_, es', ep', hL, r'⟩) hok I.bare
/-- behind a call (or a comprehension's block): the slots of this frame may have changed too, the records at ch may have turned -/
theorem Inv.call {g' : Array GenState} {t' : Nat} {d' : Drawn} {ch : List Addr} (I : Inv X pins σ H s) (u : Un (frs X.stack) ch H H' s.heap h') (hok : HOk X.prog X.w H' h') (hg : AllBare g')
    (hch : ∀ b ∈ ch, (b ∈ X.ex ∨ X.s₀.heap.objs.size ≤ b) ∧ b ≠ X.env.locals ∧ (∀ x c, X.env.cells.lookup x = some c → c ≠ b) ∧ ∀ p ∈ X.pn ++ pins, p.1 ≠ b) :
    Inv X pins σ H' { s with heap := h', gens := g', drawn := d', toks := t' } := by
  obtain ⟨m, ⟨o, es, ep, ho, r⟩, _⟩ := id I.loc
  obtain ⟨sl, hL⟩ := u.any ho I.free fun z => (hch _ z).2.1 rfl
  exact I.step (ch := ch) hch (fun b o hL hb hc e n => u.keep b o e n (fun z => (List.mem_cons.mp (I.stkSub b z)).elim hL hb) hc) (fun b o _ _ hc e n => u.any e n hc) (fun b o hc e n => u.free b o e n hc) (fun b o hc e => u.there b o e hc) u.tups u.frzs u.tbls (fun m' hm => by
    obtain ⟨o', es', ep', ho', r'⟩ := hm
    rw [ho] at ho'; cases ho'
    exact ⟨_, es', ep', hL, r'⟩) hok hg
/-- an untracked record of ours (an iterator) has turned -/
theorem Inv.turned {t' : Nat} {it : Addr} (I : Inv X pins σ H s) (k : ∀ b o, b ≠ it → s.heap.get? b = some o → h'.get? b = some o) (hn : H it = none) (hL : it ≠ X.env.locals)
    (h1 : it ∈ X.ex ∨ X.s₀.heap.objs.size ≤ it) (h2 : ∀ x c, X.env.cells.lookup x = some c → c ≠ it) (h3 : ∀ p ∈ X.pn ++ pins, p.1 ≠ it) : Inv X pins σ H { s with heap := h', toks := t' } := by
  have nit : ∀ b u, H b = some u → b ≠ it := fun b u e z => by rw [z, hn] at e; cases e
  refine I.step (g' := s.gens) (d' := s.drawn) (ch := [it]) (fun b hb => ?_) (fun b o _ _ hc e _ => k b o (fun z => hc (by simp [z])) e) (fun b o _ _ hc e _ => ⟨o.slots, k b o (fun z => hc (by simp [z])) e⟩) (fun _ _ _ _ n => n)
    (fun b o hc e => ⟨o, k b o (fun z => hc (by simp [z])) e⟩) (fun _ _ e => e) (fun _ _ _ e => e) (fun b ps e => ⟨#[], by rw [e]; simp⟩) (fun m hm => ?_) (fun b u e => ?_) I.bare
  · have e : b = it := by simpa using hb
    subst e
    exact ⟨h1, hL, h2, h3⟩
  · obtain ⟨o, es, ep, ho, r⟩ := hm
    exact ⟨o, es, ep, k _ o (Ne.symm hL) ho, r⟩
  · refine (I.hok b u e).stay (fun c v hc q => k c v ?_ q) (fun _ q => q) fun _ _ q => q
    rcases hc with z | z
    · rw [z]; exact nit b u e
    · exact nit c _ z
theorem Inv.tok (I : Inv X pins σ H s) (t : Nat) : Inv X pins σ H { s with toks := t } := I.un (h' := s.heap) (t' := t) Un.refl I.hok
/-- all objects kept -/
theorem Inv.kept {t' : Nat} (I : Inv X pins σ H s) (k : ∀ b u, s.heap.get? b = some u → h'.get? b = some u) : Inv X pins σ H { s with heap := h', toks := t' } := I.un (Un.kept k) (I.hok.kept k)
/-- a new object laid and tracked -/
theorem Inv.laid {a : Addr} {o : HO} {t' : Nat} (I : Inv X pins σ H s) (k : ∀ b u, s.heap.get? b = some u → h'.get? b = some u) (hp : s.heap.objs.size ≤ a) (new : ObjOk X.prog X.w (upd H a o) h' a o) :
    Inv X pins σ (upd H a o) { s with heap := h', toks := t' } := I.un (Un.laid k hp (I.hok.fresh hp)) (I.hok.laid k hp new)
/-- an object written -/
theorem Inv.write {x e : Addr} {o : HO} {t' : Nat} (I : Inv X pins σ H s) (mu : Mut (H x)) (he : e = x ∨ H e = some (.own x)) (k : ∀ b u, b ≠ e → s.heap.get? b = some u → h'.get? b = some u) (heo : ∃ u, h'.get? e = some u)
    (new : ObjOk X.prog X.w (upd H x o) h' x o) : Inv X pins σ (upd H x o) { s with heap := h', toks := t' } := I.un (Un.write mu he k heo) (I.hok.write mu he k heo new)
/-- forgetting slots, pins -/
theorem Inv.weak {σ' : List (Option V)} (I : Inv X pins σ H s) (hl : σ'.length = σ.length) (w : ∀ (i : Nat) v, σ'[i]? = some (some v) → σ[i]? = some (some v)) : Inv X pins σ' H s :=
  ⟨I.ok, I.os, I.bare, I.base, let ⟨m, hn, hl'⟩ := I.loc; ⟨m, hn, fun i x v e1 e2 e3 => hl' i x v e1 (w i v e2) e3⟩, I.cell, I.free, I.freeC, I.pin, I.hok, hl.trans I.len⟩
theorem Inv.pins_of {pins' : List (Addr × Obj)} (I : Inv X pins σ H s) (h : ∀ p ∈ pins', s.heap.get? p.1 = some p.2 ∧ H p.1 = none ∧ p.1 ≠ X.env.locals ∧ p.1 ∉ X.fs ∧ ∀ v, p.2.data ≠ .cell v) : Inv X pins' σ H s :=
  ⟨I.ok, I.os, I.bare, I.base, I.loc, I.cell, I.free, I.freeC, fun p hp => (List.mem_append.mp hp).elim (fun z => I.pin p (List.mem_append_left _ z)) (h p), I.hok, I.len⟩

theorem nodup_ix {N : List Str} (hN : N.Nodup) {i j : Nat} {x : Str} (a : N[i]? = some x) (b : N[j]? = some x) : i = j := by
  obtain ⟨h1, e1⟩ := List.getElem?_eq_some_iff.mp a
  obtain ⟨h2, e2⟩ := List.getElem?_eq_some_iff.mp b
  exact (List.getElem_inj hN).mp (e1.trans e2.symm)

/-- a name is stored; what changed -/
theorem store_ok2 {M : Model} {A : Around} {E : Value → Shared → Prop} {i : Nat} {x : Str} {v : V} {u : Value} {Q : Unit → Shared → Prop} (I : Inv X pins σ H s) (hN : X.N.Nodup) (hi : X.N[i]? = some x) (hx : Loc X.env.scope x) (r : RelV v u)
    (h : ∀ s', Inv X pins (σ.set i (some v)) H s' → (∃ a, Heap.SameBut a s.heap s'.heap ∧ (a = X.env.locals ∨ X.env.cells.lookup x = some a)) → Q () s') (hf : X.fn x = true ∨ X.env.scope.names.lookup x = some .local := by first | exact .inl rfl | exact .inr rfl | assumption) : wpAny M A (storeName X.env x u) Q E s := by
  obtain ⟨m, hn, hl⟩ := id I.loc
  have hcls : (X.env.scope.kind == .class || (X.env.scope.kind == .module && X.env.locals != X.env.globals)) = false := by rw [I.ok.kind]; rfl
  have hiσ : i < σ.length := by rw [I.len]; exact (List.getElem?_eq_some_iff.mp hi).1
  have cne := I.cne
  have tracked : ∀ {a : Addr} {h' : Heap}, (∃ o, s.heap.get? a = some o ∧ H a = none) → Heap.SameBut a s.heap h' → HOk X.prog X.w H h' := fun {a h'} ha hs b ob e => by
    obtain ⟨_, _, hfree⟩ := ha
    refine (I.hok b ob e).stay (fun c w' hc q => (hs.2 c ?_).trans q) (fun _ q => q) fun _ _ q => q
    rintro rfl
    rcases hc with rfl | hc
    · rw [hfree] at e; cases e
    · rw [hfree] at hc; cases hc
  rcases hx with hk | hk
  · refine wpAny_storeName_local hk hn (fun h' hn' hs => ?_) hcls
    obtain ⟨oL, _, _, hoL, _⟩ := id hn
    refine h _ ⟨I.ok, I.os, I.bare, ⟨fun b o e n hb hx => ?_, fun b o e n hb hx => ?_, I.base.free, fun b o e hx => ?_, I.base.tups, I.base.frzs, I.base.tbls⟩, ⟨_, hn', fun j y v' e1 e2 e3 => ?_⟩, fun y c e => ?_, I.free, I.freeC, fun p hp => ?_, tracked ⟨oL, hoL, I.free⟩ hs, by simpa using I.len⟩ ⟨_, hs, .inl rfl⟩
    · exact (hs.2 b (Nat.ne_of_lt (Nat.lt_of_lt_of_le (Heap.lt_size e) I.ok.above))).trans (I.base.keep b o e n hb hx)
    · obtain ⟨sl, e1⟩ := I.base.slot b o e n hb hx
      exact ⟨sl, (hs.2 b (Nat.ne_of_lt (Nat.lt_of_lt_of_le (Heap.lt_size e) I.ok.above))).trans e1⟩
    · obtain ⟨o', e1⟩ := I.base.there b o e hx
      exact ⟨o', (hs.2 b (Nat.ne_of_lt (Nat.lt_of_lt_of_le (Heap.lt_size e) I.ok.above))).trans e1⟩
    · by_cases hj : j = i
      · subst hj
        rw [hi] at e1; cases e1
        rw [List.getElem?_set_self hiσ] at e2
        cases e2
        exact ⟨u, r, .inl ⟨hk, by simp⟩⟩
      · rw [List.getElem?_set_ne (Ne.symm hj)] at e2
        obtain ⟨u', r', q⟩ := hl j y v' e1 e2 e3
        refine ⟨u', r', ?_⟩
        rcases q with ⟨k, e⟩ | ⟨k, c, e, z⟩
        · refine .inl ⟨k, ?_⟩
          have : y ≠ x := fun e => hj (nodup_ix hN e1 (e ▸ hi))
          simp [this, e]
        · exact .inr ⟨k, c, e, z.sameBut hs (cne y c e)⟩
    · obtain ⟨w', z⟩ := I.cell y c e
      exact ⟨w', z.sameBut hs (cne y c e)⟩
    · obtain ⟨e, n, ne, nf, d⟩ := I.pin p hp
      exact ⟨(hs.2 p.1 ne).trans e, n, ne, nf, d⟩
  · have hfn : X.fn x = true := by
      rcases hf with z | z
      · exact z
      · rw [z] at hk; cases hk
    obtain ⟨c, hc⟩ := I.ok.has x (.inl hk)
    obtain ⟨w', z⟩ := I.cell x c hc
    refine wpAny_storeName_cell I.ok.kind hk hc z (fun h' hc' hs => ?_)
    obtain ⟨oc, hoc, hocd⟩ := id z
    refine h { s with heap := h' } ⟨I.ok, I.os, I.bare, ⟨fun b o e n hb hx => ?_, fun b o e n hb hx => ?_, I.base.free, fun b o e hx => ?_, I.base.tups, I.base.frzs, I.base.tbls⟩, ⟨m, hn.sameBut hs (Ne.symm (cne x c hc)), fun j y v' e1 e2 e3 => ?_⟩, fun y c' e => ?_, I.free, I.freeC, fun p hp => ?_, tracked ⟨oc, hoc, I.freeC x c hc⟩ hs, by simpa using I.len⟩ ⟨c, hs, .inr hc⟩
    · exact (hs.2 b (Nat.ne_of_lt (Nat.lt_of_lt_of_le (Heap.lt_size e) (I.ok.cab x c hfn hc)))).trans (I.base.keep b o e n hb hx)
    · obtain ⟨sl, e1⟩ := I.base.slot b o e n hb hx
      exact ⟨sl, (hs.2 b (Nat.ne_of_lt (Nat.lt_of_lt_of_le (Heap.lt_size e) (I.ok.cab x c hfn hc)))).trans e1⟩
    · obtain ⟨o', e1⟩ := I.base.there b o e hx
      exact ⟨o', (hs.2 b (Nat.ne_of_lt (Nat.lt_of_lt_of_le (Heap.lt_size e) (I.ok.cab x c hfn hc)))).trans e1⟩
    · by_cases hj : j = i
      · subst hj
        rw [hi] at e1; cases e1
        rw [List.getElem?_set_self hiσ] at e2
        cases e2
        exact ⟨u, r, .inr ⟨.inl hk, c, hc, hc'⟩⟩
      · rw [List.getElem?_set_ne (Ne.symm hj)] at e2
        obtain ⟨u', r', q⟩ := hl j y v' e1 e2 e3
        refine ⟨u', r', ?_⟩
        rcases q with q | ⟨k, c', e, z'⟩
        · exact .inl q
        · refine .inr ⟨k, c', e, z'.sameBut hs ?_⟩
          rintro rfl
          exact hj (nodup_ix hN e1 (I.ok.inj _ _ _ e hc ▸ hi))
    · by_cases hcc : c' = c
      · subst hcc; exact ⟨_, hc'⟩
      · obtain ⟨w2, z2⟩ := I.cell y c' e
        exact ⟨w2, z2.sameBut hs hcc⟩
    · obtain ⟨e, n, ne, nf, d⟩ := I.pin p hp
      refine ⟨(hs.2 p.1 ?_).trans e, n, ne, nf, d⟩
      intro q
      rw [q, hoc] at e
      have q' : oc = p.2 := Option.some.inj e
      exact d w' (by rw [← q']; exact hocd)
theorem store_ok {M : Model} {A : Around} {E : Value → Shared → Prop} {i : Nat} {x : Str} {v : V} {u : Value} {Q : Unit → Shared → Prop} (I : Inv X pins σ H s) (hN : X.N.Nodup) (hi : X.N[i]? = some x) (hx : Loc X.env.scope x) (r : RelV v u)
    (h : ∀ s', Inv X pins (σ.set i (some v)) H s' → Q () s') (hf : X.fn x = true ∨ X.env.scope.names.lookup x = some .local := by first | exact .inl rfl | exact .inr rfl | assumption) : wpAny M A (storeName X.env x u) Q E s :=
  store_ok2 I hN hi hx r (fun s' I' _ => h s' I') hf
/-- behind a call or a block, the state as it is -/
theorem Inv.call' {s' : Shared} {ch : List Addr} (I : Inv X pins σ H s) (ho : s'.os = s.os) (u : Un (frs X.stack) ch H H' s.heap s'.heap) (hok : HOk X.prog X.w H' s'.heap) (hg : AllBare s'.gens)
    (hch : ∀ b ∈ ch, (b ∈ X.ex ∨ X.s₀.heap.objs.size ≤ b) ∧ b ≠ X.env.locals ∧ (∀ x c, X.env.cells.lookup x = some c → c ≠ b) ∧ ∀ p ∈ X.pn ++ pins, p.1 ≠ b) : Inv X pins σ H' s' := by
  obtain ⟨h', g', d', t', o'⟩ := s'
  have e : o' = s.os := ho
  subst e
  exact I.call (g' := g') (t' := t') (d' := d') u hok hg hch
end

/-! ### the judgements -/
/-- an exception: its class, its own dict's address (where it has one), the abstract heap behind it -/
abbrev XK := Value → Option Addr → Hp → Prop
abbrev St := List (Option V)
abbrev VK := V → Hp → Prop
/-- an expression's reading; a test's; an argument list's -/
abbrev TE := St → Hp → VK → Prop
abbrev TT := St → Hp → (Bool → Hp → Prop) → Prop
abbrev TA := St → Hp → (List V → Hp → Prop) → Prop
/-- what is wanted behind a statement -/
structure Ends where
  nx : St → Hp → Prop
  rt : VK
  bk : St → Hp → Prop := fun _ _ => False
  ct : St → Hp → Prop := fun _ _ => False
abbrev TS := Ends → St → Hp → Prop

def EP (X : Cx) (pins : List (Addr × Obj)) (σ : St) (Q : VK) (u : Value) (s' : Shared) : Prop := ∃ v H', Inv X pins σ H' s' ∧ RelV v u ∧ Q v H'
def TP (X : Cx) (pins : List (Addr × Obj)) (σ : St) (Q : Bool → Hp → Prop) (b : Bool) (s' : Shared) : Prop := ∃ H', Inv X pins σ H' s' ∧ Q b H'
def AP (X : Cx) (pins : List (Addr × Obj)) (σ : St) (Q : List V → Hp → Prop) (us : List Value) (s' : Shared) : Prop := ∃ vs H', Inv X pins σ H' s' ∧ Vals vs us ∧ Q vs H'
def SP (X : Cx) (pins : List (Addr × Obj)) (D : Ends) (f : Flow) (s' : Shared) : Prop :=
  match f with
  | .next => ∃ σ' H', Inv X pins σ' H' s' ∧ D.nx σ' H'
  | .brk => ∃ σ' H', Inv X pins σ' H' s' ∧ D.bk σ' H'
  | .cont => ∃ σ' H', Inv X pins σ' H' s' ∧ D.ct σ' H'
  | .ret u => ∃ v σ' H', Inv X pins σ' H' s' ∧ RelV v u ∧ D.rt v H'

def PE (X : Cx) (e : Expr) (t : TE) : Prop :=
  ∀ (pins : List (Addr × Obj)) (s : Shared) (σ : St) (H : Hp) (Q : VK), Inv X pins σ H s → t σ H Q → wpAny (model X.prog X.w) X.A (eval e X.env) (EP X pins σ Q) X.xe s
def PT (X : Cx) (e : Expr) (t : TT) : Prop :=
  ∀ (pins : List (Addr × Obj)) (s : Shared) (σ : St) (H : Hp) (Q : Bool → Hp → Prop), Inv X pins σ H s → t σ H Q → wpAny (model X.prog X.w) X.A (isTrue e X.env (eval e X.env)) (TP X pins σ Q) X.xe s
/-- a test whatever its 'whole' is (and, or) -/
def PW (X : Cx) (e : Expr) (t : TT) : Prop :=
  ∀ (whole : Sem Value) (pins : List (Addr × Obj)) (s : Shared) (σ : St) (H : Hp) (Q : Bool → Hp → Prop), Inv X pins σ H s → t σ H Q → wpAny (model X.prog X.w) X.A (isTrue e X.env whole) (TP X pins σ Q) X.xe s
theorem PW.pt {X : Cx} {e : Expr} {t : TT} (h : PW X e t) : PT X e t := h _
/-- an argument list (no star), from the left -/
def PA (X : Cx) (es : List Expr) (t : TA) : Prop :=
  ∀ (pos : Pos) (pins : List (Addr × Obj)) (s : Shared) (σ : St) (H : Hp) (Q : List V → Hp → Prop), Inv X pins σ H s → t σ H Q → wpAny (model X.prog X.w) X.A (spliced (backTo pos (starEach es X.env))) (AP X pins σ Q) X.xe s
def PS (X : Cx) (st : Stmt) (t : TS) : Prop :=
  ∀ (pins : List (Addr × Obj)) (s : Shared) (σ : St) (H : Hp) (D : Ends), Inv X pins σ H s → t D σ H → wpAny (model X.prog X.w) X.A (exec st X.env) (SP X pins D) X.xe s
def PSs (X : Cx) (st : List Stmt) (t : TS) : Prop :=
  ∀ (pins : List (Addr × Obj)) (s : Shared) (σ : St) (H : Hp) (D : Ends), Inv X pins σ H s → t D σ H → wpAny (model X.prog X.w) X.A (execs st X.env) (SP X pins D) X.xe s
/-- weaken the end -/
theorem thn {α : Type} {t : Sem α} {Q Q' : α → Shared → Prop} {M : Model} {A : Around} {E : Value → Shared → Prop} {s : Shared} (h : wpAny M A t Q E s) (hQ : ∀ a s, Q a s → Q' a s) : wpAny M A t Q' E s := wpAny_mono h hQ fun _ _ x => x
end L2

namespace L2
open PySem PySem.Spec PyProof.Rows
section
variable {X : Cx}


/-! ### names and constants -/
def tVar (i : Nat) : TE := fun σ H Q => ∃ v, σ[i]? = some (some v) ∧ Q v H
def tC (v : V) : TE := fun _ H Q => Q v H
theorem pe_var {i : Nat} {x : Str} {pos : Pos} (hN : X.N[i]? = some x) (hv : Vis X.env.scope x) (hd : (x == ("__debug__" : Str)) = false := by decide) (hcd : (x == ("__classdict__" : Str)) = false := by decide) : PE X (.Name x pos) (tVar i) := by
  intro pins s σ H Q I h
  obtain ⟨v, e, h⟩ := h
  obtain ⟨m, hn, hl⟩ := I.loc
  obtain ⟨u, r, l⟩ := hl i x v hN e hv
  have fin : EP X pins σ Q u s := ⟨v, H, I, r, h⟩
  rcases l with ⟨hk, hm⟩ | ⟨hk, c, hc, hcell⟩
  · exact wpAny_Name (wpAny_loadName_local I.ok.kind hk hn hm fin) hd
  · rcases hk with hk | hk
    · exact wpAny_Name (wpAny_loadName_cell I.ok.kind hk hc hcell fin) hd
    · exact wpAny_Name (wpAny_loadName_free I.ok.kind hk hc hcell fin hcd) hd
theorem pe_int {i j pos} : PE X (.Constant (.int i) j pos) (tC (.int i)) := fun _ _ _ H _ I h => wpAny_Constant_int ⟨.int i, H, I.tok _, ⟨_, rfl⟩, h⟩
theorem pe_bl {b j pos} : PE X (.Constant (.bool b) j pos) (tC (.bl b)) := fun _ _ _ H _ I h => Constant_bool ⟨.bl b, H, I, rfl, h⟩
theorem pe_non {j pos} : PE X (.Constant .none j pos) (tC .non) := fun _ _ _ H _ I h => Constant_none ⟨.non, H, I, rfl, h⟩
theorem pe_str {x j pos} : PE X (.Constant (.str x) j pos) (tC (.str x)) := fun _ _ _ H _ I h => Calls.Constant_str ⟨.str x, H, I.tok _, ⟨_, rfl⟩, h⟩

/-- a global name of the def -/
def Gl (X : Cx) (x : Str) : Prop := X.env.kindOf x = some .globalImplicit
theorem ld_glob {E : Value → Shared → Prop} {pins : List (Addr × Obj)} {s : Shared} {σ : St} {H : Hp} {x : Str} {u : Value} {pos : Pos} {Q : Value → Shared → Prop} (I : Inv X pins σ H s) (hg : Gl X x) (hm : X.mg x = some u) (h : Q u s)
    (hd : (x == ("__debug__" : Str)) = false := by decide) : wpAny (model X.prog X.w) X.A (eval (.Name x pos) X.env) Q E s :=
  Calls.Name_function_global I.ok.kind hg (Calls.loadGlobal_global (by rw [I.ok.glob]; exact I.mod.glob.keeps I.bk) hm h) hd
theorem ld_blt {E : Value → Shared → Prop} {pins : List (Addr × Obj)} {s : Shared} {σ : St} {H : Hp} {x : Str} {u : Value} {pos : Pos} {Q : Value → Shared → Prop} (I : Inv X pins σ H s) (hg : Gl X x) (hm : X.mg x = none) (hv : bootBuiltins x = some u) (h : Q u s)
    (hn : x ≠ "__name__" := by decide) (hd : (x == ("__debug__" : Str)) = false := by decide) : wpAny (model X.prog X.w) X.A (eval (.Name x pos) X.env) Q E s := by
  obtain ⟨mb, h1, h2⟩ := I.mod.blt
  exact Calls.Name_function_global I.ok.kind hg (Calls.loadGlobal_builtin (by rw [I.ok.glob]; exact I.mod.glob.keeps I.bk) hm (by rw [I.ok.blt]; exact h1.keeps I.bk) ((h2 x hn).trans hv) h) hd
/-- a module's constant, a class, a function, as a value -/
theorem pe_glob {x : Str} {v : V} {u : Value} {pos : Pos} (hg : Gl X x) (hm : X.mg x = some u) (r : RelV v u) (hd : (x == ("__debug__" : Str)) = false := by decide) : PE X (.Name x pos) (tC v) :=
  fun _ _ _ H _ I h => ld_glob I hg hm ⟨v, H, I, r, h⟩ hd
theorem pe_bltn {x : Str} {v : V} {u : Value} {pos : Pos} (hg : Gl X x) (hm : X.mg x = none) (hv : bootBuiltins x = some u) (r : RelV v u) (hn : x ≠ "__name__" := by decide) (hd : (x == ("__debug__" : Str)) = false := by decide) : PE X (.Name x pos) (tC v) :=
  fun _ _ _ H _ I h => ld_blt I hg hm hv ⟨v, H, I, r, h⟩ hn hd

/-! ### arithmetic -/
variable {a b : Expr} {ta tb : TE} {pos : Pos}

/-! ### comparisons -/
def PC (X : Cx) (op : CmpOp) (a b : Expr) (t : TE) : Prop :=
  ∀ (pins : List (Addr × Obj)) (s : Shared) (σ : St) (H : Hp) (Q : VK), Inv X pins σ H s → t σ H Q →
    wpAny (model X.prog X.w) X.A (eval a X.env) (fun v s₁ => wpAny (model X.prog X.w) X.A (eval b X.env) (fun u s₂ => wpAny (model X.prog X.w) X.A (compareOp op v u) (EP X pins σ Q) X.xe s₂) X.xe s₁) X.xe s
/-- a comparison as a value, as a test -/
def tB (t : TE) : TT := fun σ H Q => t σ H fun x H1 => ∃ c, x = .bl c ∧ Q c H1
theorem pt_cmp {op : CmpOp} {t : TE} (h : PC X op a b t) (h1 : behindInMarks op b = false := by first | exact nobehind _ (by decide) (by decide) | rfl) : PT X (.Compare a [op] [b] pos) (tB t) := by
  intro pins s σ H Q I hw
  refine wpAny_isTrue_Compare1 (thn (h pins s σ H _ I hw) fun v s1 h1 => thn h1 fun u s2 h2 => thn h2 fun c s3 ⟨x, H1, I1, r1, q1⟩ => ?_) h1
  obtain ⟨d, rfl, q⟩ := q1
  cases r1
  exact wpAny_truthy_bool ⟨H1, I1, q⟩
/-- an expression whose value is a bool, as a test -/
theorem pt_val {e : Expr} {t : TE} (h : PE X e t) (he : ∀ whole, isTrue e X.env whole = (do let v ← whole; standAt e.pos; holding [v] (truthy v)) := by intro _; rfl) : PT X e (tB t) := by
  intro pins s σ H Q I hw
  refine isTrue_plain (thn (h pins s σ H _ I hw) fun v s1 ⟨x, H1, I1, r1, q1⟩ => ?_) (he _)
  obtain ⟨d, rfl, q⟩ := q1
  cases r1
  exact wpAny_truthy_bool ⟨H1, I1, q⟩

/-! ### and, or, not -/
variable {tA tB' : TT} {rest : List Expr}
def tAnd (t u : TT) : TT := fun σ H Q => t σ H fun c H1 => if c = true then u σ H1 Q else Q false H1
def tOr (t u : TT) : TT := fun σ H Q => t σ H fun c H1 => if c = true then Q true H1 else u σ H1 Q
def tNot (t : TT) : TT := fun σ H Q => t σ H fun c H1 => Q (!c) H1
theorem pw_and1 (ha : PT X a tA) : PW X (.BoolOp .And [a] pos) tA := by
  intro wh pins s σ H Q I h
  refine isTrue_and (thn (ha pins s σ H Q I h) fun c s1 e => ?_)
  cases c with
  | true => exact isTrue_and_nil e
  | false => exact e
theorem pw_or1 (ha : PT X a tA) : PW X (.BoolOp .Or [a] pos) tA := by
  intro wh pins s σ H Q I h
  refine isTrue_or (thn (ha pins s σ H Q I h) fun c s1 e => ?_)
  cases c with
  | false => exact isTrue_or_nil e
  | true => exact e
theorem pw_and (ha : PT X a tA) (hb : PW X (.BoolOp .And (b :: rest) pos) tB') : PW X (.BoolOp .And (a :: b :: rest) pos) (tAnd tA tB') := by
  intro wh pins s σ H Q I h
  refine isTrue_and (thn (ha pins s σ H _ I h) fun c s1 ⟨H1, I1, q1⟩ => ?_)
  cases c with
  | true => exact hb wh pins s1 σ H1 Q I1 q1
  | false => exact ⟨H1, I1, q1⟩
theorem pw_or (ha : PT X a tA) (hb : PW X (.BoolOp .Or (b :: rest) pos) tB') : PW X (.BoolOp .Or (a :: b :: rest) pos) (tOr tA tB') := by
  intro wh pins s σ H Q I h
  refine isTrue_or (thn (ha pins s σ H _ I h) fun c s1 ⟨H1, I1, q1⟩ => ?_)
  cases c with
  | true => exact ⟨H1, I1, q1⟩
  | false => exact hb wh pins s1 σ H1 Q I1 q1
theorem pt_not (ha : PT X a tA) : PT X (.UnaryOp .Not a pos) (tNot tA) := by
  intro pins s σ H Q I h
  exact isTrue_not (ha pins s σ H (fun c H1 => Q (!c) H1) I h)
/-- .. as values (bools) -/
def tAndV (ta tb : TE) : TE := fun σ H Q => ta σ H fun x H1 => ∃ c, x = .bl c ∧ if c = true then tb σ H1 Q else Q (.bl false) H1
def tNotV (ta : TE) : TE := fun σ H Q => ta σ H fun x H1 => ∃ c, x = .bl c ∧ Q (.bl (!c)) H1
theorem pe_one {op} {t : TE} (h : PE X a t) : PE X (.BoolOp op [a] pos) t := fun pins s σ H Q I hw => BoolOp_one (h pins s σ H Q I hw)
theorem pe_and (ha : PE X a ta) (hb : PE X (.BoolOp .And (b :: rest) pos) tb) : PE X (.BoolOp .And (a :: b :: rest) pos) (tAndV ta tb) := by
  intro pins s σ H Q I h
  refine BoolOp_and (thn (ha pins s σ H _ I h) fun v s1 ⟨x, H1, I1, r1, q1⟩ => ?_)
  obtain ⟨c, rfl, q1⟩ := q1
  cases r1
  refine wpAny_truthy_bool ?_
  cases c with
  | true => exact hb pins s1 σ H1 Q I1 q1
  | false => exact ⟨.bl false, H1, I1, rfl, q1⟩
theorem pe_not (ha : PE X a ta) : PE X (.UnaryOp .Not a pos) (tNotV ta) := by
  intro pins s σ H Q I h
  refine UnaryOp_ (thn (ha pins s σ H _ I h) fun v s1 ⟨x, H1, I1, r1, q1⟩ => ?_)
  obtain ⟨c, rfl, q1⟩ := q1
  cases r1
  exact not_of (wpAny_truthy_bool ⟨.bl (!c), H1, I1, rfl, q1⟩)
end
end L2

namespace L2
open PySem PySem.Spec PyProof.Rows

/-! ### a list, a tuple that is read: tracked, frozen, or an object of the module -/
def SqL (K : PySem.W.Frag) (H : Hp) (a : Addr) (xs : List V) : Prop :=
  Rd H a (.lst xs) ∨
    ∃ (o : Obj) (its : Array Value) (n : Nat), K.lookup a = some o ∧ o.cls = .type "list" ∧ o.dict = none ∧ o.data = .seq its n ∧ its.size ≤ sizeLine ∧ Vals xs its.toList
def SqT (K : PySem.W.Frag) (H : Hp) (a : Addr) (xs : List V) : Prop :=
  Rd H a (.tup xs) ∨
    ∃ (o : Obj) (its : Array Value) (n : Nat), K.lookup a = some o ∧ o.cls = .type "tuple" ∧ o.data = .seq its n ∧ its.size ≤ sizeLine ∧ Vals xs its.toList
def absV : Value → Option V
  | .none => some .non
  | .bool b => some (.bl b)
  | .int i _ => some (.int i)
  | .str x _ => some (.str x)
  | .bytes b _ => some (.byt b)
  | .float b _ => some (.flt b)
  | .ref a => some (.ref a)
  | .type n => some (.ty n)
  | _ => none
theorem RelV.abs {x : V} {u : Value} (r : RelV x u) : absV u = some x := by
  cases x with
  | non => cases r; rfl
  | bl _ => cases r; rfl
  | int _ => obtain ⟨t, rfl⟩ := r; rfl
  | str _ => obtain ⟨t, rfl⟩ := r; rfl
  | byt _ => obtain ⟨t, rfl⟩ := r; rfl
  | flt _ => obtain ⟨t, rfl⟩ := r; rfl
  | ref _ => cases r; rfl
  | ty _ => cases r; rfl
theorem RelV.inj {x y : V} {u : Value} (r : RelV x u) (q : RelV y u) : x = y := Option.some.inj (r.abs.symm.trans q.abs)
theorem Vals.inj : ∀ {xs ys : List V} {us : List Value}, Vals xs us → Vals ys us → xs = ys
  | _, _, _, .nil, .nil => rfl
  | _, _, _, .cons r t, .cons r' t' => by rw [r.inj r', Vals.inj t t']
section
variable {X : Cx} {pins : List (Addr × Obj)} {σ : St} {H : Hp} {s : Shared} {a : Addr} {xs ys : List V}
theorem SqL.of {K : PySem.W.Frag} (h : H a = some (.lst xs)) : SqL K H a xs := .inl (.inl h)
theorem SqT.of {K : PySem.W.Frag} (h : H a = some (.tup xs)) : SqT K H a xs := .inl (.inl h)
theorem Inv.list (I : Inv X pins σ H s) (h : SqL X.K H a xs) : ∃ its : List Value, Vals xs its ∧ PlainL s.heap a its.toArray ∧ xs.length ≤ sizeLine := by
  rcases h with h | ⟨o, its, n, hk, hc, hd, hs, hz, r⟩
  · obtain ⟨z, its, n, r, e⟩ := h.ok I.hok
    exact ⟨its, r, ⟨_, n, e, rfl, rfl, rfl⟩, z⟩
  · refine ⟨its.toList, r, ⟨o, n, I.kIn a o hk, hc, hd, by simpa using hs⟩, ?_⟩
    have e := r.length
    simp only [Array.length_toList] at e
    omega
theorem Inv.tuple (I : Inv X pins σ H s) (h : SqT X.K H a xs) : ∃ its : List Value, Vals xs its ∧ IsTup s.heap a its.toArray ∧ xs.length ≤ sizeLine := by
  rcases h with h | ⟨o, its, n, hk, hc, hs, hz, r⟩
  · obtain ⟨z, its, r, p⟩ := h.ok I.hok
    exact ⟨its, r, p, z⟩
  · refine ⟨its.toList, r, ⟨o, I.kIn a o hk, hc, n, by simpa using hs⟩, ?_⟩
    have e := r.length
    simp only [Array.length_toList] at e
    omega
theorem Inv.list_inj (I : Inv X pins σ H s) (h : SqL X.K H a xs) (h' : SqL X.K H a ys) : xs = ys := by
  obtain ⟨its, r, ⟨o, n, e, _, _, d⟩, _⟩ := I.list h
  obtain ⟨its', r', ⟨o', n', e', _, _, d'⟩, _⟩ := I.list h'
  rw [e] at e'; cases e'
  rw [d] at d'
  injection d' with d1 _
  have : its = its' := by simpa using congrArg Array.toList d1
  subst this
  exact r.inj r'
theorem Inv.tuple_inj (I : Inv X pins σ H s) (h : SqT X.K H a xs) (h' : SqT X.K H a ys) : xs = ys := by
  obtain ⟨its, r, ⟨o, e, _, n, d⟩, _⟩ := I.tuple h
  obtain ⟨its', r', ⟨o', e', _, n', d'⟩, _⟩ := I.tuple h'
  rw [e] at e'; cases e'
  rw [d] at d'
  injection d' with d1 _
  have : its = its' := by simpa using congrArg Array.toList d1
  subst this
  exact r.inj r'
end

/-! ### another wish about exceptions -/
abbrev Cx.wish (X : Cx) (E : Value → Shared → Prop) : Cx := { X with xe := E }
/-- no exception leaves -/
abbrev Cx.nox (X : Cx) : Cx := X.wish fun _ _ => False
theorem Cx.Ok.wish {X : Cx} (ok : X.Ok) (E : Value → Shared → Prop) : (X.wish E).Ok :=
  ⟨ok.mod, ok.kind, ok.glob, ok.blt, ok.above, ok.inj, ok.has, ok.cab, ok.hd, ok.frames, ok.stk, ok.exf, ok.bs, ok.bsz, ok.noex, ok.exfs, ok.funs, ok.frf⟩
theorem Cx.Ok.unwish {X : Cx} {E : Value → Shared → Prop} (ok : (X.wish E).Ok) : X.Ok :=
  ⟨ok.mod, ok.kind, ok.glob, ok.blt, ok.above, ok.inj, ok.has, ok.cab, ok.hd, ok.frames, ok.stk, ok.exf, ok.bs, ok.bsz, ok.noex, ok.exfs, ok.funs, ok.frf⟩
section
variable {X : Cx} {pins : List (Addr × Obj)} {σ : St} {H : Hp} {s : Shared} {E : Value → Shared → Prop}
theorem Inv.wish (I : Inv X pins σ H s) (E : Value → Shared → Prop) : Inv (X.wish E) pins σ H s := ⟨I.ok.wish E, I.os, I.bare, I.base, I.loc, I.cell, I.free, I.freeC, I.pin, I.hok, I.len⟩
theorem Inv.unwish (I : Inv (X.wish E) pins σ H s) : Inv X pins σ H s := ⟨I.ok.unwish, I.os, I.bare, I.base, I.loc, I.cell, I.free, I.freeC, I.pin, I.hok, I.len⟩
theorem SP.unwish {D : Ends} {f : Flow} {s' : Shared} (h : SP (X.wish E) pins D f s') : SP X pins D f s' := by
  cases f with
  | next => obtain ⟨σ', H', I, q⟩ := h; exact ⟨σ', H', I.unwish, q⟩
  | brk => obtain ⟨σ', H', I, q⟩ := h; exact ⟨σ', H', I.unwish, q⟩
  | cont => obtain ⟨σ', H', I, q⟩ := h; exact ⟨σ', H', I.unwish, q⟩
  | ret u => obtain ⟨v, σ', H', I, r, q⟩ := h; exact ⟨v, σ', H', I.unwish, r, q⟩
theorem PSs.nox {st : List Stmt} {t : TS} (h : PSs X.nox st t) : PSs X st t := fun pins s σ H D I hw =>
  wpAny_mono (h pins s σ H D (I.wish _) hw) (fun _ _ q => q.unwish) fun _ _ z => False.elim z
end

/-! ### blocks and small statements -/
section
variable {X : Cx} {st : Stmt} {rest : List Stmt} {t u : TS} {e : Expr} {te : TE} {pos : Pos}
def tNext : TS := fun D σ H => D.nx σ H
def tSeq (t u : TS) : TS := fun D σ H => t { D with nx := u D } σ H
theorem pss_nil : PSs X [] tNext := fun _ _ σ H _ I h => wpAny_execs_nil ⟨σ, H, I, h⟩
theorem pss_cons (h1 : PS X st t) (h2 : PSs X rest u) : PSs X (st :: rest) (tSeq t u) := by
  intro pins s σ H D I h
  refine wpAny_execs_cons (thn (h1 pins s σ H { D with nx := u D } I h) fun f s1 q => ?_)
  cases f with
  | next =>
    obtain ⟨σ', H', I', q⟩ := q
    exact h2 pins s1 σ' H' D I' q
  | ret v => exact q
  | brk => exact q
  | cont => exact q
theorem pss_one (h1 : PS X st t) : PSs X [st] t := by
  intro pins s σ H D I h
  refine wpAny_execs_cons (thn (h1 pins s σ H D I h) fun f s1 q => ?_)
  cases f with
  | next => exact wpAny_execs_nil q
  | ret v => exact q
  | brk => exact q
  | cont => exact q
/-- in a def's body nothing is shown -/
theorem Inv.quiet {pins : List (Addr × Obj)} {σ : St} {H : Hp} {s : Shared} (I : Inv X pins σ H s) : interactive X.env = false := by simp [interactive, I.ok.kind]
/-- an expression whose value is dropped -/
def tDrop (te : TE) : TS := fun D σ H => te σ H fun _ H1 => D.nx σ H1
theorem ps_expr (he : PE X e te) (hs : swapsWith e none pos.line X.env = pure false := by rfl) : PS X (.Expr e pos) (tDrop te) := by
  intro pins s σ H D I h
  exact wpAny_Expr_any (thn (he pins s σ H _ I h) fun v s1 ⟨x, H1, I1, r1, q1⟩ => ⟨σ, H1, I1, q1⟩) I.quiet hs
def tRet (te : TE) : TS := fun D σ H => te σ H D.rt
theorem ps_ret (he : PE X e te) : PS X (.Return (some e) pos) (tRet te) := by
  intro pins s σ H D I h
  exact wpAny_Return_some (thn (he pins s σ H _ I h) fun v s1 ⟨x, H1, I1, r1, q1⟩ => ⟨x, σ, H1, I1, r1, q1⟩)
def tIfS (c : TT) (t u : TS) : TS := fun D σ H => c σ H fun b H1 => if b = true then t D σ H1 else u D σ H1
theorem ps_if {c : Expr} {a b : List Stmt} {tc : TT} (hc : PT X c tc) (ha : PSs X a t) (hb : PSs X b u) : PS X (.If c a b pos) (tIfS tc t u) := by
  intro pins s σ H D I h
  refine wpAny_If (thn (hc pins s σ H _ I h) fun d s1 ⟨H1, I1, q1⟩ => ?_)
  cases d with
  | true => exact ha pins s1 σ H1 D I1 q1
  | false => exact hb pins s1 σ H1 D I1 q1
/-- code that the proof never comes to -/
def tNever : TS := fun _ _ _ => False
theorem ps_never : PS X st tNever := fun _ _ _ _ _ _ h => h.elim
end

/-! ### targets -/
abbrev TG := V → St → Hp → (St → Hp → Prop) → Prop
abbrev TGs := List V → St → Hp → (St → Hp → Prop) → Prop
def PG (X : Cx) (target : Expr) (t : TG) : Prop :=
  ∀ (pins : List (Addr × Obj)) (s : Shared) (σ : St) (H : Hp) (v : V) (u : Value) (Q : St → Hp → Prop), Inv X pins σ H s → RelV v u → t v σ H Q →
    wpAny (model X.prog X.w) X.A (assign target X.env u) (fun _ s' => ∃ σ' H', Inv X pins σ' H' s' ∧ Q σ' H') X.xe s
/-- several targets, one after another -/
def PGs (X : Cx) (ts : List Expr) (t : TGs) : Prop :=
  ∀ (pins : List (Addr × Obj)) (s : Shared) (σ : St) (H : Hp) (vs : List V) (us : List Value) (Q : St → Hp → Prop), Inv X pins σ H s → Vals vs us → t vs σ H Q →
    wpAny (model X.prog X.w) X.A (assignInOrder ((assignEach ts X.env).map (·.2)) us) (fun _ s' => ∃ σ' H', Inv X pins σ' H' s' ∧ Q σ' H') X.xe s
/-- o[i] = v, by values -/
abbrev TSet := V → V → V → Hp → (Hp → Prop) → Prop
def PSet (X : Cx) (t : TSet) : Prop :=
  ∀ (pins : List (Addr × Obj)) (s : Shared) (σ : St) (H : Hp) (o i v : V) (ov iv u : Value) (Q : Hp → Prop), Inv X pins σ H s → RelV o ov → RelV i iv → RelV v u → t o i v H Q →
    wpAny (model X.prog X.w) X.A (setItem ov iv u) (fun _ s' => ∃ H', Inv X pins σ H' s' ∧ Q H') X.xe s
/-- a op= b, by values -/
abbrev TIp := V → V → Hp → VK → Prop
def PIp (X : Cx) (op : Operator) (t : TIp) : Prop :=
  ∀ (pins : List (Addr × Obj)) (s : Shared) (σ : St) (H : Hp) (x y : V) (v u : Value) (Q : VK), Inv X pins σ H s → RelV x v → RelV y u → t x y H Q →
    wpAny (model X.prog X.w) X.A (inplaceOp op v u) (EP X pins σ Q) X.xe s
section
variable {X : Cx} {pos : Pos}
def gName (i : Nat) : TG := fun v σ H Q => Q (σ.set i (some v)) H
theorem pg_name {i : Nat} {x : Str} (hN : X.N.Nodup) (hi : X.N[i]? = some x) (hx : Loc X.env.scope x) (hf : X.fn x = true ∨ X.env.scope.names.lookup x = some .local := by first | exact .inl rfl | exact .inr rfl | assumption) : PG X (.Name x pos) (gName i) := by
  intro pins s σ H v u Q I r h
  exact wpAny_assign_Name (store_ok I hN hi hx r (fun s' I' => ⟨_, H, I', h⟩) hf)
def gNil : TGs := fun vs σ H Q => vs = [] ∧ Q σ H
def gCons (t : TG) (u : TGs) : TGs := fun vs σ H Q => ∃ v r, vs = v :: r ∧ t v σ H fun σ' H' => u r σ' H' Q
theorem pgs_nil : PGs X [] gNil := by
  intro pins s σ H vs us Q I r h
  obtain ⟨e, h⟩ := h
  subst e
  cases r
  exact assignInOrder_nil ⟨σ, H, I, h⟩
theorem pgs_cons {e : Expr} {es : List Expr} {t : TG} {u : TGs} (h1 : PG X e t) (h2 : PGs X es u)
    (hs : (assignEach (e :: es) X.env).map (·.2) = assign e X.env :: (assignEach es X.env).map (·.2) := by rfl) : PGs X (e :: es) (gCons t u) := by
  intro pins s σ H vs us Q I r h
  obtain ⟨v, vr, e1, h⟩ := h
  subst e1
  cases r with
  | cons r rr =>
    rw [hs]
    refine assignInOrder_cons (thn (h1 pins s σ H _ _ _ I r h) fun _ s1 ⟨σ1, H1, I1, q1⟩ => ?_)
    exact h2 pins s1 σ1 H1 _ _ Q I1 rr q1
/-- (a, b, ..) = a tuple of that length -/
def gTup (K : PySem.W.Frag) (n : Nat) (t : TGs) : TG := fun v σ H Q => ∃ a xs, v = .ref a ∧ SqT K H a xs ∧ xs.length = n ∧ t xs σ H Q
theorem pg_tup {es : List Expr} {k : Nat} {t : TGs} {n : Nat} (hc : X.calm = true) (h : PGs X es t)
    (hn : (assignEach es X.env).length = n := by rfl) (hst : (assignEach es X.env).findIdx? (·.1) = none := by rfl) : PG X (.Tuple es k pos) (gTup X.K n t) := by
  intro pins s σ H v u Q I r hw
  obtain ⟨a, xs, e1, hq, hl, hw⟩ := hw
  subst e1
  cases r
  obtain ⟨its, rv, ht, hz⟩ := I.tuple hq
  refine assign_Tuple_tuple (I.ok.hd hc) ht (by simp [hn, ← hl, rv.length]) hst fun h' hx => ?_
  have I1 : Inv X pins σ H { s with heap := h' } := I.kept (t' := s.toks) fun b o e => hx b o (Nat.ne_of_lt (Heap.lt_size e)) e
  exact h pins _ σ H xs _ Q I1 (by simpa using rv) hw
/-- o[i] = .. -/
def gSub (to ti : TE) (t : TSet) : TG := fun v σ H Q => to σ H fun o H1 => ti σ H1 fun i H2 => t o i v H2 fun H3 => Q σ H3
theorem pg_sub {o i : Expr} {to ti : TE} {t : TSet} (ho : PE X o to) (hi : PE X i ti) (hs : PSet X t)
    (ha : ∀ v, assign (.Subscript o i pos) X.env v = (do
      let ov ← holding [v] (eval o X.env)
      let iv ← holding [v, ov] (eval i X.env)
      standAt pos
      holding [v, ov, iv] (setItem ov iv v)
      release [v, ov, iv] []) := by intro _; rfl) : PG X (.Subscript o i pos) (gSub to ti t) := by
  intro pins s σ H v u Q I r h
  rw [ha]
  refine wpAny_bind (wpAny_holding (thn (ho pins s σ H _ I h) fun ov s1 ⟨x, H1, I1, r1, q1⟩ => ?_))
  refine wpAny_bind (wpAny_holding (thn (hi pins s1 σ H1 _ I1 q1) fun iv s2 ⟨y, H2, I2, r2, q2⟩ => ?_))
  refine wpAny_bind (wpAny_standAt (wpAny_bind (wpAny_holding (thn (hs pins s2 σ H2 x y v ov iv u _ I2 r1 r2 r q2) fun _ s3 ⟨H3, I3, q3⟩ => ?_))))
  exact wpAny_release ⟨σ, H3, I3, q3⟩
/-- target = value -/
def tAsg (te : TE) (g : TG) : TS := fun D σ H => te σ H fun x H1 => g x σ H1 D.nx
theorem ps_asg {tg e : Expr} {te : TE} {g : TG} (he : PE X e te) (hg : PG X tg g) (hs : swapsWithSole [tg] e pos.line X.env = pure false := by rfl) (hw : swappedStores [tg] e X.env = pure none := by rfl)
    (h1 : (assignEach [tg] X.env).map (·.2) = [assign tg X.env] := by rfl) : PS X (.Assign [tg] e pos) (tAsg te g) := by
  intro pins s σ H D I h
  refine wpAny_Assign_stores (thn (he pins s σ H _ I h) fun v s1 ⟨x, H1, I1, r1, q1⟩ => ?_) hs hw
  rw [h1]
  exact thn (hg pins s1 σ H1 x v _ I1 r1 q1) fun _ s2 q => q
/-- name = value -/
theorem ps_set {i : Nat} {x : Str} {e : Expr} {te : TE} {pos' : Pos} (hN : X.N.Nodup) (hi : X.N[i]? = some x) (hx : Loc X.env.scope x) (he : PE X e te) (hs : swapsWith e (some (.Name x pos')) pos.line X.env = pure false := by rfl) (hf : X.fn x = true ∨ X.env.scope.names.lookup x = some .local := by first | exact .inl rfl | exact .inr rfl | assumption) :
    PS X (.Assign [.Name x pos'] e pos) (tAsg te (gName i)) := by
  intro pins s σ H D I h
  refine wpAny_Assign_Name (thn (he pins s σ H _ I h) fun v s1 ⟨y, H1, I1, r1, q1⟩ => ?_) hs
  exact store_ok I1 hN hi hx r1 (fun s2 I2 => ⟨_, H1, I2, q1⟩) hf
/-- name op= e -/
def tAug (i : Nat) (te : TE) (ti : TIp) : TS := fun D σ H => ∃ x, σ[i]? = some (some x) ∧ te σ H fun y H1 => ti x y H1 fun z H2 => D.nx (σ.set i (some z)) H2
theorem ps_aug {i : Nat} {x : Str} {e : Expr} {te : TE} {op : Operator} {ti : TIp} {pos' : Pos} (hN : X.N.Nodup) (hi : X.N[i]? = some x) (hx : Loc X.env.scope x) (he : PE X e te) (ho : PIp X op ti) (hf : X.fn x = true ∨ X.env.scope.names.lookup x = some .local := by first | exact .inl rfl | exact .inr rfl | assumption) :
    PS X (.AugAssign (.Name x pos') op e pos) (tAug i te ti) := by
  intro pins s σ H D I h
  obtain ⟨v, e1, h⟩ := h
  obtain ⟨m, hn, hl⟩ := I.loc
  have vis : Vis X.env.scope x := by rcases hx with k | k; exact .inl k; exact .inr (.inl k)
  obtain ⟨u, r, l⟩ := hl i x v hi e1 vis
  refine wpAny_AugAssign_Name ?_
  have go : wpAny (model X.prog X.w) X.A (eval e X.env) (fun w s₂ => wpAny (model X.prog X.w) X.A (inplaceOp op u w) (fun r s₃ => wpAny (model X.prog X.w) X.A (storeName X.env x r) (fun _ => SP X pins D .next) X.xe s₃) X.xe s₂) X.xe s := by
    refine thn (he pins s σ H _ I h) fun w s1 ⟨y, H1, I1, r1, q1⟩ => ?_
    refine thn (ho pins s1 σ H1 v y u w _ I1 r r1 q1) fun z s2 ⟨zv, H2, I2, r2, q2⟩ => ?_
    exact store_ok I2 hN hi hx r2 (fun s3 I3 => ⟨_, H2, I3, q2⟩) hf
  rcases l with ⟨hk, hm⟩ | ⟨hk, c, hc, hcell⟩
  · exact wpAny_loadName_local I.ok.kind hk hn hm go
  · rcases hk with hk | hk
    · exact wpAny_loadName_cell I.ok.kind hk hc hcell go
    · rcases hx with k | k
      · have : X.env.scope.names.lookup x = some .free := hk
        rw [k] at this; cases this
      · have : X.env.scope.names.lookup x = some .free := hk
        rw [k] at this; cases this
/-- ints -/
def ipI (f : Int → Int → Int) : TIp := fun x y H Q => ∃ i j, x = .int i ∧ y = .int j ∧ Q (.int (f i j)) H
theorem ip_add : PIp X .Add (ipI fun i j => i + j) := by
  intro pins s σ H x y v u Q I r1 r2 h
  obtain ⟨i, j, e1, e2, q⟩ := h
  subst e1; subst e2
  obtain ⟨t, rfl⟩ := r1
  obtain ⟨t', rfl⟩ := r2
  exact iadd_int ⟨.int _, H, I.tok _, ⟨_, rfl⟩, q⟩
end

/-! ### while -/
section
variable {X : Cx} {pos : Pos}
/-- the invariant W with its measure -/
def tWhile (c : TT) (tb : TS) : TS := fun D σ H => ∃ W : Nat → St → Hp → Prop, (∃ m, W m σ H) ∧ ∀ m σ H, W m σ H →
  c σ H fun b H1 => if b = true then ∃ N : St → Hp → Prop, (∀ σ' H', N σ' H' → ∃ m', m' < m ∧ W m' σ' H') ∧ tb { D with nx := N, ct := N, bk := D.nx } σ H1 else D.nx σ H1
theorem ps_while {c : Expr} {body : List Stmt} {tc : TT} {tb : TS} (hp : PassesOwn (model X.prog X.w) X.A X.env X.xe) (hc : PT X c tc) (hb : PSs X body tb) : PS X (.While c body [] pos) (tWhile tc tb) := by
  intro pins s σ H D I h
  obtain ⟨W, ⟨m0, w0⟩, turn⟩ := h
  refine wpAny_While (codeAny_whileLoop (fun n s' => ∃ σ' H', Inv X pins σ' H' s' ∧ W n σ' H') ?_ m0 ⟨σ, H, I, w0⟩)
  rintro n s1 ⟨σ1, H1, I1, w1⟩
  refine wpAny_passesOwn hp (thn (hc pins s1 σ1 H1 _ I1 (turn n σ1 H1 w1)) fun b s2 ⟨H2, I2, q2⟩ => ?_)
  cases b with
  | true =>
    obtain ⟨N, hN, q2⟩ := q2
    rw [if_pos rfl]
    refine wpAny_passesOwn hp (thn (hb pins s2 σ1 H2 _ I2 q2) fun f s3 q3 => ?_)
    cases f with
    | next =>
      obtain ⟨σ3, H3, I3, n3⟩ := q3
      obtain ⟨m', hm, w3⟩ := hN σ3 H3 n3
      exact ⟨m', hm, σ3, H3, I3, w3⟩
    | cont =>
      obtain ⟨σ3, H3, I3, n3⟩ := q3
      obtain ⟨m', hm, w3⟩ := hN σ3 H3 n3
      exact ⟨m', hm, σ3, H3, I3, w3⟩
    | brk => exact q3
    | ret v => exact q3
  | false =>
    rw [if_neg Bool.false_ne_true]
    exact wpAny_execs_nil ⟨σ1, H2, I2, q2⟩
end

/-! ### what a loop or a comprehension walks -/
/-- at turn i: it yields x (the heap may grow), or it stops -/
structure It where
  go : Nat → Hp → Prop
  yld : Nat → Hp → V → Hp → Prop
  stop : Nat → Hp → Prop
/-- the iterator's own objects may turn: they are not the frame's, not pinned, younger than the entry (or a comprehension's own) -/
def FpOk (X : Cx) (pins : List (Addr × Obj)) (H : Hp) (b : Addr) : Prop :=
  H b = none ∧ b ≠ X.env.locals ∧ b ∉ X.fs ∧ (b ∈ X.ex ∨ X.s₀.heap.objs.size ≤ b) ∧ (∀ x c, X.env.cells.lookup x = some c → c ≠ b) ∧ ∀ p ∈ X.pn ++ pins, p.1 ≠ b
theorem Inv.fpOk {X : Cx} {pins : List (Addr × Obj)} {σ : St} {H H' : Hp} {s : Shared} {b : Addr} (I : Inv X pins σ H s) (hb : s.heap.objs.size ≤ b) (hn : H' b = none) : FpOk X pins H' b := by
  refine ⟨hn, Nat.ne_of_gt (Nat.lt_of_lt_of_le I.lt hb), I.nofs hb, .inr (Nat.le_trans I.sz hb), fun x c e z => ?_, fun p hp z => ?_⟩
  · obtain ⟨v, q⟩ := I.cell x c e
    exact absurd (Nat.lt_of_lt_of_le q.lt (by rw [z]; exact hb)) (Nat.lt_irrefl _)
  · exact absurd (Nat.lt_of_lt_of_le (Heap.lt_size (I.pin p hp).1) (by rw [z]; exact hb)) (Nat.lt_irrefl _)
structure Turn (P : Program) (w : World) (K : PySem.W.Frag) (tg : Expr) (J : It) (fp : List Addr) (it : Addr) (tn : Nat → Heap → Prop) : Prop where
  mem : it ∈ fp
  obj : ∀ i h, tn i h → ∀ b ∈ fp, ∃ o, h.get? b = some o ∧ ∀ v, o.data ≠ .cell v
  keep : ∀ i h h', tn i h → (∀ b ∈ fp, ∀ o, h.get? b = some o → h'.get? b = some o) → tn i h'
  item : ∀ (X : Cx), X.prog = P → X.w = w → X.K = K → X.calm = true → ∀ (i : Nat) (pins : List (Addr × Obj)) (s : Shared) (σ : St) (H : Hp) (E : Value → Shared → Prop), Inv X pins σ H s → (∀ b ∈ fp, FpOk X pins H b) → tn i s.heap → J.go i H →
    wpAny (model P w) X.A (pyNext (.ref it)) (fun r s1 => ∃ u, r = some u ∧
      wpAny (model P w) X.A (letOwnedTupleGo tg (.ref it) u) (fun _ s2 => ∃ x H', Inv X pins σ H' s2 ∧ RelV x u ∧ J.yld i H x H' ∧ tn (i + 1) s2.heap ∧ ∀ b ∈ fp, H' b = none) E s1) E s
  done : ∀ (X : Cx), X.prog = P → X.w = w → X.K = K → X.calm = true → ∀ (i : Nat) (pins : List (Addr × Obj)) (s : Shared) (σ : St) (H : Hp) (E : Value → Shared → Prop), Inv X pins σ H s → (∀ b ∈ fp, FpOk X pins H b) → tn i s.heap → J.stop i H →
    wpAny (model P w) X.A (pyNext (.ref it)) (fun r s1 => r = none ∧ Inv X pins σ H s1) E s
  self : ∀ (A : Around) (i : Nat) (s : Shared) (Q : Value → Shared → Prop) (E : Value → Shared → Prop), tn i s.heap → Q (.ref it) s → wpAny (model P w) A (pyIter (.ref it)) Q E s
abbrev TI := St → Hp → (It → Hp → Prop) → Prop
/-- an iterator has come -/
def PIE (X : Cx) (pins : List (Addr × Obj)) (σ : St) (tg : Expr) (R : It → Hp → Prop) (itv : Value) (s2 : Shared) : Prop :=
  ∃ (it : Addr) (fp : List Addr) (tn : Nat → Heap → Prop) (J : It) (H' : Hp), itv = .ref it ∧ Inv X pins σ H' s2 ∧ Turn X.prog X.w X.K tg J fp it tn ∧ tn 0 s2.heap ∧ (∀ b ∈ fp, FpOk X pins H' b) ∧ R J H'
def PI (X : Cx) (tg iter : Expr) (wi : TI) : Prop :=
  ∀ (pins : List (Addr × Obj)) (s : Shared) (σ : St) (H : Hp) (R : It → Hp → Prop), Inv X pins σ H s → wi σ H R →
    wpAny (model X.prog X.w) X.A (eval iter X.env) (fun v s1 => wpAny (model X.prog X.w) X.A (pyIter v) (PIE X pins σ tg R) X.xe s1) X.xe s

/-- the step ahead of the store is nothing for an iterator that keeps no tuple -/
theorem go_of {M : Model} {A : Around} {E : Value → Shared → Prop} {s : Shared} {tg : Expr} {it : Addr} {u : Value} {o : Obj} {n : String} {vs : Array Value} {Q : Unit → Shared → Prop} (ho : s.heap.get? it = some o) (hc : o.cls = .type n) (hd : o.data = .fields vs)
    (hn : ["enumerate", "zip", "dict_itemiterator", "dict_reverseitemiterator", "odict_iterator", "itertools.zip_longest", "itertools.pairwise"].contains n = false) (hQ : Q () s) : wpAny M A (letOwnedTupleGo tg (.ref it) u) Q E s := by
  unfold letOwnedTupleGo
  cases tg <;> first
    | exact wpAny_pure hQ
    | (cases u <;> first
        | exact wpAny_pure hQ
        | (refine wpAny_bind (wpAny_load ho ?_)
           rw [hc, hd]
           show wpAny M A (if (["enumerate", "zip", "dict_itemiterator", "dict_reverseitemiterator", "odict_iterator", "itertools.zip_longest", "itertools.pairwise"].contains n && vs[0]? == some (rawInt _)) = true then _ else _) Q E s
           rw [if_neg (by intro h; rw [hn, Bool.false_and] at h; cases h)]
           exact wpAny_pure hQ))

/-- the list at a, as it stands at each turn (a loop may append to it) -/
def Itl (K : PySem.W.Frag) (a : Addr) : It :=
  ⟨fun i H => ∃ xs x, SqL K H a xs ∧ xs[i]? = some x, fun i H x H' => H' = H ∧ ∀ xs, SqL K H a xs → xs[i]? = some x, fun i H => ∃ xs, SqL K H a xs ∧ xs.length ≤ i⟩
def Itt (K : PySem.W.Frag) (a : Addr) : It :=
  ⟨fun i H => ∃ xs x, SqT K H a xs ∧ xs[i]? = some x, fun i H x H' => H' = H ∧ ∀ xs, SqT K H a xs → xs[i]? = some x, fun i H => ∃ xs, SqT K H a xs ∧ xs.length ≤ i⟩
/-- lo, lo + 1, .. (n of them) -/
def Itr (lo : Int) (n : Nat) : It := ⟨fun i _ => i < n, fun i H x H' => H' = H ∧ x = .int (lo + i), fun i _ => n ≤ i⟩
theorem turn_list {P : Program} {w : World} {K : PySem.W.Frag} {tg : Expr} (a it : Addr) : Turn P w K tg (Itl K a) [it] it (fun i h => h.IsListIter it a i) where
  mem := by simp
  obj := fun i h st b hb => by
    have e : b = it := by simpa using hb
    subst e
    obtain ⟨o, e, c, d⟩ := st
    exact ⟨o, e, fun v z => by rw [d] at z; cases z⟩
  keep := fun i h h' st k => st.at fun o e => k it (by simp) o e
  item := by
    intro X hP hw hK hc i pins s σ H E I hf st hg
    subst hP hw hK
    obtain ⟨xs, x, hq, hx⟩ := hg
    obtain ⟨its, rv, p, hz⟩ := I.list hq
    obtain ⟨u, hu, ru⟩ := rv.get hx
    obtain ⟨f0, f1, f2, f3, f4, f5⟩ := hf it (by simp)
    refine wpAny_pyNext_list_item st p.isList (x := u) (by simpa using hu) fun h' st' sb => ?_
    have I1 : Inv X pins σ H { s with heap := h' } := I.turned (t' := s.toks) (fun b o hb e => (sb.2 b hb).trans e) f0 f1 f3 f4 f5
    obtain ⟨o, e, c, d⟩ := id st'
    exact ⟨u, rfl, go_of (s := { s with heap := h' }) e c d (by decide) ⟨x, H, I1, ru, ⟨rfl, fun ys hy => by rw [I.list_inj hy hq]; exact hx⟩, st', fun b hb => (hf b hb).1⟩⟩
  done := by
    intro X hP hw hK hc i pins s σ H E I hf st hg
    subst hP hw hK
    obtain ⟨xs, hq, hx⟩ := hg
    obtain ⟨its, rv, p, hz⟩ := I.list hq
    obtain ⟨f0, f1, f2, f3, f4, f5⟩ := hf it (by simp)
    have hl := rv.length
    exact wpAny_pyNext_list_end (I.ok.hd hc) st p.isList (by simp; omega) fun h' eb => ⟨rfl, I.turned (t' := s.toks) (fun b o hb e => eb b o hb e) f0 f1 f3 f4 f5⟩
  self := fun _ _ _ _ _ st h => wpAny_pyIter_listiter st h
theorem turn_tuple {P : Program} {w : World} {K : PySem.W.Frag} {tg : Expr} (a it : Addr) : Turn P w K tg (Itt K a) [it] it (fun i h => h.IsTupleIter it a i) where
  mem := by simp
  obj := fun i h st b hb => by
    have e : b = it := by simpa using hb
    subst e
    obtain ⟨o, e, c, d⟩ := st
    exact ⟨o, e, fun v z => by rw [d] at z; cases z⟩
  keep := fun i h h' st k => st.at fun o e => k it (by simp) o e
  item := by
    intro X hP hw hK hc i pins s σ H E I hf st hg
    subst hP hw hK
    obtain ⟨xs, x, hq, hx⟩ := hg
    obtain ⟨its, rv, p, hz⟩ := I.tuple hq
    obtain ⟨u, hu, ru⟩ := rv.get hx
    obtain ⟨f0, f1, f2, f3, f4, f5⟩ := hf it (by simp)
    refine wpAny_pyNext_tuple_item st (show s.heap.IsTuple a its.toArray from p) (x := u) (by simpa using hu) fun h' st' sb => ?_
    have I1 : Inv X pins σ H { s with heap := h' } := I.turned (t' := s.toks) (fun b o hb e => (sb.2 b hb).trans e) f0 f1 f3 f4 f5
    obtain ⟨o, e, c, d⟩ := id st'
    exact ⟨u, rfl, go_of (s := { s with heap := h' }) e c d (by decide) ⟨x, H, I1, ru, ⟨rfl, fun ys hy => by rw [I.tuple_inj hy hq]; exact hx⟩, st', fun b hb => (hf b hb).1⟩⟩
  done := by
    intro X hP hw hK hc i pins s σ H E I hf st hg
    subst hP hw hK
    obtain ⟨xs, hq, hx⟩ := hg
    obtain ⟨its, rv, p, hz⟩ := I.tuple hq
    obtain ⟨f0, f1, f2, f3, f4, f5⟩ := hf it (by simp)
    have hl := rv.length
    exact wpAny_pyNext_tuple_end (I.ok.hd hc) st (show s.heap.IsTuple a its.toArray from p) (by simp; omega) fun h' eb => ⟨rfl, I.turned (t' := s.toks) (fun b o hb e => eb b o hb e) f0 f1 f3 f4 f5⟩
  self := fun _ _ _ _ _ st h => wpAny_pyIter_tupleiter st h
theorem turn_range {P : Program} {w : World} {K : PySem.W.Frag} {tg : Expr} (it : Addr) (lo : Int) (n : Nat) : Turn P w K tg (Itr lo n) [it] it (fun i h => IsRangeIter h it (lo + (i : Nat) * 1) ((n : Int) - (i : Nat)) 1) where
  mem := by simp
  obj := fun i h st b hb => by
    have e : b = it := by simpa using hb
    subst e
    exact ⟨_, st, fun v z => by
      have z' : Data.fields _ = Data.cell v := z
      cases z'⟩
  keep := fun i h h' st k => k it (by simp) _ st
  item := by
    intro X hP hw hK hc i pins s σ H E I hf st hg
    subst hP hw hK
    obtain ⟨f0, f1, f2, f3, f4, f5⟩ := hf it (by simp)
    have W := Walks.range (prog := X.prog) (w := X.w) (I.ok.hd hc) it lo 1 n
    refine W.item i s _ _ hg st fun v h' tk hv st' kk => ?_
    obtain ⟨t, rfl⟩ := hv
    have I1 : Inv X pins σ H { s with heap := h', toks := tk } := I.turned (fun b o hb e => kk b o (by simpa using hb) e) f0 f1 f3 f4 f5
    refine ⟨_, rfl, go_of (s := { s with heap := h', toks := tk }) (n := "range_iterator") st' rfl rfl (by decide) ⟨.int (lo + i), H, I1, ⟨t, ?_⟩, ⟨rfl, rfl⟩, st', fun b hb => (hf b hb).1⟩⟩
    rw [Int.mul_one]
  done := by
    intro X hP hw hK hc i pins s σ H E I hf st hg
    subst hP hw hK
    obtain ⟨f0, f1, f2, f3, f4, f5⟩ := hf it (by simp)
    exact wpAny_pyNext_range_end (I.ok.hd hc) st (by have : n ≤ i := hg; omega) fun h' eb => ⟨rfl, I.turned (t' := s.toks) (fun b o hb e => eb b o hb e) f0 f1 f3 f4 f5⟩
  self := fun _ _ _ _ _ st h => wpAny_pyIter_rangeiter st h
end L2

namespace L2
open PySem PySem.Spec PyProof.Rows
section
variable {X : Cx} {tg : Expr}
def iList (K : PySem.W.Frag) (tl : TE) : TI := fun σ H R => tl σ H fun x H1 => ∃ a, x = .ref a ∧ (∃ xs, SqL K H1 a xs) ∧ R (Itl K a) H1
def iTup (K : PySem.W.Frag) (tl : TE) : TI := fun σ H R => tl σ H fun x H1 => ∃ a, x = .ref a ∧ (∃ xs, SqT K H1 a xs) ∧ R (Itt K a) H1
theorem pi_list {l : Expr} {tl : TE} (hl : PE X l tl) : PI X tg l (iList X.K tl) := by
  intro pins s σ H R I h
  refine thn (hl pins s σ H _ I h) fun v s1 ⟨x, H1, I1, r1, q1⟩ => ?_
  obtain ⟨a, e, ⟨xs, hq⟩, q⟩ := q1
  subst e
  cases r1
  obtain ⟨its, rv, p, hz⟩ := I1.list hq
  refine wpAny_pyIter_list p.isList ?_
  refine ⟨s1.heap.objs.size, [s1.heap.objs.size], _, _, H1, rfl, I1.kept (t' := s1.toks) fun b o e => Heap.get?_push_of_some _ e, turn_list a _, ⟨_, Heap.get?_push_size _ rfl, rfl, rfl⟩, fun b hb => ?_, q⟩
  have e : b = s1.heap.objs.size := by simpa using hb
  subst e
  exact I1.fpOk (Nat.le_refl _) (I1.hok.fresh (Nat.le_refl _))
theorem pi_tup {l : Expr} {tl : TE} (hl : PE X l tl) : PI X tg l (iTup X.K tl) := by
  intro pins s σ H R I h
  refine thn (hl pins s σ H _ I h) fun v s1 ⟨x, H1, I1, r1, q1⟩ => ?_
  obtain ⟨a, e, ⟨xs, hq⟩, q⟩ := q1
  subst e
  cases r1
  obtain ⟨its, rv, p, hz⟩ := I1.tuple hq
  refine wpAny_pyIter_tuple (show s1.heap.IsTuple a its.toArray from p) ?_
  refine ⟨s1.heap.objs.size, [s1.heap.objs.size], _, _, H1, rfl, I1.kept (t' := s1.toks) fun b o e => Heap.get?_push_of_some _ e, turn_tuple a _, ⟨_, Heap.get?_push_size _ rfl, rfl, rfl⟩, fun b hb => ?_, q⟩
  have e : b = s1.heap.objs.size := by simpa using hb
  subst e
  exact I1.fpOk (Nat.le_refl _) (I1.hok.fresh (Nat.le_refl _))
/-- a range object just made, walked -/
theorem range_it {pins : List (Addr × Obj)} {σ : St} {H : Hp} {s : Shared} {R : It → Hp → Prop} {E : Value → Shared → Prop} {lo hi : Int} {t u v : Tok} {tk : Nat} (I : Inv X pins σ H s) (h1 : -(2 ^ 62) ≤ lo) (h2 : lo < 2 ^ 62) (h3 : -(2 ^ 62) ≤ hi) (h4 : hi < 2 ^ 62)
    (q : R (Itr lo (hi - lo).toNat) H) : wpAny (model X.prog X.w) X.A (pyIter (.ref s.heap.objs.size)) (PIE X pins σ tg R) E { s with heap := s.heap.push { cls := .type "range", data := .fields #[.int lo t, .int hi u, .int 1 v] }, toks := tk } := by
  refine wpAny_pyIter_range (IsRange.new ..) (small_one h1 h2 h3 h4) ?_
  have I1 : Inv X pins σ H { s with heap := s.heap.push { cls := .type "range", data := .fields #[.int lo t, .int hi u, .int 1 v] }, toks := tk } := I.kept fun b o e => Heap.get?_push_of_some _ e
  refine ⟨(s.heap.push { cls := .type "range", data := .fields #[.int lo t, .int hi u, .int 1 v] }).objs.size, [(s.heap.push { cls := .type "range", data := .fields #[.int lo t, .int hi u, .int 1 v] }).objs.size], _, _, H, rfl,
    I1.kept (t' := tk) fun b o e => Heap.get?_push_of_some _ e, turn_range _ lo (hi - lo).toNat, ?_, fun b hb => ?_, q⟩
  · have e1 : lo + ((0 : Nat) : Int) * 1 = lo := by simp
    have e2 : (((hi - lo).toNat : Nat) : Int) - ((0 : Nat) : Int) = Builtin.Range.rangeSize lo hi 1 := by rw [rangeSize_one]; split <;> omega
    show IsRangeIter _ _ (lo + ((0 : Nat) : Int) * 1) ((((hi - lo).toNat : Nat) : Int) - ((0 : Nat) : Int)) 1
    rw [e1, e2]
    exact Heap.get?_push_size _ rfl
  · have e : b = (s.heap.push { cls := .type "range", data := .fields #[.int lo t, .int hi u, .int 1 v] }).objs.size := by simpa using hb
    subst e
    exact I1.fpOk (Nat.le_refl _) (I1.hok.fresh (Nat.le_refl _))
def iRng1 (ta : TA) : TI := fun σ H R => ta σ H fun vs H1 => ∃ j : Int, vs = [.int j] ∧ -(2 ^ 62) ≤ j ∧ j < 2 ^ 62 ∧ R (Itr 0 j.toNat) H1
def iRng2 (ta : TA) : TI := fun σ H R => ta σ H fun vs H1 => ∃ i j : Int, vs = [.int i, .int j] ∧ (-(2 ^ 62) ≤ i ∧ i < 2 ^ 62 ∧ -(2 ^ 62) ≤ j ∧ j < 2 ^ 62) ∧ R (Itr i (j - i).toNat) H1
theorem pi_range1 {a : Expr} {ta : TA} {p pos : Pos} (hg : Gl X "range") (hm : X.mg "range" = none) (ha : PA X [a] ta) (hs : starEach [a] X.env = [(false, eval a X.env)] := by rfl) : PI X tg (.Call (.Name "range" p) [a] [] pos) (iRng1 ta) := by
  intro pins s σ H R I h
  refine Call_ (ld_blt I hg hm boot_range (PyProof.Rows.callWith_type1 (thn (ha pos pins s σ H _ I h) fun us s1 ⟨vs, H1, I1, r1, q1⟩ => ?_) hs rfl))
  obtain ⟨j, e, q1, q2, q⟩ := q1
  subst e
  cases r1 with
  | cons r rr =>
    cases rr
    obtain ⟨t, rfl⟩ := r
    exact call_range_1 (range_it I1 (by omega) (by omega) q1 q2 (by simpa using q))
theorem pi_range2 {a b : Expr} {ta : TA} {p pos : Pos} (hg : Gl X "range") (hm : X.mg "range" = none) (ha : PA X [a, b] ta) (hs : starEach [a, b] X.env = [(false, eval a X.env), (false, eval b X.env)] := by rfl) (hs2 : starEach [b] X.env = [(false, eval b X.env)] := by rfl) :
    PI X tg (.Call (.Name "range" p) [a, b] [] pos) (iRng2 ta) := by
  intro pins s σ H R I h
  refine Call_ (ld_blt I hg hm boot_range (PyProof.Rows.callWith_type1 (thn (ha pos pins s σ H _ I h) fun us s1 ⟨vs, H1, I1, r1, q1⟩ => ?_) (by rw [hs, hs2]) (by rw [hs2]; rfl)))
  obtain ⟨i, j, e, ⟨q1, q2, q3, q4⟩, q⟩ := q1
  subst e
  cases r1 with
  | cons r rr =>
    cases rr with
    | cons r' rr =>
      cases rr
      obtain ⟨t, rfl⟩ := r
      obtain ⟨t', rfl⟩ := r'
      exact call_range_2 (range_it I1 q1 q2 q3 q4 q)

/-! ### for -/
/-- W: the invariant by the turn and a measure; N: what the body is to reach -/
def tFor (wi : TI) (g : TG) (tb : TS) : TS := fun D σ H => wi σ H fun J H1 => ∃ W : Nat → Nat → St → Hp → Prop, (∃ m, W 0 m σ H1) ∧ ∀ i m σ H, W i m σ H →
  (J.stop i H ∧ D.nx σ H) ∨ (J.go i H ∧ ∃ N : St → Hp → Prop, (∀ σ' H', N σ' H' → ∃ m', m' < m ∧ W (i + 1) m' σ' H') ∧ ∀ x H', J.yld i H x H' → g x σ H' fun σ2 H2 => tb { D with nx := N, ct := N, bk := D.nx } σ2 H2)
/-- the records at fp as they stand -/
def pinsAt (fp : List Addr) (h : Heap) : List (Addr × Obj) := fp.filterMap fun b => (h.get? b).map fun o => (b, o)
theorem mem_pinsAt {fp : List Addr} {h : Heap} {b : Addr} {o : Obj} (hb : b ∈ fp) (e : h.get? b = some o) : (b, o) ∈ pinsAt fp h := List.mem_filterMap.mpr ⟨b, hb, by rw [e]; rfl⟩
theorem of_pinsAt {fp : List Addr} {h : Heap} {p : Addr × Obj} (hp : p ∈ pinsAt fp h) : p.1 ∈ fp ∧ h.get? p.1 = some p.2 := by
  obtain ⟨b, hb, e⟩ := List.mem_filterMap.mp hp
  cases q : h.get? b with
  | none => rw [q] at e; cases e
  | some o =>
    rw [q] at e
    have e' : (b, o) = p := Option.some.inj e
    subst e'
    exact ⟨hb, q⟩
theorem Inv.pinned {pins : List (Addr × Obj)} {σ : St} {H : Hp} {s : Shared} {fp : List Addr} (I : Inv X pins σ H s) (hf : ∀ b ∈ fp, FpOk X pins H b) (ho : ∀ b ∈ fp, ∃ o, s.heap.get? b = some o ∧ ∀ v, o.data ≠ .cell v) : Inv X (pins ++ pinsAt fp s.heap) σ H s :=
  I.pins_of fun p hp => (List.mem_append.mp hp).elim (fun z => I.pin p (List.mem_append_right _ z)) fun z => by
    obtain ⟨hb, e⟩ := of_pinsAt z
    obtain ⟨f0, f1, f2, _⟩ := hf p.1 hb
    obtain ⟨o, e', d⟩ := ho p.1 hb
    rw [e] at e'; cases e'
    exact ⟨e, f0, f1, f2, d⟩
theorem Inv.unpinned {pins pl : List (Addr × Obj)} {σ : St} {H : Hp} {s : Shared} (I : Inv X (pins ++ pl) σ H s) : Inv X pins σ H s := I.pins_of fun p hp => I.pin p (List.mem_append_right _ (List.mem_append_left _ hp))
theorem ps_for {iter : Expr} {body : List Stmt} {wi : TI} {g : TG} {tb : TS} {pos : Pos} (hp : PassesOwn (model X.prog X.w) X.A X.env X.xe) (hc : X.calm = true) (hi : PI X tg iter wi) (hg : PG X tg g) (hb : PSs X body tb)
    (hs : ∀ x, foldedSetIterable iter X.env x = pure x := by intro _; rfl) : PS X (.For tg iter body [] pos) (tFor wi g tb) := by
  intro pins s σ H D I h
  refine wpAny_For (thn (hi pins s σ H _ I h) fun v s1 h1 => thn h1 fun itv s2 h2 => ?_) hs
  obtain ⟨it, fp, tn, J, H2, e, I2, T, st2, f2, W, ⟨m0, w0⟩, turn⟩ := h2
  subst e
  -- what stays true of the iterator's objects through the loop
  have stat : ∀ {H' : Hp}, (∀ b ∈ fp, H' b = none) → ∀ b ∈ fp, FpOk X pins H' b := fun hn b hb => ⟨hn b hb, (f2 b hb).2⟩
  refine codeAny_forLoop_any (fun n s' => ∃ i σ' H', Inv X pins σ' H' s' ∧ tn i s'.heap ∧ (∀ b ∈ fp, H' b = none) ∧ W i n σ' H') ?_ m0 ⟨0, σ, H2, I2, st2, fun b hb => (f2 b hb).1, w0⟩
  rintro n s3 ⟨i, σ3, H3, I3, st3, fr3, w3⟩
  rcases turn i n σ3 H3 w3 with ⟨stop, qn⟩ | ⟨go, N, hN, step⟩
  · refine wpAny_passesOwn hp (thn (T.done X rfl rfl rfl hc i pins s3 σ3 H3 X.xe I3 (stat fr3) st3 stop) fun r s4 ⟨hr, I4⟩ => ?_)
    subst hr
    exact wpAny_execs_nil ⟨σ3, H3, I4, qn⟩
  · refine wpAny_passesOwn hp (thn (T.item X rfl rfl rfl hc i pins s3 σ3 H3 X.xe I3 (stat fr3) st3 go) fun r s4 ⟨u, hr, h4⟩ => ?_)
    subst hr
    refine wpAny_passesOwn hp (thn h4 fun _ s5 ⟨x, H5, I5, r5, y5, st5, fr5⟩ => ?_)
    have I5' := I5.pinned (stat fr5) (T.obj _ _ st5)
    refine wpAny_passesOwn hp (thn (hg _ s5 σ3 H5 x u _ I5' r5 (step x H5 y5)) fun _ s6 ⟨σ6, H6, I6, q6⟩ => ?_)
    refine wpAny_passesOwn hp (thn (hb _ s6 σ6 H6 _ I6 q6) fun f s7 q7 => ?_)
    have again : ∀ {σ7 : St} {H7 : Hp}, Inv X (pins ++ pinsAt fp s5.heap) σ7 H7 s7 → N σ7 H7 → ∃ m, m < n ∧ ∃ i σ' H', Inv X pins σ' H' s7 ∧ tn i s7.heap ∧ (∀ b ∈ fp, H' b = none) ∧ W i m σ' H' := fun {σ7 H7} I7 n7 => by
      obtain ⟨m', hm, w7⟩ := hN σ7 H7 n7
      refine ⟨m', hm, i + 1, σ7, H7, I7.unpinned, T.keep _ _ _ st5 fun b hb o e => (I7.pin (b, o) (List.mem_append_right _ (List.mem_append_right _ (mem_pinsAt hb e)))).1, fun b hb => ?_, w7⟩
      obtain ⟨o, e, d⟩ := T.obj _ _ st5 b hb
      exact (I7.pin (b, o) (List.mem_append_right _ (List.mem_append_right _ (mem_pinsAt hb e)))).2.1
    cases f with
    | next => obtain ⟨σ7, H7, I7, n7⟩ := q7; exact again I7 n7
    | cont => obtain ⟨σ7, H7, I7, n7⟩ := q7; exact again I7 n7
    | brk => obtain ⟨σ7, H7, I7, q7⟩ := q7; exact ⟨σ7, H7, I7.unpinned, q7⟩
    | ret v => obtain ⟨x7, σ7, H7, I7, r7, q7⟩ := q7; exact ⟨x7, σ7, H7, I7.unpinned, r7, q7⟩
end

/-! ### the forms one uses -/
/-- over a list that the body leaves as it is -/
theorem for_list {K : PySem.W.Frag} {a : Addr} {xs : List V} {g : TG} {tb : TS} {D : Ends} {σ : St} {H : Hp} (Pv : Nat → St → Hp → Prop) (h0 : Pv 0 σ H) (hl : ∀ i σ H, i ≤ xs.length → Pv i σ H → SqL K H a xs)
    (hs : ∀ i x σ H, xs[i]? = some x → Pv i σ H → g x σ H fun σ2 H2 => tb { D with nx := Pv (i + 1), ct := Pv (i + 1), bk := D.nx } σ2 H2) (hd : ∀ σ H, Pv xs.length σ H → D.nx σ H) :
    ∃ W : Nat → Nat → St → Hp → Prop, (∃ m, W 0 m σ H) ∧ ∀ i m σ H, W i m σ H →
      ((Itl K a).stop i H ∧ D.nx σ H) ∨ ((Itl K a).go i H ∧ ∃ N : St → Hp → Prop, (∀ σ' H', N σ' H' → ∃ m', m' < m ∧ W (i + 1) m' σ' H') ∧ ∀ x H', (Itl K a).yld i H x H' → g x σ H' fun σ2 H2 => tb { D with nx := N, ct := N, bk := D.nx } σ2 H2) := by
  refine ⟨fun i m σ H => m = xs.length - i ∧ i ≤ xs.length ∧ Pv i σ H, ⟨xs.length, by simp, Nat.zero_le _, h0⟩, ?_⟩
  rintro i m σ H ⟨rfl, hi, p⟩
  have q := hl i σ H hi p
  by_cases hlt : i < xs.length
  · refine .inr ⟨⟨xs, xs[i], q, by simp [hlt]⟩, Pv (i + 1), fun σ' H' p' => ⟨xs.length - (i + 1), by omega, rfl, hlt, p'⟩, fun x H' y => ?_⟩
    obtain ⟨e, y⟩ := y
    subst e
    exact hs i x σ _ (y xs q) p
  · have e : i = xs.length := by omega
    subst e
    exact .inl ⟨⟨xs, q, Nat.le_refl _⟩, hd σ H p⟩
theorem for_tup {K : PySem.W.Frag} {a : Addr} {xs : List V} {g : TG} {tb : TS} {D : Ends} {σ : St} {H : Hp} (Pv : Nat → St → Hp → Prop) (h0 : Pv 0 σ H) (hl : ∀ i σ H, i ≤ xs.length → Pv i σ H → SqT K H a xs)
    (hs : ∀ i x σ H, xs[i]? = some x → Pv i σ H → g x σ H fun σ2 H2 => tb { D with nx := Pv (i + 1), ct := Pv (i + 1), bk := D.nx } σ2 H2) (hd : ∀ σ H, Pv xs.length σ H → D.nx σ H) :
    ∃ W : Nat → Nat → St → Hp → Prop, (∃ m, W 0 m σ H) ∧ ∀ i m σ H, W i m σ H →
      ((Itt K a).stop i H ∧ D.nx σ H) ∨ ((Itt K a).go i H ∧ ∃ N : St → Hp → Prop, (∀ σ' H', N σ' H' → ∃ m', m' < m ∧ W (i + 1) m' σ' H') ∧ ∀ x H', (Itt K a).yld i H x H' → g x σ H' fun σ2 H2 => tb { D with nx := N, ct := N, bk := D.nx } σ2 H2) := by
  refine ⟨fun i m σ H => m = xs.length - i ∧ i ≤ xs.length ∧ Pv i σ H, ⟨xs.length, by simp, Nat.zero_le _, h0⟩, ?_⟩
  rintro i m σ H ⟨rfl, hi, p⟩
  have q := hl i σ H hi p
  by_cases hlt : i < xs.length
  · refine .inr ⟨⟨xs, xs[i], q, by simp [hlt]⟩, Pv (i + 1), fun σ' H' p' => ⟨xs.length - (i + 1), by omega, rfl, hlt, p'⟩, fun x H' y => ?_⟩
    obtain ⟨e, y⟩ := y
    subst e
    exact hs i x σ _ (y xs q) p
  · have e : i = xs.length := by omega
    subst e
    exact .inl ⟨⟨xs, q, Nat.le_refl _⟩, hd σ H p⟩
theorem for_range {lo : Int} {n : Nat} {g : TG} {tb : TS} {D : Ends} {σ : St} {H : Hp} (Pv : Nat → St → Hp → Prop) (h0 : Pv 0 σ H)
    (hs : ∀ i σ H, i < n → Pv i σ H → g (.int (lo + i)) σ H fun σ2 H2 => tb { D with nx := Pv (i + 1), ct := Pv (i + 1), bk := D.nx } σ2 H2) (hd : ∀ σ H, Pv n σ H → D.nx σ H) :
    ∃ W : Nat → Nat → St → Hp → Prop, (∃ m, W 0 m σ H) ∧ ∀ i m σ H, W i m σ H →
      ((Itr lo n).stop i H ∧ D.nx σ H) ∨ ((Itr lo n).go i H ∧ ∃ N : St → Hp → Prop, (∀ σ' H', N σ' H' → ∃ m', m' < m ∧ W (i + 1) m' σ' H') ∧ ∀ x H', (Itr lo n).yld i H x H' → g x σ H' fun σ2 H2 => tb { D with nx := N, ct := N, bk := D.nx } σ2 H2) := by
  refine ⟨fun i m σ H => m = n - i ∧ i ≤ n ∧ Pv i σ H, ⟨n, by simp, Nat.zero_le _, h0⟩, ?_⟩
  rintro i m σ H ⟨rfl, hi, p⟩
  by_cases hlt : i < n
  · refine .inr ⟨hlt, Pv (i + 1), fun σ' H' p' => ⟨n - (i + 1), by omega, rfl, hlt, p'⟩, fun x H' y => ?_⟩
    obtain ⟨e, y⟩ := y
    subst e y
    exact hs i σ _ hlt p
  · have e : i = n := by omega
    subst e
    exact .inl ⟨Nat.le_refl _, hd σ H p⟩
/-- while, by a word and a measure of the state -/
theorem while_by {c : TT} {tb : TS} {D : Ends} {σ : St} {H : Hp} (Pv : St → Hp → Prop) (μ : St → Hp → Nat) (h0 : Pv σ H)
    (hs : ∀ σ H, Pv σ H → c σ H fun b H1 => if b = true then tb { D with nx := fun σ' H' => Pv σ' H' ∧ μ σ' H' < μ σ H, ct := fun σ' H' => Pv σ' H' ∧ μ σ' H' < μ σ H, bk := D.nx } σ H1 else D.nx σ H1)
    (mono : ∀ σ H Q Q', (∀ b H1, Q b H1 → Q' b H1) → c σ H Q → c σ H Q') : tWhile c tb D σ H := by
  refine ⟨fun m σ H => m = μ σ H ∧ Pv σ H, ⟨_, rfl, h0⟩, ?_⟩
  rintro m σ H ⟨rfl, p⟩
  refine mono σ H _ _ (fun b H1 q => ?_) (hs σ H p)
  cases b with
  | true => exact ⟨_, fun σ' H' ⟨p', l⟩ => ⟨_, l, rfl, p'⟩, q⟩
  | false => exact q
end L2

namespace L2
open PySem PySem.Spec PyProof.Rows

abbrev R2 := V → V → Hp → VK → Prop
/-- a two-place operation on values: f is binaryOp op, inplaceOp op or compareOp op -/
def OpR (X : Cx) (f : Value → Value → Sem Value) (r : R2) : Prop :=
  ∀ (pins : List (Addr × Obj)) (s : Shared) (σ : St) (H : Hp) (x y : V) (v u : Value) (Q : VK), Inv X pins σ H s → RelV x v → RelV y u → r x y H Q →
    wpAny (model X.prog X.w) X.A (f v u) (EP X pins σ Q) X.xe s
/-- a one-place operation -/
def UnR (X : Cx) (f : Value → Sem Value) (r : V → Hp → VK → Prop) : Prop :=
  ∀ (pins : List (Addr × Obj)) (s : Shared) (σ : St) (H : Hp) (x : V) (v : Value) (Q : VK), Inv X pins σ H s → RelV x v → r x H Q →
    wpAny (model X.prog X.w) X.A (f v) (EP X pins σ Q) X.xe s
/-- a call of a value that is known (a builtin, a type) with values -/
def CallR (X : Cx) (f : Value) (r : List V → Hp → VK → Prop) : Prop :=
  ∀ (pins : List (Addr × Obj)) (s : Shared) (σ : St) (H : Hp) (xs : List V) (us : List Value) (Q : VK), Inv X pins σ H s → Vals xs us → r xs H Q →
    wpAny (model X.prog X.w) X.A (call f us) (EP X pins σ Q) X.xe s
/-- a value's truth -/
def TruR (X : Cx) (r : V → Hp → (Bool → Hp → Prop) → Prop) : Prop :=
  ∀ (pins : List (Addr × Obj)) (s : Shared) (σ : St) (H : Hp) (x : V) (v : Value) (Q : Bool → Hp → Prop), Inv X pins σ H s → RelV x v → r x H Q →
    wpAny (model X.prog X.w) X.A (truthy v) (TP X pins σ Q) X.xe s

def tOp (r : R2) (ta tb : TE) : TE := fun σ H Q => ta σ H fun x H1 => tb σ H1 fun y H2 => r x y H2 Q
def tUn (r : V → Hp → VK → Prop) (ta : TE) : TE := fun σ H Q => ta σ H fun x H1 => r x H1 Q
/-- ints in, under C, and a value out -/
def rI (C : Int → Int → Prop) (g : Int → Int → V) : R2 := fun x y H Q => ∃ i j, x = .int i ∧ y = .int j ∧ C i j ∧ Q (g i j) H
def rI0 (g : Int → Int → V) : R2 := fun x y H Q => ∃ i j, x = .int i ∧ y = .int j ∧ Q (g i j) H
def rU (g : Int → V) : V → Hp → VK → Prop := fun x H Q => ∃ i, x = .int i ∧ Q (g i) H

section
variable {X : Cx} {a b c : Expr} {ta tb tc : TE} {pos : Pos}

theorem binT (ha : PE X a ta) (hb : PE X b tb) {pins : List (Addr × Obj)} {s : Shared} {σ : St} {H : Hp} {R : V → V → Hp → Prop} (I : Inv X pins σ H s)
    (h : ta σ H fun x H1 => tb σ H1 fun y H2 => R x y H2) {Q : Value → Shared → Prop} {f : Value → Value → Sem Value}
    (hf : ∀ v u s2 x y H2, Inv X pins σ H2 s2 → RelV x v → RelV y u → R x y H2 → wpAny (model X.prog X.w) X.A (f v u) Q X.xe s2) :
    wpAny (model X.prog X.w) X.A (eval a X.env) (fun v s₁ => wpAny (model X.prog X.w) X.A (eval b X.env) (fun u s₂ => wpAny (model X.prog X.w) X.A (f v u) Q X.xe s₂) X.xe s₁) X.xe s := by
  refine thn (ha pins s σ H _ I h) fun v s1 ⟨x, H1, I1, r1, q1⟩ => ?_
  refine thn (hb pins s1 σ H1 _ I1 q1) fun u s2 ⟨y, H2, I2, r2, q2⟩ => ?_
  exact hf v u s2 x y H2 I2 r1 r2 q2

theorem pe_op {op : Operator} {r : R2} (ho : OpR X (binaryOp op) r) (ha : PE X a ta) (hb : PE X b tb) : PE X (.BinOp a op b pos) (tOp r ta tb) := by
  intro pins s σ H Q I h
  exact wpAny_BinOp (binT ha hb I h fun v u s2 x y H2 I2 rx ry q => ho pins s2 σ H2 x y v u Q I2 rx ry q)
theorem pe_un {op : UnaryOp} {r : V → Hp → VK → Prop} (ho : UnR X (unaryOp op) r) (ha : PE X a ta) : PE X (.UnaryOp op a pos) (tUn r ta) := by
  intro pins s σ H Q I h
  exact UnaryOp_ (thn (ha pins s σ H _ I h) fun v s1 ⟨x, H1, I1, r1, q1⟩ => ho pins s1 σ H1 x v Q I1 r1 q1)

/-! ### ints -/
theorem opI {f : Value → Value → Sem Value} {C : Int → Int → Prop} {g : Int → Int → Int}
    (rule : ∀ (i j : Int) (t u : Tok) (s : Shared) (Q : Value → Shared → Prop) (E : Value → Shared → Prop), C i j → Q (.int (g i j) s.toks) { s with toks := s.toks + 1 } → wpAny (model X.prog X.w) X.A (f (.int i t) (.int j u)) Q E s) :
    OpR X f (rI C fun i j => .int (g i j)) := by
  intro pins s σ H x y v u Q I rx ry h
  obtain ⟨i, j, rfl, rfl, hc, q⟩ := h
  obtain ⟨t, rfl⟩ := rx
  obtain ⟨t', rfl⟩ := ry
  exact rule i j t t' s _ _ hc ⟨.int (g i j), H, I.tok _, ⟨_, rfl⟩, q⟩
theorem opI0 {f : Value → Value → Sem Value} {g : Int → Int → Int}
    (rule : ∀ (i j : Int) (t u : Tok) (s : Shared) (Q : Value → Shared → Prop) (E : Value → Shared → Prop), Q (.int (g i j) s.toks) { s with toks := s.toks + 1 } → wpAny (model X.prog X.w) X.A (f (.int i t) (.int j u)) Q E s) :
    OpR X f (rI0 fun i j => .int (g i j)) := by
  intro pins s σ H x y v u Q I rx ry h
  obtain ⟨i, j, rfl, rfl, q⟩ := h
  obtain ⟨t, rfl⟩ := rx
  obtain ⟨t', rfl⟩ := ry
  exact rule i j t t' s _ _ ⟨.int (g i j), H, I.tok _, ⟨_, rfl⟩, q⟩
theorem opB0 {f : Value → Value → Sem Value} {g : Int → Int → Bool}
    (rule : ∀ (i j : Int) (t u : Tok) (s : Shared) (Q : Value → Shared → Prop) (E : Value → Shared → Prop), Q (.bool (g i j)) s → wpAny (model X.prog X.w) X.A (f (.int i t) (.int j u)) Q E s) :
    OpR X f (rI0 fun i j => .bl (g i j)) := by
  intro pins s σ H x y v u Q I rx ry h
  obtain ⟨i, j, rfl, rfl, q⟩ := h
  obtain ⟨t, rfl⟩ := rx
  obtain ⟨t', rfl⟩ := ry
  exact rule i j t t' s _ _ ⟨.bl (g i j), H, I, rfl, q⟩

def CDiv (i j : Int) : Prop := 0 < j ∧ j < 1073741824
def CPow (i j : Int) : Prop := 0 ≤ j ∧ j ≤ 1000000 ∧ i.natAbs < 2 ^ 64
def CMul (i j : Int) : Prop := (-(2 ^ 64) < i ∧ i < 2 ^ 64) ∨ (-(2 ^ 64) < j ∧ j < 2 ^ 64)
theorem CMul.ok {i j : Int} (h : CMul i j) : IntMulOk i j := by
  rcases h with ⟨h1, h2⟩ | ⟨h1, h2⟩
  · exact .of_left (intBits_le_64 h1 h2)
  · exact .of_right (intBits_le_64 h1 h2)

theorem op_add : OpR X (binaryOp .Add) (rI0 fun i j => .int (i + j)) := opI0 fun _ _ _ _ _ _ _ q => add_int q
theorem op_sub : OpR X (binaryOp .Sub) (rI0 fun i j => .int (i - j)) := opI0 fun _ _ _ _ _ _ _ q => sub_int q
theorem op_mul : OpR X (binaryOp .Mult) (rI CMul fun i j => .int (i * j)) := opI fun _ _ _ _ _ _ _ hc q => mul_int q hc.ok
/-- // by a positive divisor -/
theorem op_fdiv : OpR X (binaryOp .FloorDiv) (rI CDiv fun i j => .int (i / j)) := opI fun i j _ _ _ _ _ hc q => by
  have h1 : (0 : Int) < j := hc.1
  have h2 : j < 1073741824 := hc.2
  exact floordiv_int (by omega) (by rw [Int.fdiv_eq_ediv_of_nonneg i (by omega)]; exact q) (.inl (PyProof.noPylong_small (by omega)))
/-- % by a positive divisor of any size -/
theorem op_mod : OpR X (binaryOp .Mod) (rI (fun _ j => 0 < j) fun i j => .int (i % j)) := opI fun i j _ _ _ _ _ hc q => by
  have h1 : (0 : Int) < j := hc
  exact mod_int' (by omega) (by rw [Int.fmod_eq_emod_of_nonneg i (by omega)]; exact q)
theorem op_pow : OpR X (binaryOp .Pow) (rI CPow fun i j => .int (i ^ j.toNat)) := opI fun _ _ _ _ _ _ _ hc q => pow_int_small hc.1 hc.2.1 hc.2.2 q


theorem unI {f : Value → Sem Value} {g : Int → Int}
    (rule : ∀ (i : Int) (t : Tok) (s : Shared) (Q : Value → Shared → Prop) (E : Value → Shared → Prop), Q (.int (g i) s.toks) { s with toks := s.toks + 1 } → wpAny (model X.prog X.w) X.A (f (.int i t)) Q E s) :
    UnR X f (rU fun i => .int (g i)) := by
  intro pins s σ H x v Q I rx h
  obtain ⟨i, rfl, q⟩ := h
  obtain ⟨t, rfl⟩ := rx
  exact rule i t s _ _ ⟨.int (g i), H, I.tok _, ⟨_, rfl⟩, q⟩
theorem un_neg : UnR X (unaryOp .USub) (rU fun i => .int (-i)) := unI fun _ _ _ _ _ q => neg_int q

/-! ### bools among ints: n += (a < b) -/
end

/-! ### comparisons -/
/-- the scalars that == tells apart as data does -/
def scal : V → V → Bool
  | .non, .non => true | .non, .int _ => true | .int _, .non => true | .non, .bl _ => true | .bl _, .non => true | .non, .str _ => true | .str _, .non => true
  | .int _, .int _ => true | .bl _, .bl _ => true | .str _, .str _ => true | .byt _, .byt _ => true
  | .int _, .str _ => true | .str _, .int _ => true | .bl _, .str _ => true | .str _, .bl _ => true
  | _, _ => false
def rEq : R2 := fun x y H Q => scal x y = true ∧ Q (.bl (decide (x = y))) H
def rNe : R2 := fun x y H Q => scal x y = true ∧ Q (.bl (!decide (x = y))) H

theorem dec_int {i j : Int} : decide (V.int i = V.int j) = (i == j) := by
  rw [Bool.eq_iff_iff]
  simp
theorem dec_bl {i j : Bool} : decide (V.bl i = V.bl j) = (i == j) := by
  rw [Bool.eq_iff_iff]
  simp
theorem dec_str {i j : Str} : decide (V.str i = V.str j) = (i == j) := by
  rw [Bool.eq_iff_iff]
  simp
theorem dec_byt {i j : Array UInt8} : decide (V.byt i = V.byt j) = (i.toList == j.toList) := by
  rw [Bool.eq_iff_iff]
  cases i
  cases j
  simp

section
variable {X : Cx} {a b c : Expr} {ta tb tc : TE} {pos : Pos}
theorem fin_bl {pins : List (Addr × Obj)} {σ : St} {H : Hp} {s : Shared} {Q : VK} {k k' : Bool} (I : Inv X pins σ H s) (q : Q (.bl k) H) (e : k = k') : EP X pins σ Q (.bool k') s := by
  subst e
  exact ⟨.bl k, H, I, rfl, q⟩
theorem op_eq : OpR X (compareOp .Eq) rEq := by
  intro pins s σ H x y v u Q I rx ry h
  obtain ⟨hs, q⟩ := h
  cases x with
  | non =>
    cases rx
    cases y with
    | non => cases ry; exact PySem.EqNone.eq_none_none (fin_bl I q (by simp))
    | bl j => cases ry; exact PySem.EqNone.eq_none_bool (fin_bl I q (by simp))
    | int j => obtain ⟨t', rfl⟩ := ry; exact PySem.EqNone.eq_none_int (fin_bl I q (by simp))
    | str j => obtain ⟨t', rfl⟩ := ry; exact PySem.EqNone.eq_none_str (fin_bl I q (by simp))
    | _ => exact absurd (show false = true from hs) Bool.false_ne_true
  | bl i =>
    cases rx
    cases y with
    | non => cases ry; exact PySem.EqNone.eq_bool_none (fin_bl I q (by simp))
    | bl j => cases ry; exact eq_bool (fin_bl I q dec_bl)
    | str j => obtain ⟨t', rfl⟩ := ry; exact PySem.EqMixed.eq_bool_str (fin_bl I q (by simp))
    | _ => exact absurd (show false = true from hs) Bool.false_ne_true
  | int i =>
    obtain ⟨t, rfl⟩ := rx
    cases y with
    | non => cases ry; exact PySem.EqNone.eq_int_none (fin_bl I q (by simp))
    | int j => obtain ⟨t', rfl⟩ := ry; exact eq_int (fin_bl I q dec_int)
    | str j => obtain ⟨t', rfl⟩ := ry; exact PySem.EqMixed.eq_int_str (fin_bl I q (by simp))
    | _ => exact absurd (show false = true from hs) Bool.false_ne_true
  | str i =>
    obtain ⟨t, rfl⟩ := rx
    cases y with
    | non => cases ry; exact PySem.EqNone.eq_str_none (fin_bl I q (by simp))
    | bl j => cases ry; exact PySem.EqMixed.eq_str_bool (fin_bl I q (by simp))
    | int j => obtain ⟨t', rfl⟩ := ry; exact PySem.EqMixed.eq_str_int (fin_bl I q (by simp))
    | str j => obtain ⟨t', rfl⟩ := ry; exact eq_str (fin_bl I q dec_str)
    | _ => exact absurd (show false = true from hs) Bool.false_ne_true
  | byt i =>
    obtain ⟨t, rfl⟩ := rx
    cases y with
    | byt j => obtain ⟨t', rfl⟩ := ry; exact PySem.W.eq_bytes (fin_bl I q dec_byt)
    | _ => exact absurd (show false = true from hs) Bool.false_ne_true
  | _ => cases y <;> exact absurd (show false = true from hs) Bool.false_ne_true
theorem op_ne : OpR X (compareOp .NotEq) rNe := by
  intro pins s σ H x y v u Q I rx ry h
  obtain ⟨hs, q⟩ := h
  cases x with
  | non =>
    cases rx
    cases y with
    | non => cases ry; exact PySem.EqNone.ne_none_none (fin_bl I q (by simp))
    | bl j => cases ry; exact PySem.EqNone.ne_none_bool (fin_bl I q (by simp))
    | int j => obtain ⟨t', rfl⟩ := ry; exact PySem.EqNone.ne_none_int (fin_bl I q (by simp))
    | str j => obtain ⟨t', rfl⟩ := ry; exact PySem.EqNone.ne_none_str (fin_bl I q (by simp))
    | _ => exact absurd (show false = true from hs) Bool.false_ne_true
  | bl i =>
    cases rx
    cases y with
    | non => cases ry; exact PySem.EqNone.ne_bool_none (fin_bl I q (by simp))
    | bl j => cases ry; exact ne_bool (fin_bl I q (congrArg not dec_bl))
    | str j => obtain ⟨t', rfl⟩ := ry; exact PySem.EqMixed.ne_bool_str (fin_bl I q (by simp))
    | _ => exact absurd (show false = true from hs) Bool.false_ne_true
  | int i =>
    obtain ⟨t, rfl⟩ := rx
    cases y with
    | non => cases ry; exact PySem.EqNone.ne_int_none (fin_bl I q (by simp))
    | int j => obtain ⟨t', rfl⟩ := ry; exact ne_int (fin_bl I q (congrArg not dec_int))
    | str j => obtain ⟨t', rfl⟩ := ry; exact PySem.EqMixed.ne_int_str (fin_bl I q (by simp))
    | _ => exact absurd (show false = true from hs) Bool.false_ne_true
  | str i =>
    obtain ⟨t, rfl⟩ := rx
    cases y with
    | non => cases ry; exact PySem.EqNone.ne_str_none (fin_bl I q (by simp))
    | bl j => cases ry; exact PySem.EqMixed.ne_str_bool (fin_bl I q (by simp))
    | int j => obtain ⟨t', rfl⟩ := ry; exact PySem.EqMixed.ne_str_int (fin_bl I q (by simp))
    | str j => obtain ⟨t', rfl⟩ := ry; exact ne_str (fin_bl I q (congrArg not dec_str))
    | _ => exact absurd (show false = true from hs) Bool.false_ne_true
  | byt i =>
    obtain ⟨t, rfl⟩ := rx
    cases y with
    | byt j => obtain ⟨t', rfl⟩ := ry; exact PySem.W.ne_bytes (fin_bl I q (congrArg not dec_byt))
    | _ => exact absurd (show false = true from hs) Bool.false_ne_true
  | _ => cases y <;> exact absurd (show false = true from hs) Bool.false_ne_true

theorem op_lt : OpR X (compareOp .Lt) (rI0 fun i j => .bl (decide (i < j))) := opB0 fun _ _ _ _ _ _ _ q => lt_int q
theorem op_le : OpR X (compareOp .LtE) (rI0 fun i j => .bl (decide (i ≤ j))) := opB0 fun _ _ _ _ _ _ _ q => le_int q
theorem op_gt : OpR X (compareOp .Gt) (rI0 fun i j => .bl (decide (j < i))) := opB0 fun _ _ _ _ _ _ _ q => gt_int q

/-- is None, is not None: the right side a value none -/
theorem op_isN : OpR X (compareOp .Is) (fun x y H Q => y = .non ∧ Q (.bl (decide (x = .non))) H) := by
  intro pins s σ H x y v u Q I rx ry h
  obtain ⟨rfl, q⟩ := h
  cases ry
  refine is_none_gen (fin_bl I q ?_)
  cases x <;> first
    | (cases rx; rfl)
    | (obtain ⟨t, rfl⟩ := rx; rfl)
theorem op_notN : OpR X (compareOp .IsNot) (fun x y H Q => y = .non ∧ Q (.bl (!decide (x = .non))) H) := by
  intro pins s σ H x y v u Q I rx ry h
  obtain ⟨rfl, q⟩ := h
  cases ry
  refine isnot_none_gen (fin_bl I q ?_)
  cases x <;> first
    | (cases rx; rfl)
    | (obtain ⟨t, rfl⟩ := rx; rfl)



theorem nomark (b : Expr) {op : CmpOp} (h : op ≠ .In := by decide) (h2 : op ≠ .NotIn := by decide) : behindInMarks op b = false := by
  have e1 : (op == CmpOp.In) = false := by cases op <;> first | rfl | exact absurd rfl h
  have e2 : (op == CmpOp.NotIn) = false := by cases op <;> first | rfl | exact absurd rfl h2
  cases b <;> simp [behindInMarks, e1, e2]
/-- a comparison as a value; hm: nomark b, or (for in, not in) by with_unfolding_all rfl -/
theorem pe_cmpR {op : CmpOp} {r : R2} (ho : OpR X (compareOp op) r) (ha : PE X a ta) (hb : PE X b tb) (hm : behindInMarks op b = false) : PE X (.Compare a [op] [b] pos) (tOp r ta tb) := by
  intro pins s σ H Q I h
  exact wpAny_Compare1 (binT ha hb I h fun v u s2 x y H2 I2 rx ry q => ho pins s2 σ H2 x y v u Q I2 rx ry q) hm
/-- a reading of a value as a test -/
def tTest (t : TE) : TT := fun σ H Q => t σ H fun x H' => ∃ k, x = .bl k ∧ Q k H'
theorem pt_cmpR {op : CmpOp} {r : R2} (ho : OpR X (compareOp op) r) (ha : PE X a ta) (hb : PE X b tb) (hm : behindInMarks op b = false) : PT X (.Compare a [op] [b] pos) (tTest (tOp r ta tb)) := by
  intro pins s σ H Q I h
  refine wpAny_isTrue_Compare1 (thn (ha pins s σ H _ I h) fun v s1 ⟨x, H1, I1, r1, q1⟩ => thn (hb pins s1 σ H1 _ I1 q1) fun u s2 ⟨y, H2, I2, r2, q2⟩ =>
    thn (ho pins s2 σ H2 x y v u _ I2 r1 r2 q2) fun c s3 ⟨z, H3, I3, r3, k, e, q3⟩ => ?_) hm
  subst e
  cases r3
  exact wpAny_truthy_bool ⟨H3, I3, q3⟩

/-! ### truth -/
/-- a value's truth by the abstract heap -/
def TruV (K : PySem.W.Frag) (x : V) (H : Hp) (k : Bool) : Prop :=
  match x with
  | .non => k = false
  | .bl b => k = b
  | .int i => k = (i != 0)
  | .str y => y.length ≤ sizeLine ∧ k = ((y.length : Int) != 0)
  | .byt y => y.size ≤ sizeLine ∧ k = ((y.size : Int) != 0)
  | .ref p => (∃ xs, SqL K H p xs ∧ k = !xs.isEmpty) ∨ (∃ xs, SqT K H p xs ∧ k = !xs.isEmpty) ∨ ∃ kvs, H p = some (.dK kvs) ∧ k = !kvs.isEmpty
  | _ => False
theorem isEmpty_kv {κ : Type} {kvs : List (κ × V)} {vs : List (κ × Value)} (r : KV kvs vs) : (!vs.isEmpty) = !kvs.isEmpty := by
  cases r <;> rfl
theorem isEmpty_of {xs : List V} {its : List Value} (r : Vals xs its) : (!its.toArray.isEmpty) = !xs.isEmpty := by
  cases r <;> simp
theorem line63 : (sizeLine : Nat) < 2 ^ 63 := by rw [sizeLine_eq]; decide
theorem tru_ok : TruR X (fun x H Q => ∃ k, TruV X.K x H k ∧ Q k H) := by
  intro pins s σ H x v Q I rx h
  obtain ⟨k, e, q⟩ := h
  have hl := line63
  have hs : sizeLine = 16777216 := sizeLine_eq
  cases x with
  | non =>
    cases rx
    have e' : k = false := e
    subst e'
    exact truthy_none ⟨H, I, q⟩
  | bl b =>
    cases rx
    have e' : k = b := e
    subst e'
    exact wpAny_truthy_bool ⟨H, I, q⟩
  | int i =>
    obtain ⟨t, rfl⟩ := rx
    have e' : k = (i != 0) := e
    subst e'
    exact PySem.P.truthy_int ⟨H, I, q⟩
  | str y =>
    obtain ⟨t, rfl⟩ := rx
    obtain ⟨hy, e'⟩ : y.length ≤ sizeLine ∧ k = ((y.length : Int) != 0) := e
    subst e'
    exact PySem.P.truthy_str (by omega) ⟨H, I.tok _, q⟩
  | byt y =>
    obtain ⟨t, rfl⟩ := rx
    obtain ⟨hy, e'⟩ : y.size ≤ sizeLine ∧ k = ((y.size : Int) != 0) := e
    subst e'
    exact PySem.W.truthy_bytes (by omega) ⟨H, I.tok _, q⟩
  | ref p =>
    cases rx
    have e' : (∃ xs, SqL X.K H p xs ∧ k = !xs.isEmpty) ∨ (∃ xs, SqT X.K H p xs ∧ k = !xs.isEmpty) ∨ ∃ kvs, H p = some (.dK kvs) ∧ k = !kvs.isEmpty := e
    rcases e' with ⟨xs, hx, e'⟩ | ⟨xs, hx, e'⟩ | ⟨kvs, hx, e'⟩
    · subst e'
      obtain ⟨its, r, pl, hz⟩ := I.list hx
      have hlen := r.length
      exact wpAny_truthy_list pl.isList (by simp only [List.size_toArray]; omega) ⟨H, I.tok _, by rw [isEmpty_of r]; exact q⟩
    · subst e'
      obtain ⟨its, r, pl, hz⟩ := I.tuple hx
      have hlen := r.length
      exact truthy_tuple pl (by simp only [List.size_toArray]; omega) ⟨H, I.tok _, by rw [isEmpty_of r]; exact q⟩
    · subst e'
      obtain ⟨hz, hS, vs, r, m⟩ : kvs.length ≤ sizeLine ∧ (p == sysModules) = false ∧ ∃ vs, KV kvs vs ∧ s.heap.DictOf (mixKind X.prog X.w) p vs := I.hok p _ hx
      have hlen : kvs.length = vs.length := Paired.length r
      exact wpAny_truthy_dict hS m (by omega) ⟨H, I.tok _, by rw [isEmpty_kv r]; exact q⟩
  | _ => exact (show False from e).elim
/-- any expression whose test is its value's truth (a name, a call, a subscript, a field ..: he by fun _ => rfl) -/
theorem pt_truth (ha : PE X a ta) (he : ∀ whole, isTrue a X.env whole = (do let v ← whole; standAt a.pos; holding [v] (truthy v))) :
    PT X a (fun σ H Q => ta σ H fun x H' => ∃ k, TruV X.K x H' k ∧ Q k H') := by
  intro pins s σ H Q I h
  exact isTrue_plain (thn (ha pins s σ H _ I h) fun v s1 ⟨x, H1, I1, r1, q1⟩ => tru_ok pins s1 σ H1 x v Q I1 r1 q1) (he _)

/-! ### strs and bytes -/


/-! ### scalar builtins, by CallR -/
theorem vals1 {x : V} {us : List Value} (r : Vals [x] us) : ∃ u, us = [u] ∧ RelV x u := by
  cases r with
  | cons r1 r2 => cases r2; exact ⟨_, rfl, r1⟩
theorem vals2 {x y : V} {us : List Value} (r : Vals [x, y] us) : ∃ u w', us = [u, w'] ∧ RelV x u ∧ RelV y w' := by
  cases r with
  | cons r1 r2 =>
    cases r2 with
    | cons r3 r4 => cases r4; exact ⟨_, _, rfl, r1, r3⟩
theorem call_max2 (hc : X.calm = true) : CallR X (.builtin "max") (fun xs H Q => ∃ i j, xs = [.int i, .int j] ∧ Q (.int (if j > i then j else i)) H) := by
  intro pins s σ H xs us Q I r h
  obtain ⟨i, j, rfl, q⟩ := h
  obtain ⟨u, w', rfl, ⟨t, rfl⟩, ⟨t', rfl⟩⟩ := vals2 r
  refine max_two_ints (I.ok.hd hc) fun h' tk k => ⟨_, H, I.kept k, ?_, q⟩
  by_cases hj : j > i
  · rw [if_pos hj, if_pos hj]; exact ⟨_, rfl⟩
  · rw [if_neg hj, if_neg hj]; exact ⟨_, rfl⟩
theorem call_int1 : CallR X (.type "int") (fun xs H Q => (∃ i, xs = [.int i] ∧ Q (.int i) H) ∨ ∃ k, xs = [.bl k] ∧ Q (.int (if k then 1 else 0)) H) := by
  intro pins s σ H xs us Q I r h
  rcases h with ⟨i, rfl, q⟩ | ⟨k, rfl, q⟩
  · obtain ⟨u, rfl, t, rfl⟩ := vals1 r
    exact call_int_int ⟨.int i, H, I, ⟨_, rfl⟩, q⟩
  · obtain ⟨u, rfl, r1⟩ := vals1 r
    cases r1
    exact call_int_bool ⟨.int (if k then 1 else 0), H, I.tok _, ⟨_, rfl⟩, q⟩
end
end L2

namespace L2
open PySem PySem.Spec PyProof.Rows

/-! ### an instance, its attributes a map -/
structure ObjM (h : Heap) (x dx C : Addr) (mA : Str → Option Value) : Prop where
  obj : h.get? x = some (PySem.W.instObj C dx)
  ns : h.Ns1 dx mA
  ne : dx ≠ x

theorem lookIn_ns {h : Heap} {dx : Addr} {mA : Str → Option Value} (n : h.Ns1 dx mA) : ∃ od, h.get? dx = some od ∧ ∀ name, PySem.W.lookIn name od = some (mA name) := by
  obtain ⟨o, es, ep, ho, hd, hk, _, hm⟩ := n
  refine ⟨o, ho, fun name => ?_⟩
  have e := hm name
  unfold nsFind findBy at e
  rw [← Array.find?_toList] at e
  unfold PySem.W.lookIn
  rw [hd]
  dsimp only
  split
  · rename_i y q
    rw [q] at e
    exact congrArg some e
  · rename_i q
    rw [q] at e
    have a : es.toList.any (·.refKey) = false := by
      rw [List.any_eq_false]
      intro y hy
      obtain ⟨z, t, hkey⟩ := hk y (Array.mem_toList_iff.mp hy)
      simp [DictEntry.refKey, hkey]
    have a' : ¬ es.toList.any (·.refKey) = true := by rw [a]; exact Bool.false_ne_true
    rw [if_neg a']
    exact congrArg some e

theorem ObjM.look {h : Heap} {x dx C : Addr} {mA : Str → Option Value} (I : ObjM h x dx C mA) : ∃ od, PySem.W.InstAt h x (PySem.W.instObj C dx) C (some od) ∧ ∀ name, PySem.W.lookIn name od = some (mA name) :=
  let ⟨od, ho, hl⟩ := lookIn_ns I.ns
  ⟨od, ⟨I.obj, rfl, rfl, ho⟩, hl⟩

section
variable {prog : Program} {w : World} {A : Around} {E : Value → Shared → Prop} {s : Shared} {K : PySem.W.Frag} {x dx C f : Addr} {mA : Str → Option Value} {name : Str} {v : Value}

theorem get_map {expr : Bool} {Q : Value → Shared → Prop} (X : K.In s.heap) (I : ObjM s.heap x dx C mA) (hg : PySem.W.plainGet K C name = true) (hh : PySem.W.hasDictIn K C = true)
    (ha : PySem.W.findIn K (.ref C) name = some none) (hv : mA name = some v) (hv' : PySem.W.handedIn v = true) (h : Q v { s with toks := s.toks + 1 }) :
    wpAny (model prog w) A (getAttr (.ref x) name expr) Q E s := by
  obtain ⟨od, J, hl⟩ := I.look
  exact PySem.W.get_value X J (PySem.W.plainGet_of hg).1 (PySem.W.findObj_own hh ha rfl (by rw [hl, hv])) hv' h


theorem get_meth {pl : Sem Bool} {Q : Value × List Value → Shared → Prop} (X : K.In s.heap) (I : ObjM s.heap x dx C mA) (hg : PySem.W.plainGet K C name = true)
    (hf : PySem.W.findIn K (.ref C) name = some (some (.ref f))) (ht : PySem.W.isFn K (.ref f) = true) (hv : mA name = none) (h : Q (.ref f, [.ref x]) s) :
    wpAny (model prog w) A (getMethod (.ref x) name pl) Q E s := by
  obtain ⟨od, J, hl⟩ := I.look
  exact PySem.W.method_fn X J (PySem.W.plainGet_of hg).1 (PySem.W.plainGet_of hg).2 hf (beq_iff_eq.mp ht) (by show (PySem.W.lookIn name od).map (·.isSome) = some false; rw [hl, hv]; rfl) h

theorem set_map {ns : List Str} {Q : Unit → Shared → Prop} (X : K.In s.heap) (I : ObjM s.heap x dx C mA)
    (hs : PySem.W.findIn K (.ref C) "__setattr__" = some (some (.builtin "object.__setattr__"))) (hp : PySem.W.plainOver K C = true) (ht : PySem.W.takerIn K C name = some none) (hh : PySem.W.hasDictIn K C = true)
    (hw : PySem.Within mA ns) (hsz : ns.length ≤ sizeLine)
    (h : ∀ h', ObjM h' x dx C (fun y => if y = name then some v else mA y) → Heap.SameBut dx s.heap h' → Q () { s with heap := h', toks := s.toks + 2 }) :
    wpAny (model prog w) A (setAttr (.ref x) name v) Q E s := by
  obtain ⟨od, J, hl⟩ := I.look
  refine PySem.W.set_plain X J hs (PySem.W.osa_open (s := { s with toks := s.toks + 1 }) (r := none) X J hp ht fun b => ?_)
  obtain ⟨cd, hc, hd'⟩ := PySem.W.any_some hh
  have hx : s.heap.get? x = some ⟨.ref C, some dx, .plain, #[]⟩ := I.obj
  refine wpAny_bind (wpAny_pure (wpAny_bind (wpAny_bind (wpAny_loadPart hx (wpAny_bind (PySem.W.Looks.here (s := { s with toks := s.toks + 1 }) (PySem.W.looks_clsIn X hc) ?_))))))
  rw [hd']
  refine wpAny_pure (a := some dx) (wpAny_bind (wpAny_pure (wpAny_bind ?_)))
  refine wpAny_nsSet1 (s := { s with toks := s.toks + 1 }) I.ns fun h' hn2 hs2 => ?_
  obtain ⟨oD, esD, epD, hoD, hdD, hcD⟩ := hn2.count (PySem.Within.cons name v hw)
  refine wpAny_bind (wpAny_lookBehind hoD (by rw [hdD]; exact pastItsLine_dict (Nat.le_trans hcD (by rw [List.length_cons]; omega))) ?_)
  exact wpAny_pure (h _ ⟨(hs2.2 _ (Ne.symm I.ne)).trans I.obj, hn2, I.ne⟩ hs2)

/-- C(..): the dict at the heap's end, the instance behind it; then its __init__ -/
theorem make_map {R : Result → Shared → Prop} {vs : List Value} {kw : List (Str × Value)} (X : K.In s.heap) (hm : PySem.W.makesIn K C = true)
    (hi : PySem.W.findIn K (.ref C) "__init__" = some (some (.ref f))) (hf : PySem.W.typeIn K (.ref f) = some (.type "function"))
    (h : codeAny (model prog w) (A.under (.builtin "type.__call__" ⟨.ref C :: vs, kw⟩)) (.call (.ref f) ⟨.ref (s.heap.objs.size + 1) :: vs, kw⟩) (PySem.W.InitBack (s.heap.objs.size + 1) R)
      { s with heap := (s.heap.push PySem.W.emptyDict).push (PySem.W.instObj C s.heap.objs.size) }) :
    codeAny (model prog w) A (.call (.ref C) ⟨vs, kw⟩) R s := by
  obtain ⟨hh, g, d, t, os⟩ := s
  exact PySem.W.make_core (PySem.W.makes_of X hm) (PySem.W.looks_findIn X hi) (fun self => PySem.W.bind_fn X self hf) (.inl rfl) h
end

/-! ### the attributes as a list of pairs -/
def putF (f : Str) (v : V) : List (Str × V) → List (Str × V)
  | [] => [(f, v)]
  | (g, x) :: r => if g = f then (g, v) :: r else (g, x) :: putF f v r
theorem lookup_putF (f g : Str) (v : V) : ∀ fs : List (Str × V), (putF f v fs).lookup g = if g = f then some v else fs.lookup g
  | [] => by
    show List.lookup g [(f, v)] = _
    by_cases h : g = f
    · have hb : (g == f) = true := beq_iff_eq.mpr h
      simp only [List.lookup, hb, if_pos h]
    · have hb : (g == f) = false := beq_eq_false_iff_ne.mpr h
      simp only [List.lookup, hb, if_neg h]
  | (k, x) :: r => by
    have ih := lookup_putF f g v r
    rw [show putF f v ((k, x) :: r) = (if k = f then (k, v) :: r else (k, x) :: putF f v r) from rfl]
    by_cases hk : k = f
    · rw [if_pos hk]
      by_cases h : g = k
      · have hb : (g == k) = true := beq_iff_eq.mpr h
        simp only [List.lookup, hb, if_pos (h.trans hk)]
      · have hb : (g == k) = false := beq_eq_false_iff_ne.mpr h
        simp only [List.lookup, hb, if_neg (fun e : g = f => h (e.trans hk.symm))]
    · rw [if_neg hk]
      by_cases h : g = k
      · have hb : (g == k) = true := beq_iff_eq.mpr h
        simp only [List.lookup, hb, if_neg (fun e : g = f => hk (h.symm.trans e))]
      · have hb : (g == k) = false := beq_eq_false_iff_ne.mpr h
        simp only [List.lookup, hb]
        exact ih
theorem keys_putF (f : Str) (v : V) : ∀ fs : List (Str × V), f ∈ (putF f v fs).map (·.1) ∧ ∀ g, g ∈ fs.map (·.1) → g ∈ (putF f v fs).map (·.1)
  | [] => ⟨by simp [putF], fun g h => by simp at h⟩
  | (k, x) :: r => by
    obtain ⟨i1, i2⟩ := keys_putF f v r
    rw [show putF f v ((k, x) :: r) = (if k = f then (k, v) :: r else (k, x) :: putF f v r) from rfl]
    by_cases hk : k = f
    · rw [if_pos hk]
      subst hk
      exact ⟨by simp, fun g h => by simpa using h⟩
    · rw [if_neg hk]
      refine ⟨?_, fun g h => ?_⟩
      · rw [List.map_cons]
        exact List.mem_cons_of_mem _ i1
      · rw [List.map_cons] at h ⊢
        rcases List.mem_cons.mp h with e | e
        · exact List.mem_cons.mpr (.inl e)
        · exact List.mem_cons_of_mem _ (i2 g e)
theorem length_putF (f : Str) (v : V) : ∀ fs : List (Str × V), (putF f v fs).length ≤ fs.length + 1
  | [] => by simp [putF]
  | (k, x) :: r => by
    have ih := length_putF f v r
    rw [show putF f v ((k, x) :: r) = (if k = f then (k, v) :: r else (k, x) :: putF f v r) from rfl]
    by_cases hk : k = f
    · rw [if_pos hk, List.length_cons, List.length_cons]; omega
    · rw [if_neg hk, List.length_cons, List.length_cons]; omega

theorem RelO.some_of {v : V} {o : Option Value} (r : RelO (some v) o) : ∃ u, o = some u ∧ RelV v u := by
  cases o with
  | none => exact (show False from r).elim
  | some u => exact ⟨u, rfl, r⟩
theorem RelO.none_of {o : Option Value} (r : RelO none o) : o = none := by
  cases o with
  | none => rfl
  | some u => exact (show False from r).elim
theorem handed_of {v : V} {u : Value} (r : RelV v u) : PySem.W.handedIn u = true := by
  cases v with
  | non => cases (show u = Value.none from r); rfl
  | bl b => cases (show u = Value.bool b from r); rfl
  | int i => obtain ⟨t, e⟩ := (show ∃ t, u = Value.int i t from r); cases e; rfl
  | str x => obtain ⟨t, e⟩ := (show ∃ t, u = Value.str x t from r); cases e; rfl
  | byt b => obtain ⟨t, e⟩ := (show ∃ t, u = Value.bytes b t from r); cases e; rfl
  | flt b => obtain ⟨t, e⟩ := (show ∃ t, u = Value.float b t from r); cases e; rfl
  | ref a => cases (show u = Value.ref a from r); rfl
  | ty n => cases (show u = Value.type n from r); rfl

section
variable {P : Program} {w : World} {H H' : Hp} {h h' : Heap} {a C dx : Addr} {fs fs' : List (Str × V)}
theorem ins_get (hok : HOk P w H h) (e : H a = some (.ins C dx fs)) : ∃ mA, ObjM h a dx C mA ∧ (∀ f, RelO (fs.lookup f) (mA f)) ∧ PySem.Within mA (fs.map (·.1)) ∧ fs.length ≤ 1000 ∧ H dx = some (.own a) := by
  obtain ⟨d, z, ne, ob, mA, n, r, q⟩ := (show ObjOk P w H h a (.ins C dx fs) from hok a _ e)
  exact ⟨mA, ⟨ob, n, ne⟩, r, q, z, d⟩
end

/-! ### what of the text a class must have -/
structure Cls (K : PySem.W.Frag) (C : Addr) : Prop where
  pg : PySem.W.plainGet K C Str.empty = true
  hd : PySem.W.hasDictIn K C = true
  po : PySem.W.plainOver K C = true
  sa : PySem.W.findIn K (.ref C) "__setattr__" = some (some (.builtin "object.__setattr__"))
theorem Cls.get {K : PySem.W.Frag} {C : Addr} (c : Cls K C) (f : Str) : PySem.W.plainGet K C f = true := c.pg
/-- no class of it has the name -/
def NoAttr (K : PySem.W.Frag) (C : Addr) (f : Str) : Prop := PySem.W.findIn K (.ref C) f = some none
theorem NoAttr.taker {K : PySem.W.Frag} {C : Addr} {f : Str} (n : NoAttr K C f) : PySem.W.takerIn K C f = some none := by
  unfold PySem.W.takerIn
  rw [show PySem.W.findIn K (.ref C) f = some none from n]
  rfl
/-- a method: a plain def of the class or of one above it -/
structure Meth (K : PySem.W.Frag) (C : Addr) (m : Str) (f : Addr) : Prop where
  at_ : PySem.W.findIn K (.ref C) m = some (some (.ref f))
  fn : PySem.W.isFn K (.ref f) = true
  kp : PySem.W.keepIn K (.ref f) = true

section
variable {X : Cx} {pins : List (Addr × Obj)} {σ : St} {H : Hp} {s : Shared} {a C dx : Addr} {fs : List (Str × V)} {f : Str} {v : V} {A : Around} {E : Value → Shared → Prop}

theorem getattr_ok {b : Bool} {Q : Value → Shared → Prop} (I : Inv X pins σ H s) (e : H a = some (.ins C dx fs)) (c : Cls X.K C) (n : NoAttr X.K C f) (l : fs.lookup f = some v)
    (h : ∀ u s', Inv X pins σ H s' → RelV v u → Q u s') : wpAny (model X.prog X.w) A (getAttr (.ref a) f b) Q E s := by
  obtain ⟨mA, O, r, _, _, _⟩ := ins_get I.hok e
  obtain ⟨u, hu, ru⟩ := RelO.some_of (v := v) (o := mA f) (by rw [← l]; exact r f)
  exact get_map I.kIn O (c.get f) c.hd n hu (handed_of ru) (h u _ (I.tok _) ru)


theorem getmeth_ok {m : Str} {g : Addr} {pl : Sem Bool} {Q : Value × List Value → Shared → Prop} (I : Inv X pins σ H s) (e : H a = some (.ins C dx fs)) (c : Cls X.K C) (k : Meth X.K C m g) (l : fs.lookup m = none)
    (h : Q (.ref g, [.ref a]) s) : wpAny (model X.prog X.w) A (getMethod (.ref a) m pl) Q E s := by
  obtain ⟨mA, O, r, _, _, _⟩ := ins_get I.hok e
  have hn : mA m = none := RelO.none_of (by rw [← l]; exact r m)
  exact get_meth I.kIn O (c.get m) k.at_ k.fn hn h

theorem setattr_ok {y : V} {u : Value} {Q : Unit → Shared → Prop} (I : Inv X pins σ H s) (e : H a = some (.ins C dx fs)) (c : Cls X.K C) (n : NoAttr X.K C f) (hl : fs.length < 1000) (ry : RelV y u)
    (h : ∀ s', Inv X pins σ (upd H a (.ins C dx (putF f y fs))) s' → Q () s') : wpAny (model X.prog X.w) A (setAttr (.ref a) f u) Q E s := by
  obtain ⟨mA, O, r, wi, _, ho⟩ := ins_get I.hok e
  have hz : (fs.map (·.1)).length ≤ sizeLine := by rw [List.length_map, sizeLine_eq]; omega
  refine set_map I.kIn O c.sa c.po n.taker c.hd wi hz fun h' O' sb => h _ ?_
  have hd : ∃ o, h'.get? dx = some o := let ⟨o, _, _, e', _⟩ := O'.ns; ⟨o, e'⟩
  refine I.write (x := a) (e := dx) (by rw [e]; exact True.intro) (.inr ho) (fun b q hb z => (sb.2 b hb).trans z) hd ?_
  refine ⟨by rw [upd_ne O.ne]; exact ho, ?_, O.ne, O'.obj, _, O'.ns, fun g => ?_, fun g hg => ?_⟩
  · have := length_putF f y fs; omega
  · show RelO ((putF f y fs).lookup g) (if g = f then some u else mA g)
    rw [lookup_putF]
    by_cases q : g = f
    · rw [if_pos q, if_pos q]; exact ry
    · rw [if_neg q, if_neg q]; exact r g
  · by_cases q : g = f
    · rw [q]; exact (keys_putF f y fs).1
    · refine (keys_putF f y fs).2 g (wi g fun z => hg ?_)
      show (if g = f then some u else mA g) = none
      rw [if_neg q]; exact z

/-- a new instance, tracked, without attributes -/
theorem Inv.made (I : Inv X pins σ H s) : Inv X pins σ (upd (upd H s.heap.objs.size (.own (s.heap.objs.size + 1))) (s.heap.objs.size + 1) (.ins C s.heap.objs.size []))
    { s with heap := (s.heap.push PySem.W.emptyDict).push (PySem.W.instObj C s.heap.objs.size) } := by
  have e1 : (s.heap.push PySem.W.emptyDict).get? s.heap.objs.size = some PySem.W.emptyDict := Heap.get?_push_size s.heap rfl
  have e2 : ((s.heap.push PySem.W.emptyDict).push (PySem.W.instObj C s.heap.objs.size)).get? (s.heap.objs.size + 1) = some (PySem.W.instObj C s.heap.objs.size) := by
    have := Heap.get?_push_size (s.heap.push PySem.W.emptyDict) (o := PySem.W.instObj C s.heap.objs.size) rfl
    rwa [Heap.size_push] at this
  have e3 : (s.heap.push PySem.W.emptyDict).Ns s.heap.objs.size (fun _ => none) := ⟨PySem.W.emptyDict, #[], _, e1, rfl, (fun e he => absurd he (by simp)), fun _ => rfl⟩
  have I1 := I.laid (a := s.heap.objs.size) (o := .own (s.heap.objs.size + 1)) (h' := s.heap.push PySem.W.emptyDict) (t' := s.toks) (fun b u q => Heap.get?_push_of_some _ q) (Nat.le_refl _) ⟨_, e1⟩
  refine I1.laid (a := s.heap.objs.size + 1) (o := .ins C s.heap.objs.size []) (t' := s.toks) (fun b u q => Heap.get?_push_of_some _ q) (Nat.le_of_eq (Heap.size_push _ _)) ?_
  have ne : s.heap.objs.size ≠ s.heap.objs.size + 1 := Nat.ne_of_lt (Nat.lt_succ_self _)
  refine ⟨by rw [upd_ne ne, upd_same], Nat.zero_le _, ne, e2, fun _ => none, (Heap.Ns1.of_empty e3).at fun o q => Heap.get?_push_of_some _ q, fun _ => True.intro, fun y hy => absurd rfl hy⟩

/-- e.f where nothing but the object is asked: through attributeBase (super) and the last hold -/
theorem attr_of {prog : Program} {w : World} {env : Env} {e : Expr} {f : Str} {pos : Pos} {s : Shared} {Q : Value → Shared → Prop} (hb : attributeBase e f env (eval e env) = eval e env)
    (h : wpAny (model prog w) A (eval e env) (fun o s₁ => wpAny (model prog w) A (getAttr o f true) Q E s₁) E s) : wpAny (model prog w) A (eval (.Attribute e f pos) env) Q E s :=
  Attribute_any_ h (by rw [arm_eval_Attribute, hb])
end

/-! ### readings and rules -/
/-- e.f, an attribute of the instance -/
def tFld (K : PySem.W.Frag) (ta : TE) (f : Str) : TE := fun σ H Q => ta σ H fun x H1 => ∃ a C dx fs v, x = .ref a ∧ H1 a = some (.ins C dx fs) ∧ Cls K C ∧ NoAttr K C f ∧ fs.lookup f = some v ∧ Q v H1
/-- e.f = value -/
def sFld (K : PySem.W.Frag) (ta tv : TE) (f : Str) : TS := fun D σ H => tv σ H fun y H1 => ta σ H1 fun x H2 => ∃ a C dx fs, x = .ref a ∧ H2 a = some (.ins C dx fs) ∧ Cls K C ∧ NoAttr K C f ∧ fs.length < 1000 ∧
  D.nx σ (upd H2 a (.ins C dx (putF f y fs)))

section
variable {X : Cx} {o e value : Expr} {f : Str} {pos pos' tpos : Pos} {ta tv : TE}
theorem pe_fld (he : PE X e ta) (hb : attributeBase e f X.env (eval e X.env) = eval e X.env) : PE X (.Attribute e f pos) (tFld X.K ta f) := by
  intro pins s σ H Q I h
  refine attr_of hb (thn (he pins s σ H _ I h) fun u s1 ⟨x, H1, I1, rx, a, C, dx, fs, v, ex, ea, c, n, l, q⟩ => ?_)
  subst ex
  obtain rfl : u = Value.ref a := rx
  exact getattr_ok I1 ea c n l fun u' s2 I2 ru => ⟨v, H1, I2, ru, q⟩
theorem ps_fld (ha : PE X o ta) (hv : PE X value tv) (hs : swapsWith value (some (.Attribute o f pos')) pos.line X.env = pure false) : PS X (.Assign [.Attribute o f pos'] value pos) (sFld X.K ta tv f) := by
  intro pins s σ H D I h
  refine plainObj_wpAny_Assign_Attribute (thn (hv pins s σ H _ I h) fun u s1 ⟨y, H1, I1, ry, q⟩ => thn (ha pins s1 σ H1 _ I1 q) fun ov s2 ⟨x, H2, I2, rx, a, C, dx, fs, ex, ea, c, n, l, q2⟩ => ?_) hs
  subst ex
  obtain rfl : ov = Value.ref a := rx
  exact setattr_ok I2 ea c n l ry fun s3 I3 => ⟨σ, _, I3, q2⟩

end

/-! ### isinstance -/
section
variable {X : Cx} {pins : List (Addr × Obj)} {σ : St} {H : Hp} {s : Shared} {A : Around} {E : Value → Shared → Prop} {Q : Value → Shared → Prop} {c : Value} {b : Bool}
/-- the type of a value, as the fragment's deciders take it; for an instance its class -/
inductive TyOf (K : PySem.W.Frag) (H : Hp) : V → Value → Prop where
  | non : TyOf K H .non (.type "NoneType")
  | bl (x : Bool) : TyOf K H (.bl x) (.type "bool")
  | int (i : Int) : TyOf K H (.int i) (.type "int")
  | str (x : Str) : TyOf K H (.str x) (.type "str")
  | flt (x : UInt64) : TyOf K H (.flt x) (.type "float")
  | lst {a : Addr} {xs : List V} (e : H a = some (.lst xs)) : TyOf K H (.ref a) (.type "list")
  | frz {a : Addr} {o : Obj} {xs : List V} (e : H a = some (.frz o (.lst xs))) : TyOf K H (.ref a) (.type "list")
  | tup {a : Addr} {xs : List V} (e : H a = some (.tup xs)) : TyOf K H (.ref a) (.type "tuple")
  | dK {a : Addr} {kvs : List (Key × V)} (e : H a = some (.dK kvs)) : TyOf K H (.ref a) (.type "dict")
  | dT {a : Addr} {kvs : List (List Key × V)} (e : H a = some (.dT kvs)) : TyOf K H (.ref a) (.type "dict")
  | ins {a C dx : Addr} {fs : List (Str × V)} (e : H a = some (.ins C dx fs)) (cl : Cls K C) (ha : PySem.W.findIn K (.ref C) "__class__" = some (some (.builtin "object.__class__")))
      (hn : PySem.W.specialIn K (.builtin "object.__class__") "__get__" = some (some (.builtin "getset_descriptor.__get__"))) (htk : PySem.W.takesIn K (.builtin "object.__class__") = some true)
      (hm : PySem.W.mroIn K C (.type "object") = some true) : TyOf K H (.ref a) (.ref C)
/-- isinstance(x, c) for one class c, a built-in or an own one: kitOne's answer -/
theorem isinst_ok {x : V} {u t : Value} (I : Inv X pins σ H s) (rx : RelV x u) (ty : TyOf X.K H x t) (e : PySem.W.kitOne X.K t c = some b) (h : ∀ tk, Q (.bool b) { s with toks := tk }) :
    wpAny (model X.prog X.w) A (call (.builtin "isinstance") [u, c]) Q E s := by
  cases ty with
  | non => cases (show u = Value.none from rx); exact PySem.W.kia_one PySem.W.kitx_none I.kIn True.intro e (fun z => nomatch z) h
  | bl y => cases (show u = Value.bool y from rx); exact PySem.W.kia_one PySem.W.kitx_bool I.kIn True.intro e (fun z => nomatch z) h
  | int i => obtain ⟨t, q⟩ := (show ∃ t, u = Value.int i t from rx); cases q; exact PySem.W.kia_one PySem.W.kitx_int I.kIn True.intro e (fun z => nomatch z) h
  | str y => obtain ⟨t, q⟩ := (show ∃ t, u = Value.str y t from rx); cases q; exact PySem.W.kia_one PySem.W.kitx_str I.kIn True.intro e (fun z => nomatch z) h
  | flt y => obtain ⟨t, q⟩ := (show ∃ t, u = Value.float y t from rx); cases q; exact PySem.W.kia_one PySem.W.kitx_float I.kIn True.intro e (fun z => nomatch z) h
  | @lst a xs ea =>
    cases (show u = Value.ref a from rx)
    obtain ⟨_, _, n, _, h1⟩ := (show ObjOk X.prog X.w H s.heap a (.lst xs) from I.hok a _ ea)
    exact PySem.W.kia_one PySem.W.kitx_list I.kIn ⟨_, h1, rfl⟩ e (fun z => nomatch z) h
  | @frz a ob xs ea =>
    cases (show u = Value.ref a from rx)
    obtain ⟨_, _, _, n, _, h1⟩ := (show ObjOk X.prog X.w H s.heap a (.frz ob (.lst xs)) from I.hok a _ ea)
    exact PySem.W.kia_one PySem.W.kitx_list I.kIn ⟨_, h1, rfl⟩ e (fun z => nomatch z) h
  | @tup a xs ea =>
    cases (show u = Value.ref a from rx)
    obtain ⟨_, _, _, p⟩ := (show ObjOk X.prog X.w H s.heap a (.tup xs) from I.hok a _ ea)
    obtain ⟨o, h1, h2, _⟩ := p
    exact PySem.W.kia_one PySem.W.kitx_tuple I.kIn ⟨o, h1, h2⟩ e (fun z => nomatch z) h
  | @dK a kvs ea =>
    cases (show u = Value.ref a from rx)
    obtain ⟨_, _, vs, _, p⟩ := (show ObjOk X.prog X.w H s.heap a (.dK kvs) from I.hok a _ ea)
    obtain ⟨o, es, ep, h1, h2, _⟩ := p
    exact PySem.W.kia_one PySem.W.kitx_dict I.kIn ⟨o, h1, h2.1⟩ e (fun z => nomatch z) h
  | @dT a kvs ea =>
    cases (show u = Value.ref a from rx)
    obtain ⟨_, _, xs, _, o, es, ep, h1, h2, _⟩ := (show ObjOk X.prog X.w H s.heap a (.dT kvs) from I.hok a _ ea)
    exact PySem.W.kia_one PySem.W.kitx_dict I.kIn ⟨o, h1, h2.1⟩ e (fun z => nomatch z) h
  | @ins a C dx fs ea cl ha hn htk hm =>
    cases (show u = Value.ref a from rx)
    obtain ⟨mA, O, _⟩ := ins_get I.hok ea
    obtain ⟨od, J, _⟩ := O.look
    exact PySem.W.kia_one (PySem.W.kitx_own (cl.get _) cl.hd ha hn htk hm) I.kIn J e (fun z => nomatch z) h
end
end L2

namespace L2
open PySem PySem.Spec PyProof.Rows

/-! ### room -/
structure Room (k : Nat) (A : Around) : Prop where
  hd : A.handled = none
  dp : A.depth + 3 * k + 5 < recursionLimit
  un : A.units + 16 * k + 200 < cLine
theorem Room.mono {j k : Nat} {A : Around} (r : Room k A) (h : j ≤ k) : Room j A := ⟨r.hd, by have := r.dp; omega, by have := r.un; omega⟩
theorem Room.deeper {k : Nat} {A : Around} (r : Room (k + 1) A) (env : Env) : Room k (A.deeper env) :=
  ⟨r.hd, by have := r.dp; show A.depth + 1 + 3 * k + 5 < _; omega, by have := r.un; show A.units + 3 + 16 * k + 200 < _; omega⟩
theorem make_depth {A : Around} {C : Addr} {us : List Value} {kw : List (Str × Value)} : (A.under (.builtin "type.__call__" ⟨.ref C :: us, kw⟩)).depth = A.depth + 1 := by
  first | rfl | simp [Around.under, Code.weight, Code.isCreation, Code.isGuard, Code.isCaller, Code.frames, Code.isFrame, guardIds]
theorem make_units {A : Around} {C : Addr} {us : List Value} {kw : List (Str × Value)} : (A.under (.builtin "type.__call__" ⟨.ref C :: us, kw⟩)).units = A.units + 1 := by
  first | rfl | simp [Around.under, Code.cUnits, Code.frames, Code.isFrame]
theorem Room.make {k : Nat} {A : Around} (r : Room (k + 1) A) (C : Addr) (us : List Value) (kw : List (Str × Value)) : Room k (A.under (.builtin "type.__call__" ⟨.ref C :: us, kw⟩)) :=
  ⟨r.hd, by have := r.dp; rw [make_depth]; omega, by have := r.un; rw [make_units]; omega⟩
theorem Room.depth {k : Nat} {A : Around} (r : Room k A) : A.depth < recursionLimit := by have := r.dp; omega
theorem Room.units {k : Nat} {A : Around} (r : Room k A) : A.units + 64 < cLine := by have := r.un; omega

/-! ### argument lists and displays -/
def tNil : TA := fun _ H Q => Q [] H
def tCons (ta : TE) (tr : TA) : TA := fun σ H Q => ta σ H fun x H1 => tr σ H1 fun xs H2 => Q (x :: xs) H2
section
variable {X : Cx} {e : Expr} {es : List Expr} {te : TE} {t : TA} {pos : Pos}
theorem pa_nil : PA X [] tNil := fun _ _ _ _ H Q I h => Calls.spliced_nil ⟨[], H, I, .nil, h⟩
theorem pa_cons (ha : PE X e te) (hr : PA X es t) (hs : starEach (e :: es) X.env = (false, eval e X.env) :: starEach es X.env := by rfl) : PA X (e :: es) (tCons te t) := by
  intro pos pins s σ H Q I h
  rw [hs]
  show wpAny _ _ (spliced ((false, eval e X.env) :: backTo pos (starEach es X.env))) _ _ s
  refine Calls.spliced_cons (thn (ha pins s σ H _ I h) fun u s1 ⟨x, H1, I1, r1, q1⟩ => ?_)
  exact thn (hr pos pins s1 σ H1 _ I1 q1) fun us s2 ⟨xs, H2, I2, r2, q2⟩ => ⟨x :: xs, H2, I2, .cons r1 r2, q2⟩

/-- a tuple, a list of written items -/
def tTup (t : TA) : TE := fun σ H Q => t σ H fun xs H1 => xs.length ≤ sizeLine ∧ ∀ p, H1 p = none → Q (.ref p) (upd H1 p (.tup xs))
def tLst (t : TA) : TE := fun σ H Q => t σ H fun xs H1 => xs.length ≤ sizeLine ∧ ∀ p, H1 p = none → Q (.ref p) (upd H1 p (.lst xs))
theorem pe_tup {x1} (h : PA X es t) : PE X (.Tuple es x1 pos) (tTup t) := by
  intro pins s σ H Q I hq
  refine wpAny_Tuple_spliced (thn (h pos pins s σ H _ I hq) fun us s1 ⟨xs, H1, I1, r, z, q⟩ => ⟨by rw [← r.length]; exact z, ?_⟩)
  have hf : H1 s1.heap.objs.size = none := I1.hok.fresh (Nat.le_refl _)
  refine ⟨.ref s1.heap.objs.size, upd H1 s1.heap.objs.size (.tup xs), I1.laid (t' := s1.toks) (fun b u e => Heap.get?_push_of_some _ e) (Nat.le_refl _) ?_, rfl, q _ hf⟩
  exact ⟨z, us, r, ⟨_, Heap.get?_push_size _ rfl, rfl, _, rfl⟩⟩
theorem pe_lst (h : PA X es t) : PE X (.List es pos) (tLst t) := by
  intro pins s σ H Q I hq
  refine wpAny_List_spliced (thn (h pos pins s σ H _ I hq) fun us s1 ⟨xs, H1, I1, r, z, q⟩ => ⟨by rw [← r.length]; exact z, ?_⟩)
  have hf : H1 s1.heap.objs.size = none := I1.hok.fresh (Nat.le_refl _)
  refine ⟨.ref s1.heap.objs.size, upd H1 s1.heap.objs.size (.lst xs), I1.laid (t' := s1.toks) (fun b u e => Heap.get?_push_of_some _ e) (Nat.le_refl _) ?_, rfl, q _ hf⟩
  exact ⟨z, us, 0, r, Heap.get?_push_size _ rfl⟩
end

/-! ### what a def promises -/
/-- a def's promise: the bound arguments in the parameters' order, the heap, the wanted end, the wanted exception -/
abbrev Sp := List V → Hp → VK → XK → Prop
/-- how an exception lies behind a call (file 08 gives it): the callers' frames, abstract heap and state ahead of the call, the wish, the exception, the state -/
abbrev CXT := List Env → Hp → Shared → XK → Value → Shared → Prop

/-- the state at a call -/
structure Env0 (P : Program) (w : World) (K : PySem.W.Frag) (mg : Str → Option Value) (base : Heap) (A : Around) (outer : List Env) (s : Shared) (H : Hp) : Prop where
  frames : A.frames = some outer
  mod : Mod K mg base
  bs : ∀ b o, base.get? b = some o → s.heap.get? b = some o ∧ H b = none
  bsz : base.objs.size ≤ s.heap.objs.size
  funs : s.heap.FunFrames base outer
  frf : ∀ b ∈ frs outer, H b = none
  hok : HOk P w H s.heap
  bare : AllBare s.gens
/-- a call's end -/
def CE (outer : List Env) (P : Program) (w : World) (H : Hp) (s : Shared) (Q : VK) (u : Value) (s' : Shared) : Prop :=
  ∃ v H', s'.os = s.os ∧ AllBare s'.gens ∧ Un (frs outer) [] H H' s.heap s'.heap ∧ HOk P w H' s'.heap ∧ RelV v u ∧ Q v H'
def CR (CX : CXT) (outer : List Env) (P : Program) (w : World) (H : Hp) (s : Shared) (Q : VK) (E : XK) (r : Result) (s' : Shared) : Prop :=
  match r with
  | .ok (.ret u) => CE outer P w H s Q u s'
  | .ok _ => False
  | .error e => CX outer H s E e s'
structure FnOk (P : Program) (w : World) (K : PySem.W.Frag) (mg : Str → Option Value) (base : Heap) (CX : CXT) (k : Nat) (f : Addr) (fd : FuncData) (ps : List Str) (sp : Sp) : Prop where
  len : ∀ vs H Q E, sp vs H Q E → vs.length = ps.length
  run : ∀ (A : Around) (outer : List Env) (s : Shared) (H : Hp) (args : Args) (us : List Value) (vs : List V) (Q : VK) (E : XK), Room k A → Env0 P w K mg base A outer s H → BindsTo s fd args (ps.zip us) → Vals vs us → sp vs H Q E →
    codeAny (model P w) A (.call (.ref f) args) (CR CX outer P w H s Q E) s
theorem FnOk.mono {P : Program} {w : World} {K : PySem.W.Frag} {mg : Str → Option Value} {base : Heap} {CX : CXT} {j k : Nat} {f : Addr} {fd : FuncData} {ps : List Str} {sp : Sp} (F : FnOk P w K mg base CX j f fd ps sp) (h : j ≤ k) :
    FnOk P w K mg base CX k f fd ps sp := ⟨F.len, fun A outer s H args us vs Q E hr => F.run A outer s H args us vs Q E (hr.mono h)⟩
/-- a weaker promise -/
theorem FnOk.imp {P : Program} {w : World} {K : PySem.W.Frag} {mg : Str → Option Value} {base : Heap} {CX : CXT} {k : Nat} {f : Addr} {fd : FuncData} {ps : List Str} {sp sp' : Sp} (F : FnOk P w K mg base CX k f fd ps sp)
    (h : ∀ vs H Q E, sp' vs H Q E → sp vs H Q E) : FnOk P w K mg base CX k f fd ps sp' :=
  ⟨fun vs H Q E q => F.len vs H Q E (h _ _ _ _ q), fun A outer s H args us vs Q E hr he hb hv hs => F.run A outer s H args us vs Q E hr he hb hv (h _ _ _ _ hs)⟩

theorem Env0.make {P : Program} {w : World} {K : PySem.W.Frag} {mg : Str → Option Value} {base : Heap} {A : Around} {outer : List Env} {s : Shared} {H : Hp} (e : Env0 P w K mg base A outer s H) (C : Addr) (us : List Value) (kw : List (Str × Value)) :
    Env0 P w K mg base (A.under (.builtin "type.__call__" ⟨.ref C :: us, kw⟩)) outer s H := ⟨by first | exact e.frames | (simpa [Around.under, Code.envs, Code.isFrame, pushEnvs] using e.frames), e.mod, e.bs, e.bsz, e.funs, e.frf, e.hok, e.bare⟩

section
variable {X : Cx} {pins : List (Addr × Obj)} {σ : St} {H : Hp} {s s' : Shared}
/-- from a body: what a callee wants -/
theorem Inv.env0 (I : Inv X pins σ H s) : Env0 X.prog X.w X.K X.mg X.base X.A X.stack s H :=
  ⟨I.ok.frames, I.ok.mod, I.bs, Nat.le_trans I.ok.bsz I.sz, I.stack, I.stkFree, I.hok, I.bare⟩
/-- behind a call -/
theorem Inv.after {Q : VK} {u : Value} (I : Inv X pins σ H s) (h : CE X.stack X.prog X.w H s Q u s') : EP X pins σ Q u s' := by
  obtain ⟨v, H', os, bare, un, hok, r, q⟩ := h
  obtain ⟨hh, g, d, t, os'⟩ := s'
  obtain rfl : os' = s.os := os
  exact ⟨v, H', I.call (h' := hh) (g' := g) (d' := d) (t' := t) (ch := []) un hok bare (fun b z => absurd z (by simp)), r, q⟩
end

/-! ### calls -/
/-- f(..): the written arguments, then the defaults dvs; E: what is wanted of an exception -/
def tCall (sp : Sp) (dvs : List V) (E : XK) (t : TA) : TE := fun σ H Q => t σ H fun vs H1 => sp (vs ++ dvs) H1 Q E
/-- o.m(..) of an instance of the class at C -/
def tMeth (C : Addr) (m : Str) (sp : Sp) (dvs : List V) (E : XK) (ta : TE) (t : TA) : TE := fun σ H Q => ta σ H fun x H1 => ∃ a dx fs, x = .ref a ∧ H1 a = some (.ins C dx fs) ∧ fs.lookup m = none ∧
  t σ H1 fun vs H2 => sp (x :: (vs ++ dvs)) H2 Q E
/-- C(..): a new instance and its dict, then __init__ -/
def tMake (C : Addr) (sp : Sp) (dvs : List V) (E : XK) (t : TA) : TE := fun σ H Q => t σ H fun vs H1 => ∀ x dx, H1 x = none → H1 dx = none → dx ≠ x →
  sp (.ref x :: (vs ++ dvs)) (upd (upd H1 dx (.own x)) x (.ins C dx [])) (fun v H2 => v = .non ∧ Q (.ref x) H2) E

/-- how the parameters are bound: us the positional arguments, kw the keywords' values by name, ds the defaults that fill up -/
def Binds (K : PySem.W.Frag) (fd : FuncData) (ps : List Str) (ds : List Value) : Prop :=
  ∀ (s : Shared) (us : List Value), K.In s.heap → (us ++ ds).length = ps.length → BindsTo s fd ⟨us, []⟩ (ps.zip (us ++ ds))
/-- every parameter is given -/
theorem Binds.all {K : PySem.W.Frag} {fd : FuncData} {ps : List Str} (h : ∀ us : List Value, us.length = ps.length → bindArgs fd ⟨us, []⟩ = pure (ps.zip us)) : Binds K fd ps [] := fun s us _ hl => by
  rw [List.append_nil] at hl ⊢
  exact .of_eq (h us hl)

/-- an exception of a callee reaches what this body wants of exceptions -/
def Passes (CX : CXT) (X : Cx) (E : XK) : Prop := ∀ (pins : List (Addr × Obj)) (σ : St) (H : Hp) (s : Shared) (e : Value) (s' : Shared), Inv X pins σ H s → CX X.stack H s E e s' → X.xe e s'

section
variable {X : Cx} {CX : CXT} {k : Nat} {f C : Addr} {fd : FuncData} {ps : List Str} {sp : Sp} {dvs : List V} {ds : List Value} {E : XK} {x m : Str} {p pos apos : Pos} {e o : Expr} {es : List Expr} {ta : TE} {t : TA}

/-- the callee runs -/
theorem run_fn {pins : List (Addr × Obj)} {σ : St} {H : Hp} {s : Shared} {Q : VK} {us : List Value} {vs : List V} (F : FnOk X.prog X.w X.K X.mg X.base CX k f fd ps sp) (hr : Room k X.A) (hb : Binds X.K fd ps ds) (hd : Vals dvs ds) (hx : Passes CX X E)
    (I : Inv X pins σ H s) (r : Vals vs us) (h : sp (vs ++ dvs) H Q E) : wpAny (model X.prog X.w) X.A (call (.ref f) us) (EP X pins σ Q) X.xe s := by
  have r2 : Vals (vs ++ dvs) (us ++ ds) := r.append hd
  have hl : (us ++ ds).length = ps.length := by rw [← r2.length]; exact F.len _ _ _ _ h
  refine wpAny_call (codeAny_mono (F.run X.A X.stack s H ⟨us, []⟩ (us ++ ds) (vs ++ dvs) Q E hr I.env0 (hb s us I.kIn hl) r2 h) fun r s' hq => ?_)
  cases r with
  | error e => exact hx pins σ H s e s' I hq
  | ok fl =>
    cases fl with
    | ret u => exact I.after hq
    | next => exact False.elim hq
    | brk => exact False.elim hq
    | cont => exact False.elim hq

theorem pe_call (F : FnOk X.prog X.w X.K X.mg X.base CX k f fd ps sp) (hr : Room k X.A) (hg : Gl X x) (hm : X.mg x = some (.ref f)) (hk : PySem.W.keepIn X.K (.ref f) = true) (hb : Binds X.K fd ps ds) (hd : Vals dvs ds) (hx : Passes CX X E)
    (ha : PA X (e :: es) t) (hdb : (x == ("__debug__" : Str)) = false := by decide) (he : starEach (e :: es) X.env = (false, eval e X.env) :: starEach es X.env := by rfl) (hpl : (backTo pos (starEach es X.env)).any (·.1) = false := by rfl) :
    PE X (.Call (.Name x p) (e :: es) [] pos) (tCall sp dvs E t) := by
  intro pins s σ H Q I h
  refine wpAny_Call_Name_kw (ld_glob I hg hm ?_ hdb)
  refine PySem.W.callWith_K (h₀ := X.base) I.ok.mod.kin hk (thn (ha pos pins s σ H _ I h) fun us s1 ⟨vs, H1, I1, r, q⟩ => ⟨I1.kIn, ?_⟩) he hpl
  exact run_fn F hr hb hd hx I1 r q

/-- o.m(e, ..) -/
theorem pe_meth {pl : Sem Bool} (he : PE X o ta) (c : Cls X.K C) (hm : Meth X.K C m f) (F : FnOk X.prog X.w X.K X.mg X.base CX k f fd ps sp) (hr : Room k X.A) (hb : Binds X.K fd ps ds) (hd : Vals dvs ds) (hx : Passes CX X E) (ha : PA X (e :: es) t)
    (hst : starEach (e :: es) X.env = (false, eval e X.env) :: starEach es X.env := by rfl) (hpl : (backTo pos (starEach es X.env)).any (·.1) = false := by rfl)
    (ht : eval (.Call (.Attribute o m apos) (e :: es) [] pos) X.env = (do
      let ov ← eval o X.env
      standAt apos.atName
      let (f, first) ← holding [ov] (getMethod ov m pl)
      callWith pos f first (backTo pos (starEach (e :: es) X.env)) (backToKw pos (keywordEach [] X.env))) := by rfl) :
    PE X (.Call (.Attribute o m apos) (e :: es) [] pos) (tMeth C m sp dvs E ta t) := by
  intro pins s σ H Q I h
  refine PySem.W.methodCall_KW (pl := pl) (thn (he pins s σ H _ I h) fun u s1 ⟨x, H1, I1, rx, a, dx, fs, ex, ea, l, q⟩ => ?_) ht
  subst ex
  obtain rfl : u = Value.ref a := rx
  refine getmeth_ok I1 ea c hm l ?_
  refine PySem.W.callWith_K (first := [.ref a]) (h₀ := X.base) I.ok.mod.kin hm.kp (thn (ha pos pins s1 σ H1 _ I1 q) fun us s2 ⟨vs, H2, I2, r, q2⟩ => ⟨I2.kIn, ?_⟩) hst hpl
  exact run_fn (us := .ref a :: us) (vs := .ref a :: vs) F hr hb hd hx I2 (.cons rfl r) q2
/-- o.m() -/
theorem pe_meth0 {pl : Sem Bool} (he : PE X o ta) (c : Cls X.K C) (hm : Meth X.K C m f) (F : FnOk X.prog X.w X.K X.mg X.base CX k f fd ps sp) (hr : Room k X.A) (hb : Binds X.K fd ps ds) (hd : Vals dvs ds) (hx : Passes CX X E)
    (ht : eval (.Call (.Attribute o m apos) [] [] pos) X.env = (do
      let ov ← eval o X.env
      standAt apos.atName
      let (f, first) ← holding [ov] (getMethod ov m pl)
      callWith pos f first (backTo pos (starEach [] X.env)) (backToKw pos (keywordEach [] X.env))) := by rfl) :
    PE X (.Call (.Attribute o m apos) [] [] pos) (tMeth C m sp dvs E ta tNil) := by
  intro pins s σ H Q I h
  refine PySem.W.methodCall_KW (pl := pl) (thn (he pins s σ H _ I h) fun u s1 ⟨x, H1, I1, rx, a, dx, fs, ex, ea, l, q⟩ => ?_) ht
  subst ex
  obtain rfl : u = Value.ref a := rx
  refine getmeth_ok I1 ea c hm l ?_
  exact PySem.W.callWith_K0 (first := [.ref a]) I1.kIn hm.kp (run_fn (us := [.ref a]) (vs := [.ref a]) F hr hb hd hx I1 (.cons rfl .nil) q)

/-- what a class must have to be made -/
structure Mk (K : PySem.W.Frag) (C f : Addr) : Prop where
  makes : PySem.W.makesIn K C = true
  init : PySem.W.findIn K (.ref C) "__init__" = some (some (.ref f))
  fn : PySem.W.isFn K (.ref f) = true
  kp : PySem.W.keepIn K (.ref C) = true

theorem run_make {pins : List (Addr × Obj)} {σ : St} {H : Hp} {s : Shared} {Q : VK} {us : List Value} {vs : List V} (M : Mk X.K C f) (F : FnOk X.prog X.w X.K X.mg X.base CX k f fd ps sp) (hr : Room (k + 1) X.A) (hb : Binds X.K fd ps ds) (hd : Vals dvs ds)
    (hx : Passes CX X E) (I : Inv X pins σ H s) (r : Vals vs us)
    (h : ∀ x dx, H x = none → H dx = none → dx ≠ x → sp (.ref x :: (vs ++ dvs)) (upd (upd H dx (.own x)) x (.ins C dx [])) (fun v H2 => v = .non ∧ Q (.ref x) H2) E) :
    wpAny (model X.prog X.w) X.A (call (.ref C) us) (EP X pins σ Q) X.xe s := by
  have hq := h (s.heap.objs.size + 1) s.heap.objs.size (I.hok.fresh (Nat.le_succ _)) (I.hok.fresh (Nat.le_refl _)) (Nat.ne_of_lt (Nat.lt_succ_self _))
  have I2 := Inv.made (C := C) I
  have r2 : Vals (V.ref (s.heap.objs.size + 1) :: (vs ++ dvs)) (Value.ref (s.heap.objs.size + 1) :: (us ++ ds)) := .cons rfl (r.append hd)
  have hl : (Value.ref (s.heap.objs.size + 1) :: us ++ ds).length = ps.length := by
    have e := r2.length
    rw [F.len _ _ _ _ hq] at e
    exact e.symm
  refine wpAny_call (make_map (f := f) I.kIn M.makes M.init (beq_iff_eq.mp M.fn) (codeAny_mono (F.run _ X.stack _ _ ⟨Value.ref (s.heap.objs.size + 1) :: us, []⟩ (Value.ref (s.heap.objs.size + 1) :: (us ++ ds)) _ _ E (hr.make C us [])
    (I2.env0.make C us []) (hb _ (Value.ref (s.heap.objs.size + 1) :: us) I2.kIn hl) r2 hq) fun r s' hq' => ?_))
  cases r with
  | error e => exact hx pins σ _ _ e s' I2 hq'
  | ok fl =>
    cases fl with
    | ret u =>
      obtain ⟨v, H', I3, rv, ev, q3⟩ := I2.after hq'
      subst ev
      exact ⟨rv, ⟨V.ref (s.heap.objs.size + 1), H', I3, rfl, q3⟩⟩
    | next => exact False.elim hq'
    | brk => exact False.elim hq'
    | cont => exact False.elim hq'
theorem pe_make (M : Mk X.K C f) (F : FnOk X.prog X.w X.K X.mg X.base CX k f fd ps sp) (hr : Room (k + 1) X.A) (hg : Gl X x) (hm : X.mg x = some (.ref C)) (hb : Binds X.K fd ps ds) (hd : Vals dvs ds) (hx : Passes CX X E)
    (ha : PA X (e :: es) t) (hdb : (x == ("__debug__" : Str)) = false := by decide) (he : starEach (e :: es) X.env = (false, eval e X.env) :: starEach es X.env := by rfl) (hpl : (backTo pos (starEach es X.env)).any (·.1) = false := by rfl) :
    PE X (.Call (.Name x p) (e :: es) [] pos) (tMake C sp dvs E t) := by
  intro pins s σ H Q I h
  refine wpAny_Call_Name_kw (ld_glob I hg hm ?_ hdb)
  refine PySem.W.callWith_K (h₀ := X.base) I.ok.mod.kin M.kp (thn (ha pos pins s σ H _ I h) fun us s1 ⟨vs, H1, I1, r, q⟩ => ⟨I1.kIn, ?_⟩) he hpl
  exact run_make M F hr hb hd hx I1 r q
end

/-! ### keywords -/
/-- the values of the keywords, from the left -/
def PK (X : Cx) (kws : List Keyword) (t : TA) : Prop :=
  ∀ (pos : Pos) (pins : List (Addr × Obj)) (s : Shared) (σ : St) (H : Hp) (Q : List V → Hp → Prop), Inv X pins σ H s → t σ H Q → wpAny (model X.prog X.w) X.A (evalAll ((backToKw pos (keywordEach kws X.env)).map (·.2))) (AP X pins σ Q) X.xe s
section
variable {X : Cx} {CX : CXT} {k : Nat} {f C : Addr} {fd : FuncData} {ps ks : List Str} {sp : Sp} {E : XK} {x m : Str} {p pos apos kpos : Pos} {e o : Expr} {es : List Expr} {kws : List Keyword} {te ta : TE} {t tk : TA} {nm : Option Str}
theorem pk_nil : PK X [] tNil := fun _ _ _ _ H Q I h => wpAny_evalAll_nil ⟨[], H, I, .nil, h⟩
theorem pk_cons (ha : PE X e te) (hr : PK X kws t) : PK X (⟨nm, e, kpos⟩ :: kws) (tCons te t) := by
  intro pos pins s σ H Q I h
  show wpAny _ _ (evalAll ((do let v ← eval e X.env; standAt pos; pure v) :: (backToKw pos (keywordEach kws X.env)).map (·.2))) _ _ s
  refine wpAny_evalAll_cons (wpAny_bind (thn (ha pins s σ H _ I h) fun u s1 ⟨x, H1, I1, r1, q1⟩ => wpAny_bind (wpAny_standAt (wpAny_pure ?_))))
  exact thn (hr pos pins s1 σ H1 _ I1 q1) fun us s2 ⟨xs, H2, I2, r2, q2⟩ => ⟨x :: xs, H2, I2, .cons r1 r2, q2⟩

variable {g : List Value → List Value → List Value} {gV : List V → List V → List V}
end

/-! ### a def's body keeps its promise -/
/-- names: the parameters first -/
structure FnScope (N P : List Str) (sc : Scope) : Prop where
  kind : sc.kind = .function
  co : sc.isCoroutine = false
  gen : sc.isGenerator = false
  nd : N.Nodup
  pre : N.take P.length = P
  par : ∀ x ∈ P, sc.names.lookup x = some .local ∨ sc.names.lookup x = some .cell
  nofree : ∀ y ∈ sc.names, y.2 ≠ .free

theorem bindL_out {kindOf : Str → Option NameKind} {x : Str} : ∀ {binds : List (Str × Value)} {m : Str → Option Value}, (∀ v, (x, v) ∉ binds) → bindL kindOf binds m x = m x
  | [], _, _ => rfl
  | (n, v) :: r, m, h => by
    unfold bindL
    rw [bindL_out fun w hw => h w (List.mem_cons_of_mem _ hw)]
    split
    · have : x ≠ n := by rintro rfl; exact h v List.mem_cons_self
      simp [this]
    · rfl
theorem bindC_out {kindOf : Str → Option NameKind} {x : Str} : ∀ {binds : List (Str × Value)} {m : Str → Option Value}, (∀ v, (x, v) ∉ binds) → bindC kindOf binds m x = m x
  | [], _, _ => rfl
  | (n, v) :: r, m, h => by
    unfold bindC
    rw [bindC_out fun w hw => h w (List.mem_cons_of_mem _ hw)]
    split
    · rfl
    · have : x ≠ n := by rintro rfl; exact h v List.mem_cons_self
      simp [this]
theorem bindL_get {kindOf : Str → Option NameKind} {x : Str} {v : Value} : ∀ {P : List Str} {vs : List Value} {i : Nat} {m : Str → Option Value}, P.Nodup → P[i]? = some x → vs[i]? = some v → kindOf x = some .local →
    bindL kindOf (P.zip vs) m x = some v
  | [], _, _, _, _, h, _, _ => by simp at h
  | _ :: _, [], _, _, _, _, h, _ => by simp at h
  | p :: P, w :: vs, 0, m, nd, h1, h2, hk => by
    simp at h1 h2; subst h1; subst h2
    show bindL kindOf ((p, w) :: P.zip vs) m p = _
    unfold bindL
    rw [bindL_out fun v hv => (List.nodup_cons.mp nd).1 (List.of_mem_zip hv).1, if_pos hk]
    simp
  | p :: P, w :: vs, i + 1, m, nd, h1, h2, hk => by
    show bindL kindOf ((p, w) :: P.zip vs) m x = _
    unfold bindL
    exact bindL_get (i := i) (List.nodup_cons.mp nd).2 (by simpa using h1) (by simpa using h2) hk
theorem bindC_get {kindOf : Str → Option NameKind} {x : Str} {v : Value} : ∀ {P : List Str} {vs : List Value} {i : Nat} {m : Str → Option Value}, P.Nodup → P[i]? = some x → vs[i]? = some v → kindOf x ≠ some .local →
    bindC kindOf (P.zip vs) m x = some v
  | [], _, _, _, _, h, _, _ => by simp at h
  | _ :: _, [], _, _, _, _, h, _ => by simp at h
  | p :: P, w :: vs, 0, m, nd, h1, h2, hk => by
    simp at h1 h2; subst h1; subst h2
    show bindC kindOf ((p, w) :: P.zip vs) m p = _
    unfold bindC
    rw [bindC_out fun v hv => (List.nodup_cons.mp nd).1 (List.of_mem_zip hv).1, if_neg hk]
    simp
  | p :: P, w :: vs, i + 1, m, nd, h1, h2, hk => by
    show bindC kindOf ((p, w) :: P.zip vs) m x = _
    unfold bindC
    exact bindC_get (i := i) (List.nodup_cons.mp nd).2 (by simpa using h1) (by simpa using h2) hk

/-- the names' values at the entry -/
def start (N : List Str) (vs : List V) : St := vs.map some ++ List.replicate (N.length - vs.length) none

/-- the context of a def's body, at its entry; an exception leaves the frame, then lies as CX says -/
def cxOf (CX : CXT) (P : Program) (w : World) (K : PySem.W.Frag) (mg : Str → Option Value) (base : Heap) (N : List Str) (qual : Str) (scope : Scope) (f : Addr) (cd : Value) (A : Around) (outer : List Env) (s : Shared) (H : Hp) (E : XK) : Cx where
  prog := P
  w := w
  K := K
  mg := mg
  base := base
  A := A.deeper (envOfC qual scope s.heap.objs.size f cd)
  N := N
  s₀ := s
  H₀ := H
  env := envOfC qual scope s.heap.objs.size f cd
  outer := outer
  stack := envOfC qual scope s.heap.objs.size f cd :: outer
  ex := []
  calm := true
  fn := fun _ => true
  pn := []
  xe := fun e s' => wpAny (model P w) (A.deeper (envOfC qual scope s.heap.objs.size f cd)) (leaving (envOfC qual scope s.heap.objs.size f cd) e) (fun _ s'' => CX outer H s E e s'') (fun e' s'' => CX outer H s E e' s'') s'

theorem cell_has {sc : Scope} {n : Nat} {x : Str} (h : sc.names.lookup x = some .cell) : ∃ c, (cellsFrom n sc.names []).lookup x = some c := by
  have q := PySem.W.cellsFrom_some sc.names n [] (.inl h)
  exact Option.isSome_iff_exists.mp q

theorem inv_start {CX : CXT} {P : Program} {w : World} {K : PySem.W.Frag} {mg : Str → Option Value} {base : Heap} {N ps : List Str} {qual : Str} {scope : Scope} {f : Addr} {cd : Value} {A : Around} {outer : List Env} {s s1 : Shared} {H : Hp} {E : XK} {us : List Value} {vs : List V}
    (S : FnScope N ps scope) (hd : A.handled = none) (e0 : Env0 P w K mg base A outer s H) (hl : vs.length = ps.length) (r : Vals vs us)
    (x : InCallC s s.heap.objs.size (bindL (envOfC qual scope s.heap.objs.size f cd).kindOf (ps.zip us) fun _ => none) (cellsFrom (s.heap.objs.size + 1) scope.names []) (bindC (envOfC qual scope s.heap.objs.size f cd).kindOf (ps.zip us) fun _ => none) s1) :
    Inv (cxOf CX P w K mg base N qual scope f cd A outer s H E) [] (start N vs) H s1 := by
  have hpl : ps.length ≤ N.length := by have := congrArg List.length S.pre; rw [List.length_take] at this; omega
  obtain ⟨h1, tk, rfl, hk⟩ := x.done
  have noA : ∀ b : Addr, b ∉ (cxOf CX P w K mg base N qual scope f cd A outer s H E).ex := fun b z => absurd (show b ∈ ([] : List Addr) from z) (by simp)
  refine ⟨⟨e0.mod, S.kind, rfl, rfl, Nat.le_refl _, fun y z c h1 h2 => ?_, fun y hy => ?_, fun y c _ h => ?_, fun _ => hd, Around.frames_deeper e0.frames, .inr ⟨rfl, rfl⟩, fun b z => absurd z (noA b), e0.bs, e0.bsz, fun b _ _ => noA b, fun b z => absurd z (noA b), e0.funs, e0.frf⟩,
    rfl, e0.bare, Un.kept hk, ⟨_, x.toInCall.ns, fun i y v h1 h2 h3 => ?_⟩, fun y c h => ⟨_, x.cell y c h⟩, e0.hok.fresh (Nat.le_refl _), fun y c h => ?_, fun p hp => absurd (show p ∈ ([] : List (Addr × Obj)) from hp) (by simp), e0.hok.kept hk, ?_⟩
  · exact name_of_addr x.apart (PySem.mem_of_lookup h1) (PySem.mem_of_lookup h2)
  · have hy : scope.names.lookup y = some .cell ∨ scope.names.lookup y = some .free := hy
    rcases hy with hy | hy
    · exact cell_has hy
    · exact absurd rfl (S.nofree _ (PySem.mem_of_lookup hy))
  · exact Nat.le_of_lt (x.above y c (PySem.mem_of_lookup h))
  · have hi : i < vs.length := by
      unfold start at h2
      by_cases hi : i < vs.length
      · exact hi
      · rw [List.getElem?_append_right (by simpa using hi)] at h2
        rw [List.getElem?_replicate] at h2
        split at h2 <;> cases h2
    have ha : vs[i]? = some v := by
      unfold start at h2
      rw [List.getElem?_append_left (by simpa using hi), List.getElem?_map] at h2
      cases e : vs[i]? with
      | none => rw [e] at h2; cases h2
      | some a => rw [e] at h2; cases h2; rfl
    obtain ⟨u, hu, rv⟩ := r.get ha
    have hp : ps[i]? = some y := by
      rw [← S.pre, List.getElem?_take_of_lt (by omega)]; exact h1
    have ndP : ps.Nodup := by rw [← S.pre]; exact S.nd.sublist (List.take_sublist _ _)
    refine ⟨u, rv, ?_⟩
    rcases S.par y (List.mem_of_getElem? hp) with k | k
    · exact .inl ⟨k, bindL_get ndP hp hu k⟩
    · obtain ⟨c, e⟩ := cell_has (n := s.heap.objs.size + 1) k
      refine .inr ⟨.inl k, c, e, ?_⟩
      have q := x.cell y c e
      rw [bindC_get ndP hp hu (by show scope.names.lookup y ≠ _; rw [k]; decide)] at q
      exact q
  · exact e0.hok.fresh (Nat.le_of_lt (x.above y c (PySem.mem_of_lookup h)))
  · unfold start
    show _ = N.length
    rw [List.length_append, List.length_map, List.length_replicate]
    omega

/-- THE RULE: a def (or a method) of the text, by its body. The body's reading t is chosen for each entry; it is run at the parameters' values -/
theorem fn_of {CX : CXT} {P : Program} {w : World} {K : PySem.W.Frag} {mg : Str → Option Value} {base : Heap} {k : Nat} {f : Addr} {name qual : Str} {params : Arguments} {body : List Stmt} {scope : Scope} {dV kV doc pm cdv ct oc : Value} {an od : Option Addr}
    {osl : Array (Option Value)} {N ps : List Str} {sp : Sp} (lk : K.lookup f = some ⟨oc, od, .func (PySem.W.fnOf name qual params body scope dV kV doc pm an cdv ct), osl⟩) (hcd : PySem.W.codeIn K cdv qual = true) (S : FnScope N ps scope)
    (len : ∀ vs H Q E, sp vs H Q E → vs.length = ps.length)
    (hbody : ∀ (A : Around) (outer : List Env) (s : Shared) (H : Hp) (vs : List V) (Q : VK) (E : XK), Room k (A.deeper (envOfC qual scope s.heap.objs.size f cdv)) → sp vs H Q E →
      ∃ t, PSs (cxOf CX P w K mg base N qual scope f cdv A outer s H E) body t ∧ t { nx := fun _ H' => Q .non H', rt := Q } (start N vs) H) :
    FnOk P w K mg base CX (k + 1) f (PySem.W.fnOf name qual params body scope dV kV doc pm an cdv ct) ps sp := by
  refine ⟨len, fun A outer s H args us vs Q E hr e0 hb r hsp => ?_⟩
  have hl := len _ _ _ _ hsp
  have KX : K.In s.heap := e0.mod.kin.keeps fun b o e => (e0.bs b o e).1
  have lim : s.heap.NoLimit := e0.mod.nolimit.keeps fun b o e => (e0.bs b o e).1
  have hkind : ∀ y ∈ ps.zip us, scope.names.lookup y.1 = some .local ∨ (scope.names.lookup y.1 = some .cell ∧ ((cellsFrom (s.heap.objs.size + 1) scope.names []).lookup y.1).isSome = true) := fun ⟨n, v⟩ hy => by
    rcases S.par n (List.of_mem_zip hy).1 with q | q
    · exact .inl q
    · exact .inr ⟨q, PySem.W.cellsFrom_some _ _ _ (.inl q)⟩
  refine codeAny_call_function hr.depth (KX _ _ lk) rfl S.co S.gen rfl (PySem.W.codeRec_of KX hcd) (hb _ _ _ _ ?_)
  refine wpAny_newFunctionEnv_cells S.kind hkind fun env he s1 x => ?_
  subst he
  refine ⟨lim.keeps x.toInCall.keep, codeAny_func ?_⟩
  obtain ⟨t, ht, hq⟩ := hbody A outer s H vs Q E (hr.deeper _) hsp
  have I : Inv (cxOf CX P w K mg base N qual scope f cdv A outer s H E) [] (start N vs) H s1 := inv_start S hr.hd e0 hl r x
  refine wpAny_mono (ht [] s1 (start N vs) H _ I hq) (fun fl s' hs => ?_) fun e s' hs => hs
  have fin : ∀ {σ' : St} {H' : Hp} {v : V} {u : Value}, Inv (cxOf CX P w K mg base N qual scope f cdv A outer s H E) [] σ' H' s' → RelV v u → Q v H' → CE outer P w H s Q u s' :=
    fun {σ' H' v u} J rv q => ⟨v, H', J.os, J.bare, J.base, J.hok, rv, q⟩
  cases fl with
  | ret u =>
    obtain ⟨v, σ', H', J, rv, q⟩ := hs
    exact fin J rv q
  | next =>
    obtain ⟨σ', H', J, q⟩ := hs
    exact fin (v := V.non) (u := Value.none) J rfl q
  | brk =>
    obtain ⟨_, _, _, q⟩ := hs
    exact False.elim q
  | cont =>
    obtain ⟨_, _, _, q⟩ := hs
    exact False.elim q
end L2

namespace L2
open PySem PySem.Spec PyProof.Rows
section
variable {X : Cx} {x : Str} {p pos : Pos} {e : Expr} {es : List Expr} {t : TA} {id T : String} {r : List V → Hp → VK → Prop}

def tCB (r : List V → Hp → VK → Prop) (t : TA) : TE := fun σ H Q => t σ H fun vs H1 => r vs H1 Q
/-- f(e, ..), f a built-in function -/
theorem pe_callB (hc : CallR X (.builtin id) r) (hg : Gl X x) (hm : X.mg x = none) (hv : bootBuiltins x = some (.builtin id)) (ha : PA X (e :: es) t) (hn : x ≠ "__name__" := by decide) (hdb : (x == ("__debug__" : Str)) = false := by decide)
    (he : starEach (e :: es) X.env = (false, eval e X.env) :: starEach es X.env := by rfl) (hpl : (backTo pos (starEach es X.env)).any (·.1) = false := by rfl) : PE X (.Call (.Name x p) (e :: es) [] pos) (tCB r t) := by
  intro pins s σ H Q I h
  refine wpAny_Call_Name_kw (ld_blt I hg hm hv ?_ hn hdb)
  exact PyProof.Rows.callWith_builtin1 (thn (ha pos pins s σ H _ I h) fun us s1 ⟨vs, H1, I1, r1, q1⟩ => hc pins s1 σ H1 vs us Q I1 r1 q1) he hpl
/-- T(e, ..), T a built-in type -/
theorem pe_callTy (hc : CallR X (.type T) r) (hg : Gl X x) (hm : X.mg x = none) (hv : bootBuiltins x = some (.type T)) (ha : PA X (e :: es) t) (hn : x ≠ "__name__" := by decide) (hdb : (x == ("__debug__" : Str)) = false := by decide)
    (he : starEach (e :: es) X.env = (false, eval e X.env) :: starEach es X.env := by rfl) (hpl : (backTo pos (starEach es X.env)).any (·.1) = false := by rfl) : PE X (.Call (.Name x p) (e :: es) [] pos) (tCB r t) := by
  intro pins s σ H Q I h
  refine wpAny_Call_Name_kw (ld_blt I hg hm hv ?_ hn hdb)
  exact PyProof.Rows.callWith_type1 (thn (ha pos pins s σ H _ I h) fun us s1 ⟨vs, H1, I1, r1, q1⟩ => hc pins s1 σ H1 vs us Q I1 r1 q1) he hpl
end
end L2

namespace HT
open PySem PyProof.Rows



section
open PySem.SeqAt
open PySem.AutoSeq1 (wpAny_loadPart')
open PySem.MeetsSeq PySem.MeetsSeq2 PySem.MeetsSeq3

end

section
variable {prog : Program} {w : World} {A : Around} {E : Value → Shared → Prop} {s : Shared}



/-! ### t[a:b], not the whole -/
/-- a slice's bound as a place among n (d where it is left out) -/
def sIx (n d : Nat) : Option Int → Nat
  | none => d
  | some v => if v < 0 then (v + (n : Int)).toNat else min v.toNat n

end
end HT

namespace L2
open PySem PySem.Spec PyProof.Rows

/-! ### the parts of a slice -/
abbrev TO := St → Hp → (Option Int → Hp → Prop) → Prop
/-- a slice's part (left out, or an int) -/
def PO (X : Cx) (e : Option Expr) (t : TO) : Prop :=
  ∀ (pins : List (Addr × Obj)) (s : Shared) (σ : St) (H : Hp) (Q : Option Int → Hp → Prop), Inv X pins σ H s → t σ H Q →
    wpAny (model X.prog X.w) X.A (evalPart e X.env) (fun u s' => ∃ o H', Inv X pins σ H' s' ∧ IsPart u o ∧ Q o H') X.xe s
def tPart (t : TE) : TO := fun σ H Q => t σ H fun x H1 => ∃ i, x = .int i ∧ Q (some i) H1


section
variable {X : Cx} {e : Expr} {te : TE} {lo hi : Option Expr} {tl th : TO} {pos p2 : Pos}

theorem po_some (h : PE X e te) : PO X (some e) (tPart te) := by
  intro pins s σ H Q I hw
  rw [evalPart_some]
  refine thn (h pins s σ H _ I hw) fun u s1 ⟨x, H1, I1, r1, q1⟩ => ?_
  obtain ⟨i, rfl, q⟩ := q1
  obtain ⟨t, rfl⟩ := r1
  exact ⟨some i, H1, I1, .int i t, q⟩

/-- what a slice of a value is, by values: the slice object stands at sl -/
def SlR (X : Cx) (r : V → Option Int → Option Int → Hp → VK → Prop) : Prop :=
  ∀ (pins : List (Addr × Obj)) (s : Shared) (σ : St) (H : Hp) (x : V) (v vl vu : Value) (lo hi : Option Int) (sl : Addr) (Q : VK), Inv X pins σ H s → RelV x v → s.heap.IsSliceOf sl vl vu .none → IsPart vl lo → IsPart vu hi → r x lo hi H Q →
    ∃ T id, typeLookup (.type T) "__getitem__" = pure (some (.builtin id)) ∧ s.TypeIs v T ∧ wpAny (model X.prog X.w) X.A (getItem v (.ref sl)) (EP X pins σ Q) X.xe s
def tSl (r : V → Option Int → Option Int → Hp → VK → Prop) (te : TE) (tl th : TO) : TE := fun σ H Q => te σ H fun x H1 => tl σ H1 fun l H2 => th σ H2 fun u H3 => r x l u H3 Q
/-- a[lo:hi], any a -/
theorem pe_slice {r : V → Option Int → Option Int → Hp → VK → Prop} (hr : SlR X r) (he : PE X e te) (hl : PO X lo tl) (hu : PO X hi th) : PE X (.Subscript e (.Slice lo hi none p2) pos) (tSl r te tl th) := by
  intro pins s σ H Q I h
  refine Subscript_ (thn (he pins s σ H _ I h) fun v s1 ⟨x, H1, I1, r1, q1⟩ => ?_)
  refine wpAny_Slice (thn (hl pins s1 σ H1 _ I1 q1) fun vl s2 ⟨l, H2, I2, pl, q2⟩ => thn (hu pins s2 σ H2 _ I2 q2) fun vu s3 ⟨u, H3, I3, pu, q3⟩ => ?_)
  rw [evalPart_none]
  refine wpAny_pure ?_
  have I4 : Inv X pins σ H3 { s3 with heap := s3.heap.push { cls := .type "slice", data := .fields #[vl, vu, .none] } } := I3.kept (t' := s3.toks) fun b ob q => Heap.get?_push_of_some _ q
  obtain ⟨T, id, hT, ht, hg⟩ := hr pins { s3 with heap := s3.heap.push { cls := .type "slice", data := .fields #[vl, vu, .none] } } σ H3 x v vl vu l u s3.heap.objs.size Q I4 r1 (Heap.IsSliceOf.new ..) pl pu q3
  show wpAny (model X.prog X.w) X.A (subscriptTail e (.Slice lo hi none p2) v (.ref s3.heap.objs.size)) (EP X pins σ Q) X.xe { s3 with heap := s3.heap.push { cls := .type "slice", data := .fields #[vl, vu, .none] } }
  exact tail_any (ops := [.ref s3.heap.objs.size, v]) ht hT hg (by with_unfolding_all rfl)

/-- the items of xs[lo:hi] -/
def cutV (xs : List V) (lo hi : Option Int) : List V := (xs.drop (HT.sIx xs.length 0 lo)).take (HT.sIx xs.length xs.length hi - HT.sIx xs.length 0 lo)
theorem cutV_length (xs : List V) (lo hi : Option Int) : (cutV xs lo hi).length ≤ xs.length := by
  unfold cutV
  rw [List.length_take, List.length_drop]
  omega

/-! ### t < u, t + u -/
end
end L2

namespace L2
open PySem PySem.Spec PyProof.Rows

/-! ### places -/
/-- the place that an index of any sign means -/
def ixN (n : Nat) (i : Int) : Option Nat := if 0 ≤ i then (if i < n then some i.toNat else none) else if -(n : Int) ≤ i then some (i + n).toNat else none
def atI {α : Type} (xs : List α) (i : Int) : Option α := (ixN xs.length i).bind fun j => xs[j]?
theorem ixN_seq {n : Nat} {i : Int} {j : Nat} (h : ixN n i = some j) : seqIndex? i n = some j ∧ j < n ∧ -(n : Int) ≤ i ∧ i < n := by
  unfold ixN at h
  by_cases h0 : 0 ≤ i
  · rw [if_pos h0] at h
    by_cases h1 : i < n
    · rw [if_pos h1] at h
      have e : i.toNat = j := Option.some.inj h
      exact ⟨by rw [seqIndex_of h0 h1, e], by omega, by omega, h1⟩
    · rw [if_neg h1] at h; cases h
  · rw [if_neg h0] at h
    by_cases h1 : -(n : Int) ≤ i
    · rw [if_pos h1] at h
      have e : (i + n).toNat = j := Option.some.inj h
      exact ⟨by rw [seqIndex_neg (by omega) h1, e], by omega, h1, by omega⟩
    · rw [if_neg h1] at h; cases h
theorem atI_get {α : Type} {xs : List α} {i : Int} {v : α} (h : atI xs i = some v) : ∃ j, seqIndex? i xs.length = some j ∧ xs[j]? = some v ∧ j < xs.length ∧ -(xs.length : Int) ≤ i ∧ i < xs.length := by
  unfold atI at h
  cases e : ixN xs.length i with
  | none => rw [e] at h; cases h
  | some j =>
    rw [e] at h
    obtain ⟨h1, h2, h3, h4⟩ := ixN_seq e
    exact ⟨j, h1, h, h2, h3, h4⟩
theorem atI_nat {α : Type} {xs : List α} {j : Nat} {v : α} (h : xs[j]? = some v) : atI xs (j : Int) = some v := by
  have hj : j < xs.length := (List.getElem?_eq_some_iff.mp h).1
  have e : ixN xs.length (j : Int) = some j := by
    unfold ixN
    rw [if_pos (by omega), if_pos (by omega)]; simp
  unfold atI; rw [e]; exact h
theorem atI_last {α : Type} (xs : List α) (v : α) : atI (xs ++ [v]) (-1) = some v := by
  have hl : (xs ++ [v]).length = xs.length + 1 := by simp
  have e : ixN (xs ++ [v]).length (-1) = some xs.length := by
    unfold ixN
    rw [hl, if_neg (by decide), if_pos (by omega)]
    congr 1
    omega
  unfold atI
  rw [e]
  show (xs ++ [v])[xs.length]? = some v
  simp

/-! ### what may be subscripted -/
/-- what stands as an index of a plain subscript -/
def PlainIx (b : Expr) : Prop := ∀ o i, subscripted b false o i = operate [o, i] (getItem o i)
/-- a subscript by values -/
def IxR (X : Cx) (r : R2) : Prop :=
  ∀ (value slice : Expr) (pins : List (Addr × Obj)) (s : Shared) (σ : St) (H : Hp) (x y : V) (v u : Value) (Q : VK), Inv X pins σ H s → RelV x v → RelV y u → r x y H Q →
    subscripted slice false v u = operate [v, u] (getItem v u) → wpAny (model X.prog X.w) X.A (subscriptTail value slice v u) (EP X pins σ Q) X.xe s
/-- a call of a builtin's method by values: the receiver, the arguments -/
def MtR (X : Cx) (id : String) (r : V → List V → Hp → VK → Prop) : Prop :=
  ∀ (pins : List (Addr × Obj)) (s : Shared) (σ : St) (H : Hp) (x : V) (xs : List V) (v : Value) (us : List Value) (Q : VK), Inv X pins σ H s → RelV x v → Vals xs us → r x xs H Q →
    wpAny (model X.prog X.w) X.A (call (.builtin id) (v :: us)) (EP X pins σ Q) X.xe s
section
variable {X : Cx} {a b : Expr} {ta tb : TE} {pos : Pos}
/-- a[b] -/
theorem pe_ix {r : R2} (hr : IxR X r) (ha : PE X a ta) (hb : PE X b tb) (hs : PlainIx b) : PE X (.Subscript a b pos) (tOp r ta tb) := by
  intro pins s σ H Q I h
  exact Subscript_ (binT ha hb I h fun v u s2 x y H2 I2 rx ry q => hr a b pins s2 σ H2 x y v u Q I2 rx ry q (hs _ _))

def rIxL (K : PySem.W.Frag) : R2 := fun x y H Q => ∃ p xs i v, x = .ref p ∧ y = .int i ∧ SqL K H p xs ∧ atI xs i = some v ∧ Q v H
def rIxT (K : PySem.W.Frag) : R2 := fun x y H Q => ∃ p xs i v, x = .ref p ∧ y = .int i ∧ SqT K H p xs ∧ atI xs i = some v ∧ Q v H
theorem ix_list : IxR X (rIxL X.K) := by
  intro value slice pins s σ H x y v u Q I rx ry h hs
  obtain ⟨p, xs, i, z, rfl, rfl, hq, he, q⟩ := h
  cases rx
  obtain ⟨t, rfl⟩ := ry
  obtain ⟨its, r, pl, hz⟩ := I.list hq
  obtain ⟨j, h1, h2, h3, h4, h5⟩ := atI_get he
  obtain ⟨w, ew, rw'⟩ := r.get h2
  have hl := r.length
  have hn := line63
  have fin : EP X pins σ Q w s := ⟨z, H, I, rw', q⟩
  by_cases h0 : 0 ≤ i
  · have hj : i.toNat = j := by
      rw [seqIndex_of h0 h5] at h1
      exact Option.some.inj h1
    exact item_listR pl.isList h0 (by omega) (by rw [hj]; simpa using ew) fin hs
  · have hj : (i + (its.toArray.size : Int)).toNat = j := by
      rw [seqIndex_neg (by omega) h4] at h1
      rw [List.size_toArray, ← hl]
      exact Option.some.inj h1
    exact subscriptTail_builtinR (x := w) pl.isList.typeIs slot_list_getitem.lookup
      (wpAny_getItem_list_neg (Q := fun r s' => r = w ∧ EP X pins σ Q r s') pl.isList (by omega) (by rw [List.size_toArray] <;> omega) (by omega) (by rw [hj]; simpa using ew) ⟨rfl, fin⟩) hs
theorem ix_tup : IxR X (rIxT X.K) := by
  intro value slice pins s σ H x y v u Q I rx ry h hs
  obtain ⟨p, xs, i, z, rfl, rfl, hq, he, q⟩ := h
  cases rx
  obtain ⟨t, rfl⟩ := ry
  obtain ⟨its, r, pl, hz⟩ := I.tuple hq
  obtain ⟨j, h1, h2, h3, h4, h5⟩ := atI_get he
  obtain ⟨w, ew, rw'⟩ := r.get h2
  have hl := r.length
  have hn := line63
  have fin : EP X pins σ Q w s := ⟨z, H, I, rw', q⟩
  exact subscriptTail_builtinR (x := w) pl.typeIs slot_tuple_getitem.lookup
    (getItem_tuple (j := j) (Q := fun r s' => r = w ∧ EP X pins σ Q r s') pl (by omega) (by omega) (by rw [List.size_toArray, ← hl]; exact h1) (by simpa using ew) ⟨rfl, fin⟩) hs

/-! ### xs[i] = v, any sign -/
/-- the list's object behind a store -/
theorem mapSeq_set (its : List Value) (n j : Nat) (u : Value) : Obj.mapSeq (·.setIfInBounds j u) { cls := .type "list", data := .seq its.toArray n } = { cls := .type "list", data := .seq (its.set j u).toArray n } := by
  simp [Obj.mapSeq]
theorem Inv.lst {pins : List (Addr × Obj)} {σ : St} {H : Hp} {s : Shared} {p : Addr} {xs : List V} (I : Inv X pins σ H s) (h : H p = some (.lst xs)) :
    ∃ (its : List Value) (n : Nat), Vals xs its ∧ s.heap.get? p = some { cls := .type "list", data := .seq its.toArray n } ∧ xs.length ≤ sizeLine := by
  obtain ⟨z, its, n, r, e⟩ := I.hok p _ h
  exact ⟨its, n, r, e, z⟩
/-- the list at p is written by an update of its object -/
theorem Inv.lstUpd {pins : List (Addr × Obj)} {σ : St} {H : Hp} {s : Shared} {p : Addr} {xs ys : List V} {its its' : List Value} {n n' : Nat} {f : Obj → Obj} (I : Inv X pins σ H s) (h : H p = some (.lst xs))
    (ho : s.heap.get? p = some { cls := .type "list", data := .seq its.toArray n }) (hf : f { cls := .type "list", data := .seq its.toArray n } = { cls := .type "list", data := .seq its'.toArray n' }) (r : Vals ys its') (hz : ys.length ≤ sizeLine) (t : Nat) :
    Inv X pins σ (upd H p (.lst ys)) { s with heap := s.heap.update p f, toks := t } := by
  have e : (s.heap.update p f).get? p = some { cls := .type "list", data := .seq its'.toArray n' } := by
    rw [Heap.get?_update_self f ho (by rw [hf] <;> rfl), hf]
  refine I.write (x := p) (e := p) (by rw [h]; trivial) (.inl rfl) (fun b u hb q => (Heap.get?_update_other _ _ (Ne.symm hb)).trans q) ⟨_, e⟩ ?_
  exact ⟨hz, its', n', r, e⟩
def rSetL : V → V → V → Hp → (Hp → Prop) → Prop := fun o i v H Q => ∃ p xs k j, o = .ref p ∧ i = .int k ∧ H p = some (.lst xs) ∧ ixN xs.length k = some j ∧ Q (upd H p (.lst (xs.set j v)))
theorem set_list : PSet X rSetL := by
  intro pins s σ H o i v ov iv u Q I ro ri rv h
  obtain ⟨p, xs, k, j, rfl, rfl, hp, hj, q⟩ := h
  cases ro
  obtain ⟨t, rfl⟩ := ri
  obtain ⟨its, n, r, ho, hz⟩ := I.lst hp
  obtain ⟨h1, h2, h3, h4⟩ := ixN_seq hj
  have hl := r.length
  have hn := line63
  have I' : Inv X pins σ (upd H p (.lst (xs.set j v))) { s with heap := s.heap.update p (Obj.mapSeq (·.setIfInBounds j u)) } :=
    I.lstUpd hp ho (mapSeq_set its n j u) (r.set rv j) (by rw [List.length_set]; exact hz) s.toks
  by_cases h0 : 0 ≤ k
  · have hk : k.toNat = j := by
      rw [seqIndex_of h0 h4] at h1
      exact Option.some.inj h1
    exact PySem.W.ki_setAt ho h0 (by omega) (by rw [List.size_toArray, ← hl]; exact h4) (by rw [hk]; exact ⟨_, I', q⟩)
  · have hk : (k + (its.toArray.size : Int)).toNat = j := by
      rw [seqIndex_neg (by omega) h3] at h1
      rw [List.size_toArray, ← hl]
      exact Option.some.inj h1
    exact PySem.W.ki_setBack ho (by omega) (by rw [List.size_toArray, ← hl]; exact h3) (by omega) (by rw [hk]; exact ⟨_, I', q⟩)

/-! ### slices -/
theorem slice_bounds (lo hi : Option Int) (n : Nat) : (sliceBounds lo hi none n).1 = ((HT.sIx n 0 lo : Nat) : Int) ∧ (sliceBounds lo hi none n).2.1 = ((HT.sIx n n hi : Nat) : Int) ∧ (sliceBounds lo hi none n).2.2 = 1 := by
  refine ⟨?_, ?_, rfl⟩
  · cases lo with
    | none => simp [sliceBounds, HT.sIx]
    | some i =>
      simp only [sliceBounds, HT.sIx, Option.getD_none, show (1 : Int) > 0 by decide, if_true]
      by_cases h : i < 0
      · simp only [h, if_true] <;> omega
      · simp only [h, if_false] <;> omega
  · cases hi with
    | none => simp [sliceBounds, HT.sIx]
    | some i =>
      simp only [sliceBounds, HT.sIx, Option.getD_none, show (1 : Int) > 0 by decide, if_true]
      by_cases h : i < 0
      · simp only [h, if_true] <;> omega
      · simp only [h, if_false] <;> omega
theorem slicePick_cut (its : List Value) (lo hi : Option Int) : slicePick its.toArray lo hi none = ((its.drop (HT.sIx its.length 0 lo)).take (HT.sIx its.length its.length hi - HT.sIx its.length 0 lo)).toArray := by
  obtain ⟨h1, h2, h3⟩ := slice_bounds lo hi its.toArray.size
  unfold slicePick
  rw [h1, h2, h3]
  simp only [sliceRange_one, pick_run, List.size_toArray] <;> rfl
/-- xs[lo:hi] of a list: a new list -/
def rSlL (K : PySem.W.Frag) : V → Option Int → Option Int → Hp → VK → Prop := fun x lo hi H Q => ∃ a xs, x = .ref a ∧ SqL K H a xs ∧ ∀ p, H p = none → Q (.ref p) (upd H p (.lst (cutV xs lo hi)))
theorem sl_list : SlR X (rSlL X.K) := by
  intro pins s σ H x v vl vu lo hi sl Q I rx hs pl pu h
  obtain ⟨a, xs, rfl, hx, q⟩ := h
  cases rx
  obtain ⟨its, r, ht, hz⟩ := I.list hx
  have hlen := r.length
  refine ⟨"list", _, slot_list_getitem.lookup, ht.isList.typeIs, ?_⟩
  refine wpAny_getItem_list_slice ht.isList hs pl pu .none (by simp) ?_ (by rw [List.size_toArray] <;> omega)
  rw [slicePick_cut, ← hlen]
  refine ⟨.ref s.heap.objs.size, _, I.laid (t' := s.toks) (o := .lst (cutV xs lo hi)) (fun b ob q => Heap.get?_push_of_some _ q) (Nat.le_refl _) ?_, rfl, q _ (I.hok.fresh (Nat.le_refl _))⟩
  exact ⟨Nat.le_trans (cutV_length xs lo hi) hz, _, 0, (r.drop (HT.sIx xs.length 0 lo)).take (HT.sIx xs.length xs.length hi - HT.sIx xs.length 0 lo), Heap.get?_push_size _ rfl⟩

/-! ### in, not in: flat items -/

/-! ### len, list(x), tuple(x) of any list or tuple that is read -/
theorem call_len_seq : CallR X (.builtin "len") (fun xs H Q => ∃ p ys, xs = [.ref p] ∧ (SqL X.K H p ys ∨ SqT X.K H p ys) ∧ Q (.int ys.length) H) := by
  intro pins s σ H xs us Q I r h
  obtain ⟨p, ys, rfl, hq, q⟩ := h
  obtain ⟨u, rfl, rx⟩ := vals1 r
  cases rx
  have hn := line63
  rcases hq with hq | hq
  · obtain ⟨its, r', pl, hz⟩ := I.list hq
    have hlen := r'.length
    exact Calls.call_len_list pl.isList (by simp only [List.size_toArray] <;> omega) ⟨.int ys.length, H, I.tok _, ⟨s.toks + 1, by rw [List.size_toArray, hlen]⟩, q⟩
  · obtain ⟨its, r', pl, hz⟩ := I.tuple hq
    have hlen := r'.length
    exact len_tuple pl (by simp only [List.size_toArray] <;> omega) ⟨.int ys.length, H, I.tok _, ⟨s.toks + 1, by rw [List.size_toArray, hlen]⟩, q⟩
theorem call_tuple_of : CallR X (.type "tuple") (fun xs H Q => ∃ p ys, xs = [.ref p] ∧ ((SqL X.K H p ys ∧ ∀ l, H l = none → Q (.ref l) (upd H l (.tup ys))) ∨ (SqT X.K H p ys ∧ Q (.ref p) H))) := by
  intro pins s σ H xs us Q I r h
  obtain ⟨p, ys, rfl, h⟩ := h
  obtain ⟨u, rfl, rx⟩ := vals1 r
  cases rx
  rcases h with ⟨hq, q⟩ | ⟨hq, q⟩
  · obtain ⟨its, r', pl, hz⟩ := I.list hq
    have hlen := r'.length
    refine call_tuple_list pl.isList (fun h' kp => ?_) (by simp only [List.size_toArray] <;> omega)
    have I1 : Inv X pins σ H { s with heap := h' } := I.kept (t' := s.toks) kp
    have I2 : Inv X pins σ (upd H h'.objs.size (.tup ys)) { s with heap := h'.push { cls := .type "tuple", data := .seq its.toArray } } :=
      I1.laid (t' := s.toks) (fun b o e => Heap.get?_push_of_some _ e) (Nat.le_refl _) (show ObjOk X.prog X.w _ _ _ (.tup ys) from ⟨hz, its, r', IsTup.new _ _⟩)
    exact ⟨.ref h'.objs.size, _, I2, rfl, q _ (I1.hok.fresh (Nat.le_refl _))⟩
  · obtain ⟨its, r', pl, hz⟩ := I.tuple hq
    exact call_tuple_same pl ⟨.ref p, H, I, rfl, q⟩

/-! ### the call of a builtin's method: o.m(..) -/
/-- the value is of that builtin type -/
def tyV (K : PySem.W.Frag) (T : String) (x : V) (H : Hp) : Prop := match x with
  | .str _ => T = "str"
  | .int _ => T = "int"
  | .ref p => (T = "list" ∧ ∃ xs, SqL K H p xs) ∨ (T = "tuple" ∧ ∃ o, K.lookup p = some o ∧ o.cls = .type "tuple" ∧ o.dict = none) ∨
      (T = "dict" ∧ ((∃ kvs, H p = some (.dK kvs)) ∨ ∃ kvs, H p = some (.dT kvs))) ∨ (T = "set" ∧ ∃ S n, H p = some (.set S n))
  | _ => False
theorem tyV_is {pins : List (Addr × Obj)} {σ : St} {H : Hp} {s : Shared} {T : String} {x : V} {v : Value} (I : Inv X pins σ H s) (r : RelV x v) (ty : tyV X.K T x H) :
    s.TypeIs v T ∧ ∀ a, v = .ref a → ∃ ob, s.heap.get? a = some ob ∧ ob.dict = none := by
  cases x with
  | str z =>
    obtain ⟨t, rfl⟩ := r
    cases (show T = "str" from ty)
    exact ⟨typeIs_str s z t, fun _ e => nomatch e⟩
  | int i =>
    obtain ⟨t, rfl⟩ := r
    cases (show T = "int" from ty)
    exact ⟨typeIs_int s i t, fun _ e => nomatch e⟩
  | ref p =>
    cases r
    rcases ty with ⟨rfl, xs, hq⟩ | ⟨rfl, o, hk, hc, hd⟩ | ⟨rfl, hk⟩ | ⟨rfl, S, n, hk⟩
    · obtain ⟨its, _, pl, _⟩ := I.list hq
      refine ⟨pl.isList.typeIs, fun a e => ?_⟩
      cases e
      obtain ⟨o, n, e, c, hd, _⟩ := pl
      exact ⟨o, e, hd⟩
    · refine ⟨⟨o, I.kIn p o hk, hc⟩, fun a e => ?_⟩
      cases e
      exact ⟨o, I.kIn _ o hk, hd⟩
    · have z : ∃ o, s.heap.get? p = some o ∧ o.ExactDict := by
        rcases hk with ⟨kvs, hk⟩ | ⟨kvs, hk⟩
        · obtain ⟨_, _, _, _, o, _, _, e, ex, _⟩ := I.hok p _ hk
          exact ⟨o, e, ex⟩
        · obtain ⟨_, _, _, _, o, _, _, e, ex, _⟩ := I.hok p _ hk
          exact ⟨o, e, ex⟩
      obtain ⟨o, e, ex⟩ := z
      refine ⟨⟨o, e, ex.1⟩, fun a e2 => ?_⟩
      cases e2
      exact ⟨o, e, ex.2.1⟩
    · obtain ⟨o, _, _, _, e, ex, _⟩ := I.hok p _ hk
      refine ⟨⟨o, e, ex.1⟩, fun a e2 => ?_⟩
      cases e2
      exact ⟨o, e, ex.2.1⟩
  | _ => exact False.elim ty
def tBM (K : PySem.W.Frag) (T : String) (r : V → List V → Hp → VK → Prop) (to : TE) (t : TA) : TE := fun σ H Q => to σ H fun x H1 => tyV K T x H1 ∧ t σ H1 fun xs H2 => r x xs H2 Q
variable {o e : Expr} {es : List Expr} {to : TE} {t : TA} {name : Str} {apos cpos : Pos} {T id : String} {r : V → List V → Hp → VK → Prop}
theorem pe_bm (pa : PlainAttrs T) (slot : Slot T name id) (hty : typeOf (.builtin id) = pure (.type "method_descriptor")) (hm : MtR X id r) (ho : PE X o to) (ha : PA X (e :: es) t)
    (hbase : attributeBase o name X.env (eval o X.env) = eval o X.env := by rfl)
    (hfew : ((backTo cpos (starEach (e :: es) X.env)).all (fun x => !x.1) && (backToKw cpos (keywordEach [] X.env)).all (fun x => x.1.isSome)
      && decide ((e :: es).length + ([] : List Keyword).length + (if ([] : List Keyword).isEmpty then 0 else 1) < 30)) = true := by rfl)
    (hline : (apos.endLine == cpos.line) = true := by rfl) (hs : starEach (e :: es) X.env = (false, eval e X.env) :: starEach es X.env := by rfl) (hplain : (backTo cpos (starEach es X.env)).any (·.1) = false := by rfl) :
    PE X (.Call (.Attribute o name apos) (e :: es) [] cpos) (tBM X.K T r to t) := by
  intro pins s σ H Q I h
  refine wpAny_Call_method_late hbase hfew hline rfl (thn (ho pins s σ H _ I h) fun v s1 ⟨x, H1, I1, r1, ty, q1⟩ => ?_)
  obtain ⟨h1, h2⟩ := tyV_is I1 r1 ty
  refine ⟨T, id, pa, slot, hty, h1, h2, ?_⟩
  have hA := ha cpos pins s1 σ H1 _ I1 q1
  rw [hs] at hA ⊢
  refine Calls.callWith_builtin (by show (false || (backTo cpos (starEach es X.env)).any (·.1)) = false; rw [hplain] <;> rfl) (Calls.evalArgs_plain ?_)
  exact thn hA fun us s2 ⟨vs, H2, I2, r2, q2⟩ => hm pins s2 σ H2 x vs v us Q I2 r1 r2 q2
/- xs.append(e), list.index on a module's tuple .. are MtR facts of 06m -/
end
end L2

namespace L2
open PySem PySem.Spec PyProof.Rows

def MtM (X : Cx) (id : String) (r : V → List V → Hp → VK → Prop) : Prop :=
  ∀ (pins : List (Addr × Obj)) (s : Shared) (σ : St) (H : Hp) (x : V) (xs : List V) (v : Value) (us : List Value) (Q : VK), Inv X pins σ H s → RelV x v → Vals xs us → r x xs H Q →
    wpAny (model X.prog X.w) X.A (call (.builtin id) (v :: us)) (EP X pins σ Q) X.xe s

/-! ### lists of values -/
theorem Vals.one : ∀ {x : V} {us : List Value}, Vals [x] us → ∃ u, us = [u] ∧ RelV x u
  | _, _, .cons r .nil => ⟨_, rfl, r⟩

section
variable {X : Cx} {pins : List (Addr × Obj)} {σ : St} {H : Hp} {s : Shared} {l b : Addr} {xs ys zs : List V}

/-! ### the two steps: a tracked list is rewritten, a new list is laid -/
theorem Inv.lset {its its' : List Value} {n : Nat} {f : Array Value → Array Value} {t' : Nat} (I : Inv X pins σ H s) (hH : H l = some (.lst xs))
    (e : s.heap.get? l = some { cls := .type "list", data := .seq its.toArray n }) (hf : f its.toArray = its'.toArray) (hv : Vals ys its') (hz : ys.length ≤ sizeLine) :
    Inv X pins σ (upd H l (.lst ys)) { s with heap := s.heap.update l (Obj.mapSeq f), toks := t' } := by
  have q := PySem.IsL.update e f
  rw [hf] at q
  refine I.write (x := l) (e := l) (by rw [hH]; exact trivial) (.inl rfl) (fun b' u hb hu => (Heap.get?_update_other s.heap (Obj.mapSeq f) (Ne.symm hb)).trans hu) ⟨_, q⟩ ?_
  exact ⟨hz, its', _, hv, q⟩
theorem Inv.lnew {its : List Value} {t' : Nat} (I : Inv X pins σ H s) (hv : Vals ys its) (hz : ys.length ≤ sizeLine) :
    Inv X pins σ (upd H s.heap.objs.size (.lst ys)) { s with heap := s.heap.push { cls := .type "list", data := .seq its.toArray }, toks := t' } :=
  I.laid (fun _ _ q => Heap.get?_push_of_some _ q) (Nat.le_refl _) ⟨hz, its, 0, hv, Heap.get?_push_size _ rfl⟩
theorem Inv.fresh (I : Inv X pins σ H s) : H s.heap.objs.size = none := I.hok.fresh (Nat.le_refl _)
theorem Inv.lstM (I : Inv X pins σ H s) (hH : H l = some (.lst xs)) : xs.length ≤ sizeLine ∧ ∃ (its : List Value) (n : Nat), Vals xs its ∧ xs.length = its.length ∧ s.heap.get? l = some { cls := .type "list", data := .seq its.toArray n } := by
  obtain ⟨z, its, n, r, e⟩ := I.hok l _ hH
  exact ⟨z, its, n, r, r.length, e⟩

theorem notLongL {n : Nat} (h : n ≤ sizeLine) : Builtin.List.listTooLong n = false := by
  unfold Builtin.List.listTooLong
  exact decide_eq_false (by omega)
end

section
variable {X : Cx}

/-! ### methods -/
def rAppend : V → List V → Hp → VK → Prop := fun x vs H Q => ∃ l xs y, x = .ref l ∧ vs = [y] ∧ H l = some (.lst xs) ∧ xs.length < sizeLine ∧ Q .non (upd H l (.lst (xs ++ [y])))
theorem mt_append : MtM X "list.append" rAppend := by
  intro pins s σ H x vs v us Q I rx rv h
  obtain ⟨l, xs, y, rfl, rfl, hH, hz, q⟩ := h
  cases rx
  obtain ⟨u, rfl, ru⟩ := rv.one
  obtain ⟨z, its, n, r, hl, e⟩ := I.lstM hH
  refine call_meets F.slot_list_append ⟨_, e, rfl⟩ F.entry_list_append (F.args_list_append_2 _ _) (PySem.list_append l its.toArray n u (by rw [List.size_toArray]; omega)) ⟨e, ?_⟩
  refine ⟨.non, _, I.lset (its' := its ++ [u]) hH e (by simp) (r.append (.cons ru .nil)) ?_, rfl, q⟩
  rw [List.length_append, List.length_singleton]
  omega

def rExtend : V → List V → Hp → VK → Prop := fun x vs H Q => ∃ l b xs zs, x = .ref l ∧ vs = [.ref b] ∧ H l = some (.lst xs) ∧ H b = some (.lst zs) ∧ xs.length + zs.length ≤ sizeLine ∧ Q .non (upd H l (.lst (xs ++ zs)))
theorem mt_extend : MtM X "list.extend" rExtend := by
  intro pins s σ H x vs v us Q I rx rv h
  obtain ⟨l, b, xs, zs, rfl, rfl, hH, hB, hz, q⟩ := h
  cases rx
  obtain ⟨u, rfl, ru⟩ := rv.one
  cases ru
  obtain ⟨z, its, n, r, hl, e⟩ := I.lstM hH
  obtain ⟨z2, its2, n2, r2, hl2, e2⟩ := I.lstM hB
  have hsz : its.toArray.size + its2.toArray.size ≤ sizeLine := by rw [List.size_toArray, List.size_toArray]; omega
  have hlong : ¬ (!its.toArray.isEmpty && Builtin.List.listTooLong (its.toArray.size + its2.toArray.size)) = true := by
    rw [notLongL hsz, Bool.and_false]
    exact Bool.false_ne_true
  refine call_meets F.slot_list_extend ⟨_, e, rfl⟩ F.entry_list_extend (F.args_list_extend_2 _ _)
    (AutoSeq1.list_extend_list_list_0 l its.toArray n b its2.toArray n2 hlong (by rw [List.size_toArray]; omega) (by omega)) ⟨e, e2, ?_⟩
  refine ⟨.non, _, I.lset (its' := its ++ its2) hH e (by simp) (r.append r2) ?_, rfl, q⟩
  rw [List.length_append]
  omega





/-! ### list + list, list += list, list * int -/
def rCat : R2 := fun x y H Q => ∃ l b xs zs, x = .ref l ∧ y = .ref b ∧ H l = some (.lst xs) ∧ H b = some (.lst zs) ∧ xs.length + zs.length ≤ sizeLine ∧ ∀ p, H p = none → Q (.ref p) (upd H p (.lst (xs ++ zs)))
theorem op_cat : OpR X (binaryOp .Add) rCat := by
  intro pins s σ H x y v u Q I rx ry h
  obtain ⟨l, b, xs, zs, rfl, rfl, hH, hB, hz, q⟩ := h
  cases rx
  cases ry
  obtain ⟨z, its, n, r, hl, e⟩ := I.lstM hH
  obtain ⟨z2, its2, n2, r2, hl2, e2⟩ := I.lstM hB
  refine PySem.P.add_list e e2 ?_ (by rw [List.size_toArray, List.size_toArray]; omega)
  have ea : its.toArray ++ its2.toArray = (its ++ its2).toArray := by simp
  rw [ea]
  exact ⟨.ref _, _, I.lnew (t' := s.toks) (r.append r2) (by rw [List.length_append]; omega), rfl, q _ I.fresh⟩

/-! ### del xs[i] -/
end

/-! ### xs[a:b] = ys -/
section
variable {prog : Program} {w : World} {A : Around} {E : Value → Shared → Prop} {s : Shared}
set_option maxRecDepth 100000 in
end

section
variable {X : Cx}
end
end L2

namespace Att
open PySem PySem.W PySem.Calls PyProof.Rows

/-! ### the script -/
theorem ints_of_wellAll {P : Params} {h : Heap} : ∀ (ns : List Int) (vs : List Value), WellAll P h vs (ns.map WData.int) → IntsAre vs ns := by
  intro ns
  induction ns with
  | nil =>
    intro vs w
    rw [List.map_nil] at w
    cases w
    exact .nil
  | cons n ns ih =>
    intro vs w
    rw [List.map_cons] at w
    cases w with
    | cons a b =>
      cases a
      exact .cons _ _ (ih _ b)

theorem script_of {l : OpenLaw} {n : Nat} (hn : l.most = some n) {P : Params} {h : Heap} {args : List WData} {vals : List Value}
    (hpre : l.row.toRowW.claim.pre args = true) (hwl : WellAll P h vals args) :
    ∃ a vs ns, vals = [Value.ref a] ∧ args = [WData.list (ns.map WData.int)] ∧ h.get? a = some { cls := .type "list", data := .seq vs.toArray } ∧ IntsAre vs ns ∧ ns.length ≤ n := by
  have hsh : WShape.hasAll [] args [.list .int] = true := (pre_splitW hpre).1
  have hc : l.pre.holds [] { args := args } = true := (pre_splitW hpre).2
  obtain ⟨d, r, rfl, h1, h2⟩ := hasAllW_cons hsh
  obtain rfl := hasAllW_nil h2
  obtain ⟨xs, rfl, h3⟩ := hasW_list h1
  obtain ⟨ns, rfl⟩ := items_int h3
  have hlen : ns.length ≤ n := by
    unfold OpenLaw.pre at hc
    have h4 : (WTm.not (.lt (.lit (.int (n : Int))) (.len (.arg 0)))).holds [] { args := [.list (ns.map .int)] } = true := by
      have h4 := (holds_andW hc).1
      rw [hn] at h4
      exact h4
    have h5 := condW_of h4 (w_not (w_lt w_lit (w_len_list (w_arg rfl))))
    rw [List.length_map] at h5
    refine Nat.le_of_not_lt fun q => ?_
    have q' : (n : Int) < ((ns.length : Nat) : Int) := by omega
    first
      | (rw [decide_eq_true q'] at h5; exact absurd h5 (by decide))
      | (simp at h5; omega)
  cases hwl with
  | cons w1 w2 =>
    cases w2
    cases w1 with
    | list ho hall => exact ⟨_, _, ns, rfl, rfl, ho, ints_of_wellAll ns _ hall, hlen⟩

theorem post_true (l : OpenLaw) (args : List WData) : l.row.toRowW.claim.post args (.bool true) args = true :=
  postW_of (r := l.row.toRowW) (X := (true == true))
    (show WShape.has [] (.bool true) .bool = true by first | rfl | decide | simp [WShape.has, WShape.arms, WShape.armsAll])
    (show (WTm.eq .res (.lit (.bool true))).value [] { args := args, res := some (.bool true), after := args } = some (.bool (true == true)) from w_eq_bool (w_res rfl) w_lit) rfl

/-! ### the attachment: holds_open's last premise (the goal 'hc' behind k_head) from a wpAny of the law's body -/

/-- the same from a codeAny of the CALL (for a layer whose function contracts speak of calls) -/
theorem attach_call {l : OpenLaw} {n : Nat} {q : Program} {loose : List Str} {XP : (Str → Option Value) → Heap → Prop} {YP : World → Heap → Prop} {d : DefRec}
    (hn : l.most = some n) (hdf : d.params.defaults = [])
    (call : ∀ (w : World) (s₀ s₁ : Shared) (mg mb : Str → Option Value) (fa : Addr) (o : Obj) (pm cd doc : Value) (a : Addr) (vs : List Value) (ns : List Int),
      Ground q loose [] XP w s₀ mg mb s₁.heap → YP w s₁.heap →
      s₁.heap.get? fa = some o → o.data = .func (docDef d.name d.params d.body d.scope pm cd doc) → s₁.heap.CodeRec cd d.name → mg d.name = some (.ref fa) →
      s₁.heap.get? a = some { cls := .type "list", data := .seq vs.toArray } → IntsAre vs ns → ns.length ≤ n → s₁.gens = #[] →
      codeAny (model l.prog w) callerA (.call (.ref fa) ⟨[.ref a], []⟩) (fun r s' => r = .ok (.ret (.bool true)) ∧ OldK s₁.heap s'.heap ∧ s'.os = s₁.os ∧ AllBare s'.gens) s₁) :
    WalkO q loose XP YP l.row.toRowW d [] (fun f vs => PySem.call f vs) := by
  intro w s₀ s₁ mg mb G Y fa o pm cd doc dV kV ho hd hcd hD hmg hg args vals as hpre hlay hrd hwl hlo
  obtain rfl : dV = .none := Dflts.none hD hdf
  obtain rfl : kV = .none := Dflts.noKw hD
  obtain ⟨a, vs, ns, rfl, rfl, hobj, hints, hlen⟩ := script_of hn hpre hwl
  refine enter_call (codeAny_mono (call w s₀ s₁ mg mb fa o pm cd doc a vs ns G Y ho (fd_plain hd) hcd hmg hobj hints hlen hg) fun r s' hq => ?_)
  obtain ⟨rfl, h2, h3, h4⟩ := hq
  exact ⟨.inl ⟨.bool true, .bool true, [], rfl, fun _ => rfl, .bool true, post_true l _, fun _ => ⟨List.Pairwise.nil, fun _ hm => (nomatch hm)⟩⟩, h2, h3, h4⟩


/-! ### rules over ANY heap (no ledger) from facts about the written part K: the library's own take a ledger (News) for what they write -/
section
variable {prog : Program} {w : World} {A : Around} {E : Value → Shared → Prop} {s : Shared} {K : Frag}





/-! the whole heap as the ledger: makes every rule that writes through a ledger a rule over any heap -/

end
end Att

namespace L2
open PySem PySem.Spec PyProof.Rows

theorem vals_ints : ∀ {vs : List Value} {ns : List Int}, IntsAre vs ns → Vals (ns.map V.int) vs
  | _, _, .nil => .nil
  | _, _, .cons n t h => .cons ⟨t, rfl⟩ (vals_ints h)

/-- nothing is tracked but the script, known to the object (or it is an object of the module) -/
def Only (H : Hp) : Prop := ∀ b, H b = none ∨ ∃ o xs, H b = some (.frz o (.lst xs))

/-- THE HEAD: the law's promise, at the heap behind the top. F, the promise of the law's def, may use that base is part of the heap (so K.In base, base.Ns mainGlobals mg stand in Mod) -/
theorem law_call {P : Program} {w : World} {K : PySem.W.Frag} {mg mb : Str → Option Value} {CX : CXT} {k : Nat} {fa a : Addr} {fd : FuncData} {x : Str} {sp : Sp} {s₁ : Shared} {vs : List Value} {ns : List Int}
    (KX : K.In s₁.heap) (hns : s₁.heap.Ns mainGlobals mg) (hb : s₁.heap.Ns builtinsNs mb) (hbb : ∀ x : Str, x ≠ "__name__" → mb x = bootBuiltins x) (hlim : s₁.heap.NoLimit) (hg : s₁.gens = #[])
    (ha : s₁.heap.get? a = some { cls := .type "list", data := .seq vs.toArray }) (hi : IntsAre vs ns) (hl : ns.length ≤ sizeLine) (hr : Room k callerA)
    (F : ∀ base : Heap, K.In base → base.Ns mainGlobals mg → FnOk P w K mg base CX k fa fd [x] sp) (hbind : ∀ (s : Shared) (u : Value), BindsTo s fd ⟨[u], []⟩ [(x, u)])
    (hsp : ∀ H : Hp, Only H → SqL K H a (ns.map V.int) → sp [.ref a] H (fun v _ => v = .bl true) fun _ _ _ => False)
    (hCX : ∀ H e s', CX [] H s₁ (fun _ _ _ => False) e s' → False) :
    codeAny (model P w) callerA (.call (.ref fa) ⟨[.ref a], []⟩) (fun r s' => r = .ok (.ret (.bool true)) ∧ OldK s₁.heap s'.heap ∧ s'.os = s₁.os ∧ AllBare s'.gens) s₁ := by
  have rv := vals_ints hi
  have lenV := hi.length
  -- from an abstract heap in which nothing but the script may be tracked
  have core : ∀ H : Hp, Only H → SqL K H a (ns.map V.int) → HOk P w H s₁.heap → (∀ b, H b ≠ none → b = a) → (H a ≠ none → K.lookup a = none) →
      codeAny (model P w) callerA (.call (.ref fa) ⟨[.ref a], []⟩) (fun r s' => r = .ok (.ret (.bool true)) ∧ OldK s₁.heap s'.heap ∧ s'.os = s₁.os ∧ AllBare s'.gens) s₁ := by
    intro H hO hS hok hA hK
    have base_of : ∀ {b : Addr} {o : Obj}, s₁.heap.get? b = some o → H b = none → (hidT s₁.heap H).get? b = some o := fun e n => hidT_get e n
    have noA : ∀ {b : Addr} {o : Obj} {es : Array DictEntry} {ep : Nat}, s₁.heap.get? b = some o → o.data = .dict es ep → H b = none := fun {b o es ep} e d => by
      cases q : H b with
      | none => rfl
      | some u =>
        have e' : b = a := hA b (by rw [q]; simp)
        subst e'
        rw [ha] at e; cases e
        have d' : Data.seq vs.toArray _ = Data.dict es ep := d
        cases d'
    have nsK : ∀ {b : Addr} {m : Str → Option Value}, s₁.heap.Ns b m → (hidT s₁.heap H).Ns b m := fun {b m} ⟨o, es, ep, e, d, r⟩ => ⟨o, es, ep, base_of e (noA e d), d, r⟩
    have hKb : K.In (hidT s₁.heap H) := fun b o e => base_of (KX b o e) (by
      cases q : H b with
      | none => rfl
      | some u =>
        have e' : b = a := hA b (by rw [q]; simp)
        subst e'
        rw [hK (by rw [q]; simp)] at e; cases e)
    have hM : Mod K mg (hidT s₁.heap H) := ⟨hKb, nsK hns, ⟨mb, nsK hb, hbb⟩, let ⟨mc, h1, h2⟩ := hlim; ⟨mc, nsK h1, h2⟩⟩
    have e0 : Env0 P w K mg (hidT s₁.heap H) callerA [] s₁ H := ⟨rfl, hM, fun b o e => of_hidT e, Nat.le_of_eq (hidT_size _ _), trivial, fun b hb => absurd (show b ∈ ([] : List Addr) from hb) (by simp), hok, .of_eq hg⟩
    refine codeAny_mono ((F _ hKb (nsK hns)).run callerA [] s₁ H ⟨[.ref a], []⟩ [.ref a] [.ref a] _ _ hr e0 (hbind s₁ (.ref a)) (.cons rfl .nil) (hsp H hO hS)) fun r s' h => ?_
    cases r with
    | error e => exact (hCX H e s' h).elim
    | ok fl =>
      cases fl with
      | next => exact False.elim h
      | brk => exact False.elim h
      | cont => exact False.elim h
      | ret u =>
        obtain ⟨v, H', os, bare, un, hok', r', q⟩ := h
        have q' : v = .bl true := q
        subst q'
        obtain rfl : u = Value.bool true := r'
        refine ⟨rfl, OldK.of_keep fun b o e => ?_, os, bare⟩
        cases q : H b with
        | none => exact un.keep b o e q (by intro z; exact absurd (show b ∈ ([] : List Addr) from z) (by simp)) (by simp)
        | some u =>
          rcases hO b with z | ⟨ob, xs, z⟩
          · rw [q] at z; cases z
          · have z2 := un.frzs b ob _ z
            obtain ⟨e1, _⟩ := hok b _ z
            obtain ⟨e2, _⟩ := hok' b _ z2
            rw [e] at e1; cases e1
            exact e2
  cases hk : K.lookup a with
  | some o =>
    -- the script is one of the module's own objects
    have e := KX a o hk
    rw [ha] at e
    cases e
    refine core (fun _ => none) (fun _ => .inl rfl) (.inr ⟨_, vs.toArray, _, hk, rfl, rfl, rfl, by rw [List.size_toArray, lenV]; exact hl, by simpa using rv⟩) (fun b u z => by have z' : (none : Option HO) = some u := z; cases z') (fun b z => absurd rfl z) fun z => absurd rfl z
  | none =>
    refine core (fun b => if b = a then some (.frz { cls := .type "list", data := .seq vs.toArray } (.lst (ns.map V.int))) else none) (fun b => ?_) (.inl (.inr ⟨{ cls := .type "list", data := .seq vs.toArray }, if_pos rfl⟩)) (fun b u z => ?_) (fun b z => ?_) fun _ => hk
    · by_cases hb : b = a
      · exact .inr ⟨_, _, if_pos hb⟩
      · exact .inl (if_neg hb)
    · by_cases hb : b = a
      · have z' := (if_pos hb).symm.trans z
        cases z'
        subst hb
        exact ⟨ha, by rw [List.length_map]; exact hl, vs, _, rv, ha⟩
      · have z' := (if_neg hb).symm.trans z
        cases z'
    · by_cases hb : b = a
      · exact hb
      · exact absurd (if_neg hb) z
end L2

namespace L2
open PySem PySem.Spec PyProof.Rows


/-- the goal that k_head leaves (case hc), from the law's promise. F gives the function object fd (K's own) once, then the promise over every base -/
theorem walk_of {l : PySem.W.OpenLaw} {n k : Nat} {q : Program} {loose : List Str} {XP : (Str → Option Value) → Heap → Prop} {YP : World → Heap → Prop} {d : DefRec} {K : Params → PySem.W.Frag} {CX : World → CXT} {sp : World → Sp} {x : Str}
    (hn : l.most = some n) (hn2 : n ≤ sizeLine) (hdf : d.params.defaults = []) (hr : Room k callerA)
    (hY : ∀ (w : World) (h : Heap), YP w h → (K w.params).In h)
    (F : ∀ (w : World) (mg : Str → Option Value) (fa : Addr) (h : Heap), (K w.params).In h → h.Ns mainGlobals mg → mg d.name = some (.ref fa) →
      ∃ fd : FuncData, (∀ (s : Shared) (u : Value), BindsTo s fd ⟨[u], []⟩ [(x, u)]) ∧
        ∀ base : Heap, (K w.params).In base → base.Ns mainGlobals mg → FnOk l.prog w (K w.params) mg base (CX w) k fa fd [x] (sp w))
    (hsp : ∀ (w : World) (H : Hp) (a : Addr) (ns : List Int), ns.length ≤ n → Only H → SqL (K w.params) H a (ns.map V.int) → sp w [.ref a] H (fun v _ => v = .bl true) fun _ _ _ => False)
    (hCX : ∀ (w : World) (H : Hp) (s : Shared) (e : Value) (s' : Shared), CX w [] H s (fun _ _ _ => False) e s' → False) :
    PySem.W.WalkO q loose XP YP l.row.toRowW d [] (fun f vs => PySem.call f vs) := by
  refine Att.attach_call hn hdf fun w s₀ s₁ mg mb fa o pm cd doc a vs ns G Y ho hd hcd hmg hobj hints hlen hg => ?_
  have KX := hY w _ Y
  obtain ⟨fd, hb, hF⟩ := F w mg fa _ KX G.T.g hmg
  exact law_call KX G.T.g G.T.b G.T.builtins G.T.nolimit hg hobj hints (Nat.le_trans hlen hn2) hr hF hb (fun H hO hS => hsp w H a ns hlen hO hS) fun H e s' => hCX w H s₁ e s'
end L2

/- THE LAST THEOREM (shape; LID, My.* are yours):
   My.Adr: a structure of the addresses that your layer names (classes, functions); My.Txt K t: a structure (Prop) of the equations over K;
   My.txt_mk : {K} {implicit addresses ..} (e1 : nsIn K mainGlobals "law" = some (some (.ref f))) (e2 : K.lookup f = some ⟨oc, od, .func (fnOf "law" "law" params body scope dV kV doc pm an cdv ct), sl⟩) (e3 : codeIn K cdv "law" = true) .. : ∃ t, My.Txt K t

set_option maxRecDepth 100000 in
set_option maxHeartbeats 0 in
theorem PySem.Challenge.cw_LID_holds : PySem.Challenge.rw_LID.Holds := by
  w_on; o_law; k_head; (case hw => w_witness2)
  k_fill
  refine L2.walk_of (l := PySem.Challenge.rw_LID) (n := 63) (k := 40) (x := "script") (CX := fun w => ..) (sp := fun _ => My.sp_law) rfl (by decide) rfl ⟨rfl, by decide, by decide⟩ (fun w h Y => PySem.W.kIn_of Y) ?F ?S ?C
  case F =>
    intro w mg fa h KX G hmg
    have T : ∃ t, My.Txt (L2.KOf KX) t := by
      dsimp only [L2.KOf]                          -- K must stand as «<heap const> w.params» for k_is
      refine' My.txt_mk ?e1 ?e2 ?e3 ..
      (case e1 => PySem.W.k_is)                    -- in the order: a name -> its address -> its object -> its parts
      (case e2 => PySem.W.k_is)
      ..
    obtain ⟨t, T⟩ := T
    have e0 := hmg.symm.trans (PySem.W.mg_of KX G T.law)
    cases e0                                       -- fa is the law's own address
    exact ⟨_, fun s u => .of_eq rfl, fun base kb nb => My.law_fn T kb nb⟩     -- if «.of_eq rfl» comes too early: refine' ⟨_, ?b, fun base kb nb => My.law_fn T kb nb⟩; exact fun s u => .of_eq rfl
  case S => exact fun w H a ns hl hO hS => ..
  case C => exact ..
(the tactic k_is has no namespace: write k_is) -/

/-! SHORT WORDS over the layer: a def of the text, its body, what a loop and a test want. -/
namespace L2
open PySem PySem.Spec PyProof.Rows

/-! ### the text by places -/
/-- the j-th statement of a class's body -/
def inClass (s : Stmt) (j : Nat) : Stmt := match s with
  | .ClassDef _ _ _ body _ _ _ _ _ _ _ => body.getD j (.Pass ⟨0, 0, 0, 0⟩)
  | _ => .Pass ⟨0, 0, 0, 0⟩
def defArgs (s : Stmt) : Arguments := match s with
  | .FunctionDef _ a _ _ _ _ _ _ _ _ => a
  | _ => { posonlyargs := [], args := [], vararg := none, kwonlyargs := [], kw_defaults := [], kwarg := none, defaults := [] }
def defBody (s : Stmt) : List Stmt := match s with
  | .FunctionDef _ _ b _ _ _ _ _ _ _ => b
  | _ => []
def defScope (s : Stmt) : Scope := match s with
  | .FunctionDef _ _ _ _ _ _ sc _ _ _ => sc
  | _ => { kind := .function, names := [], isGenerator := false, isCoroutine := false }

/-! ### no exception leaves a def -/
abbrev CX0 : CXT := fun _ _ _ _ _ _ => False
abbrev E0 : XK := fun _ _ _ => False
theorem pass0 {X : Cx} : Passes CX0 X E0 := fun _ _ _ _ _ _ _ h => h.elim

/-! ### a def (or method) of the text as it stands behind the top -/
structure Fun (K : PySem.W.Frag) (x qual : Str) (st : Stmt) (f : Addr) (fd : FuncData) : Prop where
  ex : ∃ (oc : Value) (od : Option Addr) (kV doc pm : Value) (an : Option Addr) (cdv ct : Value) (osl : Array (Option Value)),
    fd = PySem.W.fnOf x qual (defArgs st) (defBody st) (defScope st) .none kV doc pm an cdv ct ∧ K.lookup f = some ⟨oc, od, .func fd, osl⟩ ∧ PySem.W.codeIn K cdv qual = true
  kp : PySem.W.keepIn K (.ref f) = true
section
variable {P : Program} {w : World} {K : PySem.W.Frag} {mg : Str → Option Value} {base : Heap}
/-- THE RULE for a def: its body as a term of rules, and the reading of that term -/
theorem Fun.ok {x qual : Str} {st : Stmt} {f : Addr} {fd : FuncData} {N ps : List Str} {k : Nat} {sp : Sp} (F : Fun K x qual st f fd) (S : FnScope N ps (defScope st)) (len : ∀ vs H Q E, sp vs H Q E → vs.length = ps.length)
    (hbody : ∀ (cdv : Value) (A : Around) (outer : List Env) (s : Shared) (H : Hp) (vs : List V) (Q : VK) (E : XK), Room k (A.deeper (envOfC qual (defScope st) s.heap.objs.size f cdv)) → sp vs H Q E →
      ∃ t, PSs (cxOf CX0 P w K mg base N qual (defScope st) f cdv A outer s H E).nox (defBody st) t ∧ t { nx := fun _ H' => Q .non H', rt := Q } (start N vs) H) : FnOk P w K mg base CX0 (k + 1) f fd ps sp := by
  obtain ⟨oc, od, kV, doc, pm, an, cdv, ct, osl, rfl, lk, hcd⟩ := F.ex
  refine fn_of lk hcd S len fun A outer s H vs Q E hr hsp => ?_
  obtain ⟨t, h, q⟩ := hbody cdv A outer s H vs Q E hr hsp
  exact ⟨t, h.nox, q⟩
/-- how its arguments bind (no defaults): h is «fun _ _ _ _ _ _ us hl => match us, hl with | [_, _], _ => rfl», one _ a parameter -/
theorem Fun.binds {x qual : Str} {st : Stmt} {f : Addr} {fd : FuncData} {ps : List Str} (F : Fun K x qual st f fd)
    (h : ∀ (kV doc pm : Value) (an : Option Addr) (cdv ct : Value) (us : List Value), us.length = ps.length → bindArgs (PySem.W.fnOf x qual (defArgs st) (defBody st) (defScope st) .none kV doc pm an cdv ct) ⟨us, []⟩ = pure (ps.zip us)) : Binds K fd ps [] := by
  obtain ⟨oc, od, kV, doc, pm, an, cdv, ct, osl, rfl, lk, hcd⟩ := F.ex
  exact .all (h kV doc pm an cdv ct)
theorem fun_mk {x qual : Str} {st : Stmt} {f : Addr} {oc : Value} {od an : Option Addr} {osl : Array (Option Value)} {kV doc pm cdv ct : Value} (l : K.lookup f = some ⟨oc, od, .func (PySem.W.fnOf x qual (defArgs st) (defBody st) (defScope st) .none kV doc pm an cdv ct), osl⟩)
    (c : PySem.W.codeIn K cdv qual = true) (k : PySem.W.keepIn K (.ref f) = true) : Fun K x qual st f (PySem.W.fnOf x qual (defArgs st) (defBody st) (defScope st) .none kV doc pm an cdv ct) := ⟨⟨oc, od, kV, doc, pm, an, cdv, ct, osl, rfl, l, c⟩, k⟩
end
theorem hu_of {A : Around} {k : Nat} (hr : Room k A) : A.units + 1 < cLine := Nat.lt_of_le_of_lt (Nat.add_le_add_left (by decide : 1 ≤ 64) _) hr.units

/-! ### expressions in short: the name that stands in the i-th slot -/
section
variable {X : Cx}
theorem pv (i : Nat) {x : Str} {pos : Pos} (hN : X.N[i]? = some x := by rfl) (hv : Vis X.env.scope x := by first | exact Or.inl rfl | exact Or.inr (Or.inl rfl) | exact Or.inr (Or.inr rfl)) (hd : (x == ("__debug__" : Str)) = false := by decide)
    (hcd : (x == ("__classdict__" : Str)) = false := by decide) : PE X (.Name x pos) (tVar i) := pe_var hN hv hd hcd
end

/-! ### tests -/
theorem iteF {A B : Prop} (h : B) : if false = true then A else B := by
  rw [if_neg Bool.false_ne_true]
  exact h
theorem iteT {A B : Prop} (h : A) : if true = true then A else B := by
  rw [if_pos rfl]
  exact h
theorem ite2 {c A B : Prop} [Decidable c] (h1 : c → A) (h2 : ¬ c → B) : if c then A else B := by
  by_cases h : c
  · rw [if_pos h]
    exact h1 h
  · rw [if_neg h]
    exact h2 h

/-! ### heaps -/
/-- all that was tracked is as it was -/
def Same (H H' : Hp) : Prop := ∀ b o, H b = some o → H' b = some o
theorem Same.trans {H H1 H2 : Hp} (a : Same H H1) (b : Same H1 H2) : Same H H2 := fun c o h => b c o (a c o h)
theorem Same.free {H H' : Hp} (e : Same H H') {l : Addr} (h : H' l = Option.none) : H l = Option.none := by
  cases q : H l with
  | none => rfl
  | some o =>
    rw [e l o q] at h
    cases h
theorem Same.seq {K : PySem.W.Frag} {H H' : Hp} {a : Addr} {xs : List V} (e : Same H H') (h : SqL K H a xs) : SqL K H' a xs := by
  rcases h with (h | ⟨o, h⟩) | h
  · exact .inl (.inl (e _ _ h))
  · exact .inl (.inr ⟨o, e _ _ h⟩)
  · exact .inr h

end L2

set_option maxHeartbeats 4000000
namespace L2
open PySem PySem.Spec PyProof.Rows

/-! ### an exception in flight -/
theorem ObjOk.is {P : Program} {w : World} {H : Hp} {h : Heap} {a : Addr} {o : HO} (x : ObjOk P w H h a o) : ∃ ob, h.get? a = some ob := by
  cases o with
  | lst xs => obtain ⟨_, _, _, _, q⟩ := x; exact ⟨_, q⟩
  | tup xs => obtain ⟨_, _, _, ob, q, _⟩ := x; exact ⟨_, q⟩
  | dK kvs => obtain ⟨_, _, _, _, ob, _, _, q, _⟩ := x; exact ⟨_, q⟩
  | dT kvs => obtain ⟨_, _, _, _, ob, _, _, q, _⟩ := x; exact ⟨_, q⟩
  | set S n => obtain ⟨ob, _, _, _, q, _⟩ := x; exact ⟨_, q⟩
  | ins C dx fs => obtain ⟨_, _, _, q, _⟩ := x; exact ⟨_, q⟩
  | own y => exact x
  | xd fs => obtain ⟨_, ⟨_, _, _, q, _⟩, _⟩ := x; exact ⟨_, q⟩
  | rng lo hi => obtain ⟨_, _, _, q⟩ := x; exact ⟨_, q⟩
  | frz ob u => obtain ⟨q, _⟩ := x; exact ⟨_, q⟩
  | tbl ps => exact ⟨_, (show h.get? a = some _ from x)⟩
  | met f y => exact ⟨_, (show h.get? a = some _ from x)⟩
  | ext φ => obtain ⟨_, q, _⟩ := x; exact q

structure Fly (P : Program) (w : World) (outer : List Env) (H : Hp) (h : Heap) (ea : Addr) (cls a0 : Value) (H' : Hp) (B h' : Heap) : Prop where
  fly : Heap.FlyingW B outer ea cls a0 h'
  hok : HOk P w H' B
  new : h.get? ea = none
  keepB : ∀ b o, h.get? b = some o → H b = none → b ∉ frs outer → B.get? b = some o
  slot : ∀ b o, h.get? b = some o → b ∈ frs outer → ∃ sl, h'.get? b = some { o with slots := sl }
  free : ∀ b o, h.get? b = some o → H b = none → H' b = none
  thereB : ∀ b o, h.get? b = some o → b ∉ frs outer → ∃ o', B.get? b = some o'
  tups : ∀ b xs, H b = some (.tup xs) → H' b = some (.tup xs)
  frzs : ∀ b o u, H b = some (.frz o u) → H' b = some (.frz o u)
  tbls : ∀ b ps, H b = some (.tbl ps) → ∃ more, H' b = some (.tbl (ps ++ more))

section
variable {P : Program} {w : World} {outer : List Env} {H H' : Hp} {h h' h2 B : Heap} {ea : Addr} {cls a0 : Value}
theorem Fly.freeE (F : Fly P w outer H h ea cls a0 H' B h') : H' ea = none := by
  cases q : H' ea with
  | none => rfl
  | some o =>
    obtain ⟨ob, z⟩ := (F.hok ea o q).is
    rw [F.fly.2.1] at z
    cases z
theorem Fly.later (F : Fly P w outer H h ea cls a0 H' B h') (fl : Heap.FlyingW B outer ea cls a0 h2) (up : h'.UpToSlots h2) : Fly P w outer H h ea cls a0 H' B h2 where
  fly := fl
  hok := F.hok
  new := F.new
  keepB := F.keepB
  slot := fun b o q hb => by
    obtain ⟨sl, z⟩ := F.slot b o q hb
    obtain ⟨_, o', z', nf⟩ := F.fly.2.2.1.mem hb
    rw [z] at z'
    cases z'
    obtain ⟨sl', z2⟩ := up b _ z nf
    exact ⟨sl', z2⟩
  free := F.free
  thereB := F.thereB
  tups := F.tups
  frzs := F.frzs
  tbls := F.tbls
theorem Fly.un (F : Fly P w outer H h ea cls a0 H' B h') : Un (frs outer) [] H H' h h' where
  keep := fun b o q n hb _ => F.fly.1 b o (F.keepB b o q n hb)
  slot := fun b o q _ hb _ => F.slot b o q hb
  free := fun b o q n _ => F.free b o q n
  there := fun b o q _ => by
    by_cases hb : b ∈ frs outer
    · obtain ⟨sl, z⟩ := F.slot b o q hb
      exact ⟨_, z⟩
    · obtain ⟨o', z⟩ := F.thereB b o q hb
      exact ⟨o', F.fly.1 b o' z⟩
  tups := F.tups
  frzs := F.frzs
  tbls := F.tbls
theorem Fly.hokN (F : Fly P w outer H h ea cls a0 H' B h') : HOk P w H' h' := F.hok.kept F.fly.1
end

def CXE (P : Program) (w : World) : CXT := fun outer H s E e s' => ∃ (ea : Addr) (cls a0 : Value) (H' : Hp) (B : Heap),
  e = Value.ref ea ∧ s'.os = s.os ∧ AllBare s'.gens ∧ Fly P w outer H s.heap ea cls a0 H' B s'.heap ∧ E cls none H'

/-! ### an exception is made and leaves its def -/
def RaisesTo (X : Cx) (C : Addr) (R : Hp → Prop) : Prop :=
  ∀ (pins : List (Addr × Obj)) (σ : St) (H : Hp) (s : Shared) (h' : Heap) (e : Addr) (vs : List Value), Inv X pins σ H s → Heap.MadeExcOf s.heap h' e (.ref C) vs → R H → X.xe (.ref e) { s with heap := h' }

theorem frs_cons {env : Env} {outer : List Env} {L : Addr} (hf : env.frame = some L) : frs (env :: outer) = L :: frs outer := by
  unfold frs
  rw [List.filterMap_cons, hf]

section
variable {P : Program} {w : World} {K : PySem.W.Frag} {mg : Str → Option Value} {base : Heap} {N : List Str} {qual : Str} {scope : Scope} {f : Addr} {cd : Value} {A : Around} {outer : List Env} {s₀ : Shared} {H₀ : Hp} {E : XK}

theorem raises_here {C : Addr} : RaisesTo (cxOf (CXE P w) P w K mg base N qual scope f cd A outer s₀ H₀ E) C (fun H => E (.ref C) none H) := by
  intro pins σ H s h' e vs I hx hE
  have stk : s.heap.FunFrames (PySem.W.hideAll s.heap (frs (envOfC qual scope s₀.heap.objs.size f cd :: outer))) (envOfC qual scope s₀.heap.objs.size f cd :: outer) :=
    PySem.W.funFrames_hide I.stack fun env he a ha => List.mem_filterMap.mpr ⟨env, he, ha⟩
  have nof : ∀ b, (H b).isSome = true → b ∉ frs (envOfC qual scope s₀.heap.objs.size f cd :: outer) := fun b hb z => by
    rw [I.stkFree b z] at hb
    cases hb
  have low : ∀ b o, s₀.heap.get? b = some o → b ∉ frs outer → b ∉ frs (envOfC qual scope s₀.heap.objs.size f cd :: outer) := fun b o q hb z => by
    rw [frs_cons (L := s₀.heap.objs.size) rfl] at z
    rcases List.mem_cons.mp z with z | z
    · rw [z] at q
      exact absurd (Heap.lt_size q) (Nat.lt_irrefl _)
    · exact hb z
  show wpAny _ _ (leaving _ (.ref e)) _ _ _
  refine wpAny_leaves_madeW (base := PySem.W.hideAll s.heap (frs (envOfC qual scope s₀.heap.objs.size f cd :: outer))) (h := s.heap) (outer := outer) I.ok.frames rfl (fun b o q => PySem.W.of_hideAll _ q) stk hx fun h2 t x1 x2 x3 x4 => ?_
  refine ⟨e, .ref C, .ref t, H, _, rfl, I.os, I.bare, ⟨x1, fun a o q => ?_, ?_, fun b o q n hb => ?_, fun b o q hb => ?_, fun b o q n => I.base.free b o q n (by intro z; cases z), fun b o q hb => ?_, I.base.tups, I.base.frzs, I.base.tbls⟩, hE⟩
  · refine (I.hok a o q).stay (fun b u hb r => PySem.W.hideAll_get _ r (nof b ?_)) (fun _ z => z) fun _ _ z => z
    rcases hb with rfl | hb
    · rw [q]; rfl
    · rw [hb]; rfl
  · cases q : s₀.heap.get? e with
    | none => rfl
    | some o =>
      obtain ⟨o', z⟩ := I.base.there e o q (by intro z; cases z)
      rw [hx.new] at z
      cases z
  · exact PySem.W.hideAll_get _ (I.base.keep b o q n hb (by intro z; cases z)) (low b o q hb)
  · obtain ⟨sl, z⟩ := I.base.slot b o q (I.ok.frf b hb) hb (by intro z; cases z)
    obtain ⟨_, o', z', nf⟩ := I.funs.mem hb
    rw [z] at z'
    cases z'
    obtain ⟨sl', z2⟩ := x4 b _ (hx.keeps b _ z) nf
    exact ⟨sl', z2⟩
  · obtain ⟨o', z⟩ := I.base.there b o q (by intro z; cases z)
    exact ⟨o', PySem.W.hideAll_get _ z (low b o q hb)⟩

end
end L2

set_option maxHeartbeats 4000000
namespace L2
open PySem PySem.Spec PyProof.Rows

/-! ### raise C(e): an own class under ValueError -/
abbrev veTail : List Value := [.type "ValueError", .type "Exception", .type "BaseException", .type "object"]
def ExcIs (K : PySem.W.Frag) (C : Addr) : Prop := PySem.W.excIn K C veTail "ValueError.__new__" = true

theorem exc_parts {K : PySem.W.Frag} {h : Heap} {C : Addr} (X : K.In h) (q : ExcIs K C) :
    ∃ bm N nm qn bs hdct sn sub ab col dd k0 k1 k2 k3 k5 mN, h.get? C = some (excClassObj nm qn C N bs bm hdct sn sub ab col dd k0 k1 k2 k3 k5 "ValueError.__new__") ∧ h.Ns N mN ∧ mN "__init__" = none ∧ OwnTail h veTail bm := by
  unfold ExcIs PySem.W.excIn at q
  split at q
  · next dd cd sl ho =>
    split at q
    · next C' bm k0 k1 k2 k3 n k5 hm hs =>
      simp only [Bool.and_eq_true, beq_iff_eq, Bool.not_eq_true'] at q
      obtain ⟨⟨⟨⟨⟨e1, e2⟩, e3⟩, e4⟩, e5⟩, e6⟩ := q
      subst e1
      subst e2
      obtain ⟨nm, bs, mro, ns, qn, hd, sn, sub, ab, col, del⟩ := cd
      dsimp only at hm e3 e5 e6
      subst hm
      subst e3
      have hsl : sl = #[k0, k1, k2, k3, some (.builtin "ValueError.__new__"), k5] := by
        cases sl with
        | mk l =>
          have hs' : l = [k0, k1, k2, k3, some (.builtin "ValueError.__new__"), k5] := hs
          rw [hs']
      subst hsl
      exact ⟨bm, ns, nm, qn, bs, hd, sn, sub, ab, col, dd, k0, k1, k2, k3, k5, _, X _ _ ho, .of_isNs (PySem.W.isNs_of_in X e5), PySem.W.nsMap_none_of_in X e5 e6, PySem.W.tail_of_in X e4⟩
    · cases q
  · cases q

section
variable {X : Cx} {x : Str} {C : Addr} {R : Hp → Prop} {e₀ : Expr} {ta : TA} {np cpos pos : Pos}
def tRaise (ta : TA) (R : Hp → Prop) : TS := fun _ σ H => ta σ H fun vs H1 => vs.length ≤ sizeLine ∧ R H1
theorem ps_raise (hc : X.calm = true) (EC : ExcIs X.K C) (hg : Gl X x) (hm : X.mg x = some (.ref C)) (hR : RaisesTo X C R) (ha : PA X [e₀] ta)
    (he : starEach [e₀] X.env = [(false, eval e₀ X.env)] := by rfl) (hd : (x == ("__debug__" : Str)) = false := by decide) :
    PS X (.Raise (some (.Call (.Name x np) [e₀] [] cpos)) none pos) (tRaise ta R) := by
  intro pins s σ H D I h
  obtain ⟨tl, N, nm, q, bs, hdct, sn, sub, ab, col, dd, k0, k1, k2, k3, k5, mN, hC, hN, hni, T⟩ := exc_parts I.mod.kin EC
  refine wpAny_Raise_call_subT (C := C) (nm := nm) (q := q) (N := N) (bs := bs) (bm := tl) (hdct := hdct) (sn := sn) (sub := sub) (ab := ab) (col := col) (dd := dd) (k0 := k0) (k1 := k1) (k2 := k2) (k3 := k3) (k5 := k5)
    PySem.F.excBase_ValueError (mN := mN) (T.hasType PySem.F.excBase_ValueError.hasBase) (I.ok.hd hc) (by rw [he]; rfl) hni (ld_glob I hg hm ⟨rfl, ?_⟩ hd)
  have key := ha cpos pins s σ H _ I h
  rw [he] at key ⊢
  refine Calls.evalArgs_plain (wpAny_mono key (fun us s2 hq => ?_) fun _ _ z => z)
  obtain ⟨vs, H1, I1, rv, hl, hR1⟩ := hq
  refine ⟨rfl, ?_, I1.bk _ _ hC, hN.keeps I1.bk, T.keeps I1.bk, fun h' e hx => hR pins σ H1 s2 h' e _ I1 hx hR1⟩
  show us.length ≤ sizeLine
  rw [← rv.length]
  exact hl
end
end L2

set_option maxHeartbeats 4000000
namespace L2
open PySem PySem.Spec PyProof.Rows PySem.W PySem.Calls Builtin Builtin.ObjectAttr Builtin.Getset_descriptor

/-! ### isinstance(e, c), e a caught exception of an own class -/
structure ExcK (K : Frag) (C : Addr) : Prop where
  exc : ExcIs K C
  cl : (clsIn K C).isSome = true
  ga : findIn K (.ref C) "__getattribute__" = some (some (.builtin "BaseException.__getattribute__"))
  gh : findIn K (.ref C) "__getattr__" = some none
  ca : findIn K (.ref C) "__class__" = some (some (.builtin "object.__class__"))
  cg : specialIn K (.builtin "object.__class__") "__get__" = some (some (.builtin "getset_descriptor.__get__"))
  ct : takesIn K (.builtin "object.__class__") = some true
  mo : mroIn K C (.type "object") = some true
  mb : mroIn K C (.type "BaseException") = some true

def ExcAt (e C : Addr) (h : Heap) : Prop := ∃ o, h.get? e = some o ∧ o.cls = .ref C

section
variable {K : Frag} {e C : Addr}
theorem ExcAt.ty {M : Model} {h : Heap} (p : ExcAt e C h) : Looks M h (typeOf (.ref e)) (.ref C) := by
  obtain ⟨o, h1, h2⟩ := p
  exact h2 ▸ (Looks.ld h1).andThen .now

theorem exc_found {M : Model} {h : Heap} (X : K.In h) (T : ExcK K C) : Looks M h (find (.ref e) (.ref C) "__class__") (.bind (.builtin "getset_descriptor.__get__") (.builtin "object.__class__")) := by
  have L1 := looks_findIn (M := M) X T.ca
  have L2 := looks_specialIn (M := M) X T.cg
  have L3 := looks_takesIn (M := M) X T.ct
  refine L1.andThen (L2.andThen ?_)
  exact (show Looks M h (dataDescriptor? (some _) (some _)) (some (_, _)) from L3.andThen .now).andThen (Looks.tag .now)

variable {prog : Program} {w : World} {A : Around} {E : Value → Shared → Prop} {s : Shared} {R : Result → Shared → Prop}
theorem exc_class_get {tp : Value} (X : K.In s.heap) (T : ExcK K C) (p : ExcAt e C s.heap) (h : R (.ok (.ret (.ref C))) s) :
    codeAny (model prog w) A (.call (.builtin "getset_descriptor.__get__") ⟨[.builtin "object.__class__", .ref e, tp], []⟩) R s := by
  obtain ⟨hh, g, dr, t, os⟩ := s
  have La := p.ty (M := model prog w)
  have Lb := looks_mroIn (M := model prog w) X T.mo
  refine codeAny_call_builtin KF.slot_gs.plain KF.entry_gs (KF.slot_gs.check _ _ _ _ _ _ _ _ KF.type_class (KF.args_gs _ _ _) ?_)
  unfold Builtin.«getset_descriptor.__get__» descrGet
  rw [dga_obj]
  refine wpAny_bind (wpAny_pure ?_)
  unfold descrGetter descrCheckInstance descrNameAndClass isInstance
  simp only [KF.owner_class]
  repeat lk
  refine ⟨Code.quiet_builtin _ (by decide +kernel), codeAny_builtin KF.entry_class ?_⟩
  unfold Builtin.«object.__class__» shownTypeOf
  repeat lk
  exact h
end
end L2

set_option maxHeartbeats 4000000
namespace L2
open PySem PySem.Spec PyProof.Rows PySem.W PySem.Calls Builtin Builtin.ObjectAttr Builtin.Getset_descriptor
section
variable {K : Frag} {e C : Addr} {prog : Program} {w : World} {A : Around} {E : Value → Shared → Prop} {s : Shared} {R : Result → Shared → Prop}

theorem exc_ga_check {M : Model} {nameV : Value} {Q : Unit → Shared → Prop} (X : K.In s.heap) (T : ExcK K C) (p : ExcAt e C s.heap) (hq : Q () s) :
    wpAny M A (checkBuiltinCall "BaseException.__getattribute__" ⟨[.ref e, nameV], []⟩) Q E s := by
  have hk : builtinKind "BaseException.__getattribute__" = some .slot := by decide +kernel
  have hsp : splitId "BaseException.__getattribute__" = some ("BaseException", "__getattribute__") := by decide +kernel
  have ha := F.args_bexc_ga (.ref e) nameV
  have Li : Looks M s.heap (isInstance (.ref e) (.type "BaseException")) true := p.ty.andThen (looks_mroIn X T.mb)
  obtain ⟨hh, g, dr, t, os⟩ := s
  simp only [checkBuiltinCall, hk, hsp]
  refine wpAny_bind (Li.at ?_)
  repeat (first | wp_step)
  exact hq

theorem exc_ga_body {tk : Tok} {Q : Fin → Shared → Prop} (X : K.In s.heap) (T : ExcK K C) (p : ExcAt e C s.heap) (hq : Q (.done (.ret (.ref C))) s) :
    wpAny (model prog w) A (Builtin.«object.__getattribute__» ⟨[.ref e, .str "__class__" tk], []⟩) Q E s := by
  have La := p.ty (M := model prog w)
  have Lf := exc_found (M := model prog w) (e := e) X T
  obtain ⟨hh, g, dr, t, os⟩ := s
  unfold Builtin.«object.__getattribute__»
  repeat (first | with_reducible refine La.at ?_ | with_reducible refine Lf.at ?_ | wp_step)
  refine exc_class_get X T p ?_
  exact wpAny_pure hq

theorem exc_getclass {Q : Option Value → Shared → Prop} (X : K.In s.heap) (T : ExcK K C) (p : ExcAt e C s.heap) (h : Q (some (.ref C)) { s with toks := s.toks + 1 }) :
    wpAny (model prog w) A (getAttr? (.ref e) "__class__") Q E s := by
  have La := p.ty (M := model prog w)
  have Lga := looks_findIn (M := model prog w) X T.ga
  have Lgh := looks_findIn (M := model prog w) X T.gh
  have f3 := F.attr_ValueError.ga.bind (.ref e)
  have hx2 : (Value.builtin "BaseException.__getattribute__" == Value.builtin "object.__getattribute__") = false := by decide +kernel
  obtain ⟨hh, g, dr, t, os⟩ := s
  unfold getAttr? getAttrBy? getAttrBy
  refine wpAny_bind (wpAny_mkText (wpAny_bind (wpAny_attempt (wpAny_holding (wpAny_bind (La.at (wpAny_bind (Lga.at ?_))))))))
  dsimp only
  rw [if_neg (by rw [hx2]; simp)]
  unfold getAttrByItsOwn hookBefore
  refine wpAny_bind (Lgh.at ?_)
  refine wpAny_bind (wpAny_attempt (wpAny_holding ?_))
  unfold callGetattribute boundAndCalled
  rw [if_neg (by simp)]
  rw [f3]
  refine wpAny_bind (wpAny_pure ?_)
  refine wpAny_call (codeAny_call_builtin F.attr_ValueError.ga.plain F.entry_bexc_ga (exc_ga_check X T p (exc_ga_body X T p ?_)))
  refine wpAny_pure (wpAny_pure ?_)
  exact h

theorem kitx_exc (T : ExcK K C) : KitX K (.ref e) (.ref C) (ExcAt e C) where
  ty := fun _ _ _ p => p.ty
  it := fun _ _ X _ => by
    have z0 := T.cl
    unfold clsIn at z0
    split at z0
    · next c' d' cd' sl' ho =>
      intro A' Q' E' s' k q
      unfold isType loadHead
      exact wpAny_bind (wpAny_loadPart (k _ _ (X _ _ ho)) (wpAny_pure q))
    · cases z0
  ne := fun h tp dd its n sl X htp => by
    have z0 := T.cl
    refine Bool.eq_false_iff.mpr fun q => ?_
    have eq : C = tp := Value.ref.inj (beq_iff_eq.mp q)
    subst eq
    unfold clsIn at z0
    split at z0
    · next c' d' cd' sl' ho =>
      have z := (X _ _ ho).symm.trans htp
      cases z
    · cases z0
  ca := fun X p k => exc_getclass X T p k
end

/-! a caught exception in the abstract heap -/
def excO (e C : Addr) : HO := .ext (ExcAt e C)
theorem excO_ok {P : Program} {w : World} {H : Hp} {h : Heap} {e C : Addr} (p : ExcAt e C h) : ObjOk P w H h e (excO e C) := by
  refine ⟨p, ?_, fun h1 h2 q k => ?_⟩
  · obtain ⟨o, z, _⟩ := p
    exact ⟨o, z⟩
  · obtain ⟨o, z, c⟩ := q
    exact ⟨o, k o z, c⟩

section
variable {X : Cx}
/-- isinstance(x, c): a value of a kind that TyOf knows, or a caught exception -/
inductive IsC : V → Value → Prop where
  | ty (n : String) : IsC (.ty n) (.type n)
  | ref (a : Addr) : IsC (.ref a) (.ref a)
def rIsi (K : PySem.W.Frag) : List V → Hp → VK → Prop := fun xs H Q => ∃ x y c b, xs = [x, y] ∧ IsC y c ∧ ((∃ t, TyOf K H x t ∧ PySem.W.kitOne K t c = some b) ∨ ∃ e C, x = .ref e ∧ H e = some (excO e C) ∧ ExcK K C ∧ PySem.W.kitOne K (.ref C) c = some b) ∧ Q (.bl b) H
theorem call_isinst : CallR X (.builtin "isinstance") (rIsi X.K) := by
  intro pins s σ H xs us Q I r h
  obtain ⟨x, y, c, b, rfl, ry, hh, q⟩ := h
  obtain ⟨u, v, rfl, rx, rv⟩ := vals2 r
  have ec : v = c := by
    cases ry with
    | ty n => exact rv
    | ref a => exact rv
  subst ec
  rcases hh with ⟨t, ty, e⟩ | ⟨ea, C, rfl, he, T, e⟩
  · exact isinst_ok I rx ty e fun tk => ⟨.bl b, H, I.tok tk, rfl, q⟩
  · cases (show u = Value.ref ea from rx)
    obtain ⟨p, _⟩ := (show ObjOk X.prog X.w H s.heap ea (excO ea C) from I.hok ea _ he)
    exact kia_one (kitx_exc T) I.kIn p e (fun z => nomatch z) fun tk => ⟨.bl b, H, I.tok tk, rfl, q⟩
end
end L2

set_option maxHeartbeats 4000000
namespace L2
open PySem PySem.Spec PyProof.Rows

/-! ### try: .. except C as n: .. -/
theorem Inv.re {X Y : Cx} {pins pins' : List (Addr × Obj)} {σ : St} {H : Hp} {s : Shared} (I : Inv X pins σ H s) (ok : Y.Ok) (e1 : Y.prog = X.prog) (e2 : Y.w = X.w) (e3 : Y.N = X.N) (e4 : Y.s₀ = X.s₀) (e5 : Y.H₀ = X.H₀) (e6 : Y.env = X.env) (e7 : Y.outer = X.outer) (e8 : Y.ex = X.ex)
    (hp : ∀ p ∈ Y.pn ++ pins', p ∈ X.pn ++ pins) : Inv Y pins' σ H s := by
  obtain ⟨prog, w, K, mg, base, A, N, s₀, H₀, env, outer, stack, ex, fn, calm, pn, xe⟩ := X
  obtain ⟨prog', w', K', mg', base', A', N', s₀', H₀', env', outer', stack', ex', fn', calm', pn', xe'⟩ := Y
  dsimp only at e1 e2 e3 e4 e5 e6 e7 e8
  subst e1 e2 e3 e4 e5 e6 e7 e8
  exact ⟨ok, I.os, I.bare, I.base, I.loc, I.cell, I.free, I.freeC, fun p z => I.pin p (hp p z), I.hok, I.len⟩

abbrev Cx.try_ (X : Cx) (pn : List (Addr × Obj)) (xe : Value → Shared → Prop) : Cx := { X with pn := pn, xe := xe }
abbrev Cx.suite (X : Cx) (e : Value) : Cx := { X with A := X.A.mark (some e), calm := false, xe := fun _ _ => False }
theorem Cx.Ok.try_ {X : Cx} (ok : X.Ok) (pn : List (Addr × Obj)) (xe : Value → Shared → Prop) : (X.try_ pn xe).Ok :=
  ⟨ok.mod, ok.kind, ok.glob, ok.blt, ok.above, ok.inj, ok.has, ok.cab, ok.hd, ok.frames, ok.stk, ok.exf, ok.bs, ok.bsz, ok.noex, ok.exfs, ok.funs, ok.frf⟩
theorem Cx.Ok.suite {X : Cx} (ok : X.Ok) (e : Value) : (X.suite e).Ok :=
  ⟨ok.mod, ok.kind, ok.glob, ok.blt, ok.above, ok.inj, ok.has, ok.cab, fun z => (nomatch z), ok.frames, ok.stk, ok.exf, ok.bs, ok.bsz, ok.noex, ok.exfs, ok.funs, ok.frf⟩

/-- the exception is tracked from now on -/
theorem Fly.laid {P : Program} {w : World} {outer : List Env} {H H' : Hp} {h h' B : Heap} {ea C : Addr} {a0 : Value} (F : Fly P w outer H h ea (.ref C) a0 H' B h') :
    Un (frs outer) [] H (upd H' ea (excO ea C)) h h' ∧ HOk P w (upd H' ea (excO ea C)) h' := by
  have nu := F.un
  have fe := F.freeE
  refine ⟨⟨nu.keep, nu.slot, fun b o q n hx => ?_, nu.there, fun b xs q => ?_, fun b o u q => ?_, fun b ps q => ?_⟩, fun b u q => ?_⟩
  · rw [upd_ne (fun z => by rw [z, F.new] at q; cases q)]
    exact nu.free b o q n hx
  · have z := nu.tups b xs q
    rw [upd_ne (ne_of_none z fe)]
    exact z
  · have z := nu.frzs b o u q
    rw [upd_ne (ne_of_none z fe)]
    exact z
  · obtain ⟨m, z⟩ := nu.tbls b ps q
    exact ⟨m, by rw [upd_ne (ne_of_none z fe)]; exact z⟩
  · by_cases hb : b = ea
    · subst hb
      rw [upd_same] at q
      cases q
      obtain ⟨o, z, c⟩ := F.fly.there
      exact excO_ok ⟨o, z, c⟩
    · rw [upd_ne hb] at q
      exact (F.hokN b u q).stay (fun _ _ _ z => z) (fun c z => by rw [upd_ne (ne_of_none z fe)]; exact z) fun c xs z => by rw [upd_ne (ne_of_none z fe)]; exact z

/-- what is wanted of an exception of the try's body: its class is one of the clause's; then the suite, in a frame of which nothing is known but the name -/
def tryE (K : PySem.W.Frag) (cv : Value) (i n : Nat) (ts : TS) (D : Ends) : XK := fun cls _ H => ∃ C, cls = .ref C ∧ PySem.W.exmOne K cls cv = some true ∧
  ∀ ea, H ea = none → ts { nx := fun σ H' => D.nx (σ.set i none) H', rt := D.rt, bk := fun σ H' => D.bk (σ.set i none) H', ct := fun σ H' => D.ct (σ.set i none) H' } ((List.replicate n none).set i (some (.ref ea))) (upd H ea (excO ea C))
def tTry (tb : XK → TS) (K : PySem.W.Frag) (cv : Value) (i n : Nat) (ts : TS) : TS := fun D σ H => tb (tryE K cv i n ts D) D σ H

section
variable {X : Cx}
/-- the clause's name goes -/
theorem name_goes {A : Around} {E : Value → Shared → Prop} {pins : List (Addr × Obj)} {σ : St} {H : Hp} {s : Shared} {i : Nat} {x : Str} {pos : Pos} {Q : Unit → Shared → Prop} (I : Inv X pins σ H s) (hN : X.N.Nodup) (hi : X.N[i]? = some x) (hx : X.env.scope.names.lookup x = some .local)
    (h : ∀ s', Inv X pins (σ.set i none) H s' → Q () s') : wpAny (model X.prog X.w) A (do bindName X.env x .none; unbindBehindTheSuite X.env x pos) Q E s := by
  obtain ⟨m, hn, hl⟩ := id I.loc
  have hcls : (X.env.scope.kind == .class || (X.env.scope.kind == .module && X.env.locals != X.env.globals)) = false := by rw [I.ok.kind]; rfl
  refine wpAny_nameGoes_keeps hx hn hcls fun h' v hn' hs => ?_
  obtain ⟨oL, _, _, hoL, _⟩ := id hn
  have neL : ∀ b o, X.s₀.heap.get? b = some o → b ≠ X.env.locals := fun b o q => Nat.ne_of_lt (Nat.lt_of_lt_of_le (Heap.lt_size q) I.ok.above)
  refine h _ ⟨I.ok, I.os, I.bare, ⟨fun b o q n hb he => (hs.2 b (neL b o q)).trans (I.base.keep b o q n hb he), fun b o q n hb he => ?_, I.base.free, fun b o q he => ?_, I.base.tups, I.base.frzs, I.base.tbls⟩,
    ⟨_, hn', fun j y v' e1 e2 e3 => ?_⟩, fun y c q => ?_, I.free, I.freeC, fun p hp => ?_, fun b ob q => ?_, by simpa using I.len⟩
  · obtain ⟨sl, z⟩ := I.base.slot b o q n hb he
    exact ⟨sl, (hs.2 b (neL b o q)).trans z⟩
  · obtain ⟨o', z⟩ := I.base.there b o q he
    exact ⟨o', (hs.2 b (neL b o q)).trans z⟩
  · by_cases hj : j = i
    · subst hj
      have hiσ : j < σ.length := by rw [I.len]; exact (List.getElem?_eq_some_iff.mp hi).1
      rw [List.getElem?_set_self hiσ] at e2
      cases e2
    · rw [List.getElem?_set_ne (Ne.symm hj)] at e2
      obtain ⟨u', r', z⟩ := hl j y v' e1 e2 e3
      refine ⟨u', r', ?_⟩
      rcases z with ⟨k, z⟩ | ⟨k, c, z, z2⟩
      · refine .inl ⟨k, ?_⟩
        have ny : y ≠ x := fun w => hj (nodup_ix hN e1 (w ▸ hi))
        show (if y = x then v else m y) = some u'
        rw [if_neg ny]
        exact z
      · exact .inr ⟨k, c, z, z2.sameBut hs (I.cne y c z)⟩
  · obtain ⟨w', z⟩ := I.cell y c q
    exact ⟨w', z.sameBut hs (I.cne y c q)⟩
  · obtain ⟨e, n, ne, nf, d⟩ := I.pin p hp
    exact ⟨(hs.2 p.1 ne).trans e, n, ne, nf, d⟩
  · refine (I.hok b ob q).stay (fun c w' hc r => (hs.2 c ?_).trans r) (fun _ r => r) fun _ _ r => r
    rintro rfl
    rcases hc with rfl | hc
    · rw [I.free] at q; cases q
    · rw [I.free] at hc; cases hc

theorem ps_try {body : List Stmt} {b₀ : Stmt} {suite : List Stmt} {x n : Str} {np hpos pos : Pos} {i : Nat} {tb : XK → TS} {ts : TS} {cv : Value} (hnx : X.xe = fun _ _ => False) (hN : X.N.Nodup) (hi : X.N[i]? = some n) (hx : X.env.scope.names.lookup n = some .local)
    (hst : X.stack = X.env :: X.outer ∧ X.env.frame = some X.env.locals) (hg : Gl X x) (hm : X.mg x = some cv)
    (hb : ∀ (pn : List (Addr × Obj)) (xe : Value → Shared → Prop) (E : XK), Passes (CXE X.prog X.w) (X.try_ pn xe) E → PSs (X.try_ pn xe) body (tb E))
    (hs : ∀ e, PSs (X.suite e) (b₀ :: suite) ts) (hd : (x == ("__debug__" : Str)) = false := by decide) :
    PS X (.Try body [.ExceptHandler (some (.Name x np)) (some n) (b₀ :: suite) hpos] [] [] pos) (tTry tb X.K cv i X.N.length ts) := by
  intro pins s σ H D I h
  rw [hnx]
  refine wpAny_Try_except ?_
  refine wpAny_mono (hb (X.pn ++ pins) (fun e s' => ∃ pins' σ' H0 s0, Inv (X.try_ (X.pn ++ pins) fun _ _ => False) pins' σ' H0 s0 ∧ CXE X.prog X.w X.stack H0 s0 (tryE X.K cv i X.N.length ts D) e s') _
    (fun pins' σ' H0 s0 e s' J hc => ⟨pins', σ', H0, s0, J.re (J.ok.try_ _ _) rfl rfl rfl rfl rfl rfl rfl rfl fun p z => z, hc⟩) [] s σ H D
    (I.re (I.ok.try_ _ _) rfl rfl rfl rfl rfl rfl rfl rfl fun p z => by simpa using z) h) (fun f s1 q => ?_) fun e s1 q => ?_
  · have back : SP X pins D f s1 := by
      cases f with
      | next => obtain ⟨σ', H', J, q⟩ := q; exact ⟨σ', H', J.re I.ok rfl rfl rfl rfl rfl rfl rfl rfl fun p z => by simpa using z, q⟩
      | brk => obtain ⟨σ', H', J, q⟩ := q; exact ⟨σ', H', J.re I.ok rfl rfl rfl rfl rfl rfl rfl rfl fun p z => by simpa using z, q⟩
      | cont => obtain ⟨σ', H', J, q⟩ := q; exact ⟨σ', H', J.re I.ok rfl rfl rfl rfl rfl rfl rfl rfl fun p z => by simpa using z, q⟩
      | ret u => obtain ⟨v, σ', H', J, r, q⟩ := q; exact ⟨v, σ', H', J.re I.ok rfl rfl rfl rfl rfl rfl rfl rfl fun p z => by simpa using z, r, q⟩
    cases f with
    | next => exact wpAny_execs_nil back
    | brk => exact back
    | cont => exact back
    | ret u => exact back
  · obtain ⟨pins', σ', H0, s0, J, ea, cls, a0, H', B, rfl, os, bare, F, C, rfl, hex, hsu⟩ := q
    have fr : X.A.frames = some (X.env :: X.outer) := by rw [← hst.1]; exact I.ok.frames
    have F' := F
    rw [hst.1] at F'
    refine wpAny_looks_onW fr hst.2 F'.fly fun h4 held up4 => ?_
    refine wpAny_landsW held fun h5 fl5 up5 => ?_
    have F5 := F'.later fl5 (up4.trans up5)
    have mkI : ∀ (hh : Heap), Fly X.prog X.w (X.env :: X.outer) H0 s0.heap ea (.ref C) a0 H' B hh → Inv (X.suite (.ref ea)) (X.pn ++ pins) (List.replicate X.N.length none) (upd H' ea (excO ea C)) { s1 with heap := hh } := fun hh FF => by
      obtain ⟨un, hok⟩ := FF.laid
      rw [← hst.1] at un
      have J1 : Inv (X.try_ (X.pn ++ pins) fun _ _ => False) pins' σ' (upd H' ea (excO ea C)) { s1 with heap := hh } :=
        J.call' (s' := { s1 with heap := hh }) os un hok bare (fun b z => absurd z (by simp))
      have J2 : Inv (X.suite (.ref ea)) (X.pn ++ pins) σ' (upd H' ea (excO ea C)) { s1 with heap := hh } := J1.re (I.ok.suite _) rfl rfl rfl rfl rfl rfl rfl rfl fun p z => by
        rcases List.mem_append.mp z with z | z
        · exact List.mem_append_left _ (List.mem_append_left _ z)
        · exact List.mem_append_left _ z
      refine J2.weak (by rw [List.length_replicate, J2.len]) fun k v z => ?_
      rw [List.getElem?_replicate] at z
      split at z <;> cases z
    have I5 := mkI h5 F5
    have up5' := up4.trans up5
    refine wpAny_handleBy_cons (codeAny_handlers_test (env := X.env) (ld_glob (X := X.suite (.ref ea)) I5 hg hm ?_ hd)) (by intro z; cases z)
    have Lm : PySem.W.Looks (model X.prog X.w) h5 (excMatches (.ref ea) cv) true := by
      refine PySem.W.exm_one I5.kIn ?_ hex
      obtain ⟨o, z, c⟩ := fl5.there
      exact ExcAt.ty ⟨o, z, c⟩
    refine Lm.at ?_
    refine codeAny_handlers_suite_as ?_
    refine lands_againW fl5 fun h6 fl6 up6 => ?_
    have I6 := mkI h6 (F5.later fl6 up6)
    refine store_ok (X := X.suite (.ref ea)) I6 hN hi (Or.inl hx) (v := .ref ea) rfl (fun s7 I7 => ?_) (.inr hx)
    refine wpAny_mono (hs (.ref ea) (X.pn ++ pins) s7 _ _ { nx := fun σ H' => D.nx (σ.set i none) H', rt := D.rt, bk := fun σ H' => D.bk (σ.set i none) H', ct := fun σ H' => D.ct (σ.set i none) H' } I7 (hsu ea F.freeE)) (fun f s8 q => ?_) fun _ _ z => z.elim
    have bk : ∀ {σ8 : St} {H8 : Hp} {s9 : Shared}, Inv (X.suite (.ref ea)) (X.pn ++ pins) σ8 H8 s9 → Inv X pins σ8 H8 s9 := fun J => J.re I.ok rfl rfl rfl rfl rfl rfl rfl rfl fun p z => by
      rcases List.mem_append.mp z with z | z
      · exact List.mem_append_left _ z
      · exact List.mem_append_right _ (List.mem_append_right _ z)
    cases f with
    | next => obtain ⟨σ8, H8, I8, q⟩ := q; exact name_goes (bk I8) hN hi hx fun s9 I9 => ⟨_, H8, I9, q⟩
    | brk => obtain ⟨σ8, H8, I8, q⟩ := q; exact name_goes (bk I8) hN hi hx fun s9 I9 => ⟨_, H8, I9, q⟩
    | cont => obtain ⟨σ8, H8, I8, q⟩ := q; exact name_goes (bk I8) hN hi hx fun s9 I9 => ⟨_, H8, I9, q⟩
    | ret u => obtain ⟨v, σ8, H8, I8, r, q⟩ := q; exact name_goes (bk I8) hN hi hx fun s9 I9 => ⟨v, _, H8, I9, r, q⟩
end
end L2

set_option maxHeartbeats 4000000
namespace L2
open PySem PySem.Spec PyProof.Rows

/-! ### [e for t in it if c]: the block's context -/
abbrev Cx.blk (X : Cx) (NB : List Str) (scope : Scope) (C : Addr) (s : Shared) (H : Hp) (fp : List Addr) (pn : List (Addr × Obj)) : Cx :=
  { X with N := NB, s₀ := s, H₀ := H, env := compEnv scope C X.env, outer := X.stack, ex := fp, fn := fun _ => false, pn := pn, xe := fun _ _ => False }

/-- the tests of a comprehension -/
def PTs (Y : Cx) (ifs : List Expr) (t : TT) : Prop :=
  ∀ (pins : List (Addr × Obj)) (s : Shared) (σ : St) (H : Hp) (Q : Bool → Hp → Prop), Inv Y pins σ H s → t σ H Q →
    wpAny (model Y.prog Y.w) Y.A (forIn ifs true fun c r => if r = true then do let ok ← isTrue c Y.env (eval c Y.env); pure (ForInStep.yield ok) else pure (ForInStep.yield r)) (TP Y pins σ Q) Y.xe s
def tYes : TT := fun _ H Q => Q true H
theorem pts_nil {Y : Cx} : PTs Y [] tYes := fun _ _ _ H _ I h => wpAny_tests_nil ⟨H, I, h⟩
theorem pts_one {Y : Cx} {c : Expr} {t : TT} (h : PT Y c t) : PTs Y [c] t := fun pins s σ H Q I hq => wpAny_tests_one (h pins s σ H Q I hq)

def tComp (nB : Nat) (wi : TI) (g : TG) (tc : TT) (te : TE) : TE := fun σ H Q => wi σ H fun J H1 => ∀ acc, H1 acc = none →
  ∃ W : Nat → Nat → List V → Hp → Prop, (∃ m, W 0 m [] (upd H1 acc (.lst []))) ∧ ∀ i m ys H, W i m ys H → H acc = some (.lst ys) ∧
    ((J.stop i H ∧ Q (.ref acc) H) ∨ (J.go i H ∧ ∀ x H', J.yld i H x H' → g x (List.replicate nB none) H' fun σ2 H2 => tc σ2 H2 fun b H3 =>
      if b = true then te σ2 H3 fun y H4 => H4 acc = some (.lst ys) ∧ ys.length < sizeLine ∧ ∃ m', m' < m ∧ W (i + 1) m' (ys ++ [y]) (upd H4 acc (.lst (ys ++ [y])))
      else ∃ m', m' < m ∧ W (i + 1) m' ys H3))

section
variable {X : Cx} {NB : List Str} {scope : Scope}
theorem blk_inv {pins : List (Addr × Obj)} {σ : St} {H : Hp} {s : Shared} {h4 : Heap} {tk : Nat} {fp : List Addr} (I : Inv X pins σ H s) (hk : scope.kind = .function) (hfree : ∀ x ∈ scope.names, x.2 ≠ .free) (hcell : ∀ x ∈ scope.names, x.2 ≠ .cell)
    (hf : ∀ b ∈ fp, FpOk X pins H b) (ho : ∀ b ∈ fp, b < s.heap.objs.size) {m : Str → Option Value} (hn : h4.Ns s.heap.objs.size m) (keep : ∀ b o, s.heap.get? b = some o → h4.get? b = some o) :
    Inv (X.blk NB scope s.heap.objs.size s H fp (X.pn ++ pins)) [] (List.replicate NB.length none) H { s with heap := h4, toks := tk } := by
  have stk : ∀ b, b ≠ X.env.locals → b ∉ X.fs → b ∉ frs X.stack := fun b h1 h2 z => (List.mem_cons.mp (I.stkSub b z)).elim h1 h2
  have nok : ∀ x k, scope.names.lookup x = some k → k ≠ .cell ∧ k ≠ .free := fun x k q => ⟨hcell (x, k) (PySem.mem_of_lookup q), hfree (x, k) (PySem.mem_of_lookup q)⟩
  refine ⟨⟨I.ok.mod, hk, I.ok.glob, I.ok.blt, Nat.le_refl _, fun x y c q => (nomatch q), fun x q => ?_, fun x c q => (nomatch q), I.ok.hd, I.ok.frames, .inl rfl, fun b hb => ⟨Nat.ne_of_lt (ho b hb), fun x c q => (nomatch q)⟩, I.bs, Nat.le_trans I.ok.bsz I.sz,
    fun b o q hb => ?_, fun b hb => stk b (hf b hb).2.1 (hf b hb).2.2.1, I.stack, I.stkFree⟩, rfl, I.bare, Un.kept keep, ⟨m, hn, fun i x v q1 q2 => ?_⟩, fun x c q => (nomatch q), I.hok.fresh (Nat.le_refl _), fun x c q => (nomatch q), fun p hp => ?_, I.hok.kept keep, ?_⟩
  · rcases q with q | q
    · exact absurd rfl (nok x _ q).1
    · exact absurd rfl (nok x _ q).2
  · rcases (hf b hb).2.2.2.1 with z | z
    · exact I.ok.noex b o q z
    · exact absurd (Nat.lt_of_lt_of_le (Heap.lt_size q) (Nat.le_trans I.ok.bsz z)) (Nat.lt_irrefl _)
  · rw [List.getElem?_replicate] at q2
    split at q2 <;> cases q2
  · have hp' : p ∈ X.pn ++ pins := by simpa using hp
    obtain ⟨q, n, ne, nf, d⟩ := I.pin p hp'
    exact ⟨keep _ _ q, n, Nat.ne_of_lt (Heap.lt_size q), stk _ ne nf, d⟩
  · rw [List.length_replicate]

theorem blk_back {pins : List (Addr × Obj)} {σ σ' : St} {H H' : Hp} {s s' : Shared} {h2 : Heap} {fp : List Addr} {pl : List (Addr × Obj)} (I : Inv X pins σ H s) (hf : ∀ b ∈ fp, FpOk X pins H b) (ho : ∀ b ∈ fp, b < s.heap.objs.size)
    (J : Inv (X.blk NB scope s.heap.objs.size s H fp (X.pn ++ pins)) pl σ' H' s') (hs : Heap.SameBut s.heap.objs.size s'.heap h2) : Inv X pins σ H' { s' with heap := h2 } := by
  have u := J.base
  have low : ∀ b o, s.heap.get? b = some o → b ≠ s.heap.objs.size := fun b o q => Nat.ne_of_lt (Heap.lt_size q)
  refine I.call' (s' := { s' with heap := h2 }) (ch := fp) J.os ⟨fun b o q n hb he => (hs.2 b (low b o q)).trans (u.keep b o q n hb he), fun b o q n hb he => ?_, u.free, fun b o q he => ?_, u.tups, u.frzs, u.tbls⟩ (fun b o q => ?_) J.bare fun b hb => ?_
  · obtain ⟨sl, z⟩ := u.slot b o q n hb he
    exact ⟨sl, (hs.2 b (low b o q)).trans z⟩
  · obtain ⟨o', z⟩ := u.there b o q he
    exact ⟨o', (hs.2 b (low b o q)).trans z⟩
  · refine (J.hok b o q).stay (fun c w' hc r => (hs.2 c ?_).trans r) (fun _ r => r) fun _ _ r => r
    have fr : H' s.heap.objs.size = none := J.free
    rintro rfl
    rcases hc with rfl | hc
    · rw [fr] at q; cases q
    · rw [fr] at hc; cases hc
  · obtain ⟨f0, f1, f2, f3, f4, f5⟩ := hf b hb
    exact ⟨f3, f1, f4, f5⟩

theorem pe_comp {elt tg iter : Expr} {ifs : List Expr} {pos : Pos} {wi : TI} {g : TG} {tc : TT} {te : TE} (hk : scope.kind = .function) (hfree : ∀ x ∈ scope.names, x.2 ≠ .free) (hcell : ∀ x ∈ scope.names, x.2 ≠ .cell)
    (hnames : ∀ x ∈ scope.names, x.2 = .local → scope.names.lookup x.1 = some .local) (hc : X.calm = true) (hi : PI X tg iter wi)
    (hg : ∀ C s H fp pn, PG (X.blk NB scope C s H fp pn) tg g) (ht : ∀ C s H fp pn, PTs (X.blk NB scope C s H fp pn) ifs tc) (he : ∀ C s H fp pn, PE (X.blk NB scope C s H fp pn) elt te)
    (hs : ∀ x, foldedSetIterable iter X.env x = pure x := by intro _; rfl) : PE X (.ListComp elt [⟨tg, iter, ifs, 0⟩] scope pos) (tComp NB.length wi g tc te) := by
  intro pins s σ H Q I h
  refine wpAny_ListComp hfree hk hnames (thn (hi pins s σ H _ I h) fun v s1 h1 => thn h1 fun itv s2 h2 => ?_) hs
  obtain ⟨it, fp, tn, J, H2, rfl, I2, T, st2, f2, h2⟩ := h2
  have lt2 : ∀ b ∈ fp, b < s2.heap.objs.size := fun b hb => by
    obtain ⟨o, q, _⟩ := T.obj 0 _ st2 b hb
    exact Heap.lt_size q
  refine wpAny_newObj_type ?_
  have hz : H2 s2.heap.objs.size = none := I2.hok.fresh (Nat.le_refl _)
  obtain ⟨W, ⟨m0, w0⟩, turn⟩ := h2 s2.heap.objs.size hz
  have I3 : Inv X pins σ (upd H2 s2.heap.objs.size (.lst [])) { s2 with heap := s2.heap.push { cls := .type "list", dict := none, data := .seq ([] : List Value).toArray } } :=
    I2.laid (t' := s2.toks) (fun b o q => Heap.get?_push_of_some _ q) (Nat.le_refl _) ⟨Nat.zero_le _, [], 0, .nil, Heap.get?_push_size _ rfl⟩
  generalize hs3 : ({ s2 with heap := s2.heap.push { cls := .type "list", dict := none, data := .seq ([] : List Value).toArray } } : Shared) = s3 at I3 ⊢
  have ups3 : ∀ b o, s2.heap.get? b = some o → s3.heap.get? b = some o := fun b o q => by rw [← hs3]; exact Heap.get?_push_of_some _ q
  have f3 : ∀ b ∈ fp, FpOk X pins (upd H2 s2.heap.objs.size (.lst [])) b := fun b hb => ⟨by rw [upd_ne (Nat.ne_of_lt (lt2 b hb))]; exact (f2 b hb).1, (f2 b hb).2⟩
  have lt3 : ∀ b ∈ fp, b < s3.heap.objs.size := fun b hb => by
    obtain ⟨o, q, _⟩ := T.obj 0 _ st2 b hb
    exact Heap.lt_size (ups3 b o q)
  refine wpAny_newFunctionEnv hcell (by intro y hy; simp at hy) (fun h4 hn4 hs4 => ?_) hk
  have keep4 : ∀ b o, s3.heap.get? b = some o → h4.get? b = some o := fun b o q => (hs4.2 b (Nat.ne_of_lt (Heap.lt_size q))).trans (Heap.get?_push_of_some _ q)
  have I4 := blk_inv (NB := NB) (tk := s3.toks + ([] : List (Str × Value)).length) I3 hk hfree hcell f3 lt3 hn4 keep4
  have st4 : tn 0 h4 := T.keep _ _ _ st2 fun b hb o q => keep4 b o (ups3 b o q)
  have fpY : ∀ {H' : Hp}, (∀ b ∈ fp, H' b = none) → ∀ b ∈ fp, FpOk (X.blk NB scope s3.heap.objs.size s3 (upd H2 s2.heap.objs.size (.lst [])) fp (X.pn ++ pins)) [] H' b := fun hn b hb => by
    obtain ⟨g0, g1, g2, g3, g4, g5⟩ := f3 b hb
    exact ⟨hn b hb, Nat.ne_of_lt (lt3 b hb), fun z => (List.mem_cons.mp (I3.stkSub b z)).elim g1 g2, .inl hb, fun x c q => (nomatch q), fun p hp => g5 p (by simpa using hp)⟩
  have loop : ∀ s5 : Shared, s5 = { s3 with heap := h4, toks := s3.toks + ([] : List (Str × Value)).length } → codeAny (model X.prog X.w) X.A (.compLoop (.ListComp elt [⟨tg, iter, ifs, 0⟩] scope pos) 0 (.ref it) (.ref s2.heap.objs.size) (compEnv scope s3.heap.objs.size X.env))
      (fun r s' => ∃ m, s'.heap.Ns s3.heap.objs.size m ∧ ∀ h', Heap.SameBut s3.heap.objs.size s'.heap h' → match r with
        | .ok _ => EP X pins σ Q (.ref s2.heap.objs.size) { s' with heap := h' }
        | .error x => wpAny (model X.prog X.w) X.A (passOn "comprehension.variables-let-go" x (compEnv scope s3.heap.objs.size X.env)) (EP X pins σ Q) X.xe { s' with heap := h' }) s5 := by
    rintro s5 rfl
    refine codeAny_loop rfl (fun n s' => ∃ i ys H', Inv (X.blk NB scope s3.heap.objs.size s3 (upd H2 s2.heap.objs.size (.lst [])) fp (X.pn ++ pins)) [] (List.replicate NB.length none) H' s' ∧ tn i s'.heap ∧ (∀ b ∈ fp, H' b = none) ∧ W i n ys H')
      (fun n s6 hI => ?_) m0 ⟨0, [], _, I4, st4, fun b hb => (f3 b hb).1, w0⟩
    obtain ⟨i, ys, H6, I6, st6, fr6, w6⟩ := hI
    show wpAny _ _ ((compTurn (.ListComp elt [⟨tg, iter, ifs, 0⟩] scope pos) 0 (.ref it) (.ref s2.heap.objs.size) (compEnv scope s3.heap.objs.size X.env)).onRaise (fun x => do noteFrame x (compEnv scope s3.heap.objs.size X.env); theTreesLotGoes x)) _ _ s6
    refine wpAny_noted ?_
    rw [compTurn_list]
    refine wpAny_bind (wpAny_standAt (wpAny_bind ?_))
    obtain ⟨hacc, alt⟩ := turn i n ys H6 w6
    rcases alt with ⟨stop, q⟩ | ⟨go, step⟩
    · refine thn (T.done (X.blk NB scope s3.heap.objs.size s3 (upd H2 s2.heap.objs.size (.lst [])) fp (X.pn ++ pins)) rfl rfl rfl hc i [] s6 _ H6 _ I6 (fpY fr6) st6 stop) fun r s7 ⟨hr, I7⟩ => ?_
      subst hr
      obtain ⟨m, hm, _⟩ := I7.loc
      exact wpAny_pure ⟨m, hm, fun h' hsb => ⟨.ref s2.heap.objs.size, H6, blk_back I3 f3 lt3 I7 hsb, rfl, q⟩⟩
    · refine thn (T.item (X.blk NB scope s3.heap.objs.size s3 (upd H2 s2.heap.objs.size (.lst [])) fp (X.pn ++ pins)) rfl rfl rfl hc i [] s6 _ H6 _ I6 (fpY fr6) st6 go) fun r s7 ⟨u, hr, h7⟩ => ?_
      subst hr
      refine wpAny_bind (thn h7 fun _ s8 ⟨x, H8, I8, r8, y8, st8, fr8⟩ => ?_)
      have I8' := I8.pinned (fpY fr8) (T.obj _ _ st8)
      have gp : ∀ {σ9 : St} {H9 : Hp} {s9 : Shared}, Inv (X.blk NB scope s3.heap.objs.size s3 (upd H2 s2.heap.objs.size (.lst [])) fp (X.pn ++ pins)) ([] ++ pinsAt fp s8.heap) σ9 H9 s9 → tn (i + 1) s9.heap ∧ ∀ b ∈ fp, H9 b = none := fun I9 =>
        ⟨T.keep _ _ _ st8 fun b hb o e => (I9.pin (b, o) (List.mem_append_right _ (List.mem_append_right _ (mem_pinsAt hb e)))).1, fun b hb => by
          obtain ⟨o, e, d⟩ := T.obj _ _ st8 b hb
          exact (I9.pin (b, o) (List.mem_append_right _ (List.mem_append_right _ (mem_pinsAt hb e)))).2.1⟩
      have wk : ∀ {σ9 : St} {H9 : Hp} {s9 : Shared}, Inv (X.blk NB scope s3.heap.objs.size s3 (upd H2 s2.heap.objs.size (.lst [])) fp (X.pn ++ pins)) ([] ++ pinsAt fp s8.heap) σ9 H9 s9 → Inv (X.blk NB scope s3.heap.objs.size s3 (upd H2 s2.heap.objs.size (.lst [])) fp (X.pn ++ pins)) [] (List.replicate NB.length none) H9 s9 := fun I9 =>
        I9.unpinned.weak (by rw [List.length_replicate, I9.len]) fun k v z => by
          rw [List.getElem?_replicate] at z
          split at z <;> cases z
      refine wpAny_bind (wpAny_mono (hg _ _ _ _ _ _ s8 _ H8 x u _ I8' r8 (step x H8 y8)) (fun _ s9 hq => ?_) fun _ _ z => z.elim)
      obtain ⟨σ9, H9, I9, q9⟩ := hq
      refine wpAny_bind (wpAny_mono (ht _ _ _ _ _ _ s9 σ9 H9 _ I9 q9) (fun ok s10 hq => ?_) fun _ _ z => z.elim)
      obtain ⟨H10, I10, q10⟩ := hq
      cases ok with
      | false =>
        rw [if_neg (by simp)] at q10
        obtain ⟨m', hm', w10⟩ := q10
        exact wpAny_pure ⟨rfl, m', hm', i + 1, ys, H10, wk I10, (gp I10).1, (gp I10).2, w10⟩
      | true =>
        rw [if_pos rfl] at q10
        refine wpAny_bind (wpAny_bind (wpAny_mono (he _ _ _ _ _ _ s10 σ9 H10 _ I10 q10) (fun y s11 hq => ?_) fun _ _ z => z.elim))
        obtain ⟨yv, H11, I11, ry, ha11, hl11, m', hm', w11⟩ := hq
        have mt := mt_append (X := X.blk NB scope s3.heap.objs.size s3 (upd H2 s2.heap.objs.size (.lst [])) fp (X.pn ++ pins)) ([] ++ pinsAt fp s8.heap) s11 σ9 H11 (.ref s2.heap.objs.size) [yv] (.ref s2.heap.objs.size) [y] (fun _ H' => W (i + 1) m' (ys ++ [yv]) H') I11 rfl (.cons ry .nil) ⟨_, ys, yv, rfl, rfl, ha11, hl11, w11⟩
        refine wpAny_bind (wpAny_mono mt (fun _ s12 hq => ?_) fun _ _ z => z.elim)
        obtain ⟨v12, H12, I12, _, w12⟩ := hq
        exact wpAny_pure (wpAny_pure ⟨rfl, m', hm', i + 1, _, H12, wk I12, (gp I12).1, (gp I12).2, w12⟩)
  exact codeAny_compStart_list (loop _ rfl) (T.self _ 0 _ _ _ st4 (loop _ rfl))
end
end L2

set_option maxHeartbeats 4000000
namespace L2
open PySem PySem.Spec PyProof.Rows

/-! ### == and != of things of any depth -/
mutual
inductive RdV (K : PySem.W.Frag) (H : Hp) : V → PyData → Prop where
  | non : RdV K H .non .none
  | bl (b : Bool) : RdV K H (.bl b) (.bool b)
  | int (i : Int) : RdV K H (.int i) (.int i)
  | str (x : Str) : RdV K H (.str x) (.str x)
  | lst {a : Addr} {xs : List V} {ds : List PyData} : SqL K H a xs → RdVs K H xs ds → RdV K H (.ref a) (.list ds)
  | tup {a : Addr} {xs : List V} {ds : List PyData} : SqT K H a xs → RdVs K H xs ds → RdV K H (.ref a) (.tuple ds)
inductive RdVs (K : PySem.W.Frag) (H : Hp) : List V → List PyData → Prop where
  | nil : RdVs K H [] []
  | cons {x : V} {d : PyData} {xs : List V} {ds : List PyData} : RdV K H x d → RdVs K H xs ds → RdVs K H (x :: xs) (d :: ds)
end

section
variable {X : Cx} {pins : List (Addr × Obj)} {σ : St} {H : Hp} {s : Shared}
mutual
theorem RdV.reads (I : Inv X pins σ H s) : ∀ {x : V} {d : PyData} {u : Value}, RdV X.K H x d → RelV x u → ∃ as, Reads s.heap u d as
  | _, _, _, .non, r => by cases (show _ = Value.none from r); exact ⟨_, .none⟩
  | _, _, _, .bl b, r => by cases (show _ = Value.bool b from r); exact ⟨_, .bool b⟩
  | _, _, _, .int i, r => by obtain ⟨t, q⟩ := (show ∃ t, _ = Value.int i t from r); cases q; exact ⟨_, .int i t⟩
  | _, _, _, .str x, r => by obtain ⟨t, q⟩ := (show ∃ t, _ = Value.str x t from r); cases q; exact ⟨_, .str x t⟩
  | _, _, _, @RdV.lst _ _ a xs ds hq hs, r => by
    cases (show _ = Value.ref a from r)
    obtain ⟨its, rv, p, _⟩ := I.list hq
    obtain ⟨as, ra⟩ := RdVs.reads I hs rv
    obtain ⟨o, ho, hc, n, hd⟩ := p.isList
    exact ⟨_, .list ho hc hd (by simpa using ra)⟩
  | _, _, _, @RdV.tup _ _ a xs ds hq hs, r => by
    cases (show _ = Value.ref a from r)
    obtain ⟨its, rv, p, _⟩ := I.tuple hq
    obtain ⟨as, ra⟩ := RdVs.reads I hs rv
    obtain ⟨o, ho, hc, n, hd⟩ := (show s.heap.IsTuple a its.toArray from p)
    exact ⟨_, .tuple ho hc hd (by simpa using ra)⟩
theorem RdVs.reads (I : Inv X pins σ H s) : ∀ {xs : List V} {ds : List PyData} {us : List Value}, RdVs X.K H xs ds → Vals xs us → ∃ as, ReadsAll s.heap us ds as
  | _, _, _, .nil, .nil => ⟨_, .nil⟩
  | _, _, _, .cons h hs, .cons r rs => by
    obtain ⟨as, ra⟩ := RdV.reads I h r
    obtain ⟨bs, rb⟩ := RdVs.reads I hs rs
    exact ⟨_, .cons ra rb⟩
end
end

section
variable {X : Cx}
def rEqD (K : PySem.W.Frag) : R2 := fun x y H Q => ∃ dx dy, RdV K H x dx ∧ RdV K H y dy ∧ SeqAt.shaped dx = true ∧ SeqAt.shaped dy = true ∧ Q (.bl (PyData.eqv dx dy)) H
def rNeD (K : PySem.W.Frag) : R2 := fun x y H Q => ∃ dx dy, RdV K H x dx ∧ RdV K H y dy ∧ SeqAt.shaped dx = true ∧ SeqAt.shaped dy = true ∧ Q (.bl (!PyData.eqv dx dy)) H
theorem op_eqD (hu : X.A.units + 64 < cLine) : OpR X (compareOp .Eq) (rEqD X.K) := by
  intro pins s σ H x y v u Q I rx ry h
  obtain ⟨dx, dy, hx, hy, sx, sy, q⟩ := h
  obtain ⟨as, ra⟩ := hx.reads I rx
  obtain ⟨bs, rb⟩ := hy.reads I ry
  exact SeqAt.compareEq_shaped ra rb sx sy hu ⟨.bl _, H, I, rfl, q⟩
theorem op_neD (hu : X.A.units + 64 < cLine) : OpR X (compareOp .NotEq) (rNeD X.K) := by
  intro pins s σ H x y v u Q I rx ry h
  obtain ⟨dx, dy, hx, hy, sx, sy, q⟩ := h
  obtain ⟨as, ra⟩ := hx.reads I rx
  obtain ⟨bs, rb⟩ := hy.reads I ry
  exact SeqAt.compareNe_shaped ra rb sx sy hu ⟨.bl _, H, I, rfl, q⟩
end
end L2

namespace PySem.SeqAt
open AutoSeq1 (wpAny_loadPart')
open MeetsSeq MeetsSeq2 MeetsSeq3
section
variable {A : Around} {s : Shared}
end
end PySem.SeqAt
namespace L2
open PySem PySem.Spec PyProof.Rows
section
variable {X : Cx}
end
end L2

namespace L2
open PySem PySem.Spec PyProof.Rows

/-! ### lists of pairs as tables -/
section
variable {κ : Type} [DecidableEq κ]
def valV (kvs : List (κ × V)) (k : κ) : Option V := (kvs.find? fun kv => decide (kv.1 = k)).map (·.2)
/-- in its place, or at the end -/
def putK (kvs : List (κ × V)) (k : κ) (v : V) : List (κ × V) :=
  if (kvs.any fun kv => decide (kv.1 = k)) = true then kvs.map (fun kv => if kv.1 = k then (kv.1, v) else kv) else kvs ++ [(k, v)]

theorem valV_pos {p : κ × V} {r : List (κ × V)} {k : κ} (e : p.1 = k) : valV (p :: r) k = some p.2 := by simp [valV, List.find?_cons, e]
theorem valV_neg {p : κ × V} {r : List (κ × V)} {k : κ} (e : ¬ p.1 = k) : valV (p :: r) k = valV r k := by simp [valV, List.find?_cons, e]
theorem valV_any (k : κ) : ∀ kvs : List (κ × V), (kvs.any fun kv => decide (kv.1 = k)) = (valV kvs k).isSome
  | [] => rfl
  | p :: r => by
    rw [List.any_cons]
    by_cases e : p.1 = k
    · simp only [valV_pos e, decide_eq_true e, Bool.true_or, Option.isSome_some]
    · rw [valV_neg e, decide_eq_false e, Bool.false_or]; exact valV_any k r
theorem length_putK (kvs : List (κ × V)) (k : κ) (v : V) : (putK kvs k v).length ≤ kvs.length + 1 := by
  unfold putK
  split
  · rw [List.length_map]; omega
  · rw [List.length_append, List.length_cons, List.length_nil]; omega
theorem putK_new {kvs : List (κ × V)} {k : κ} (v : V) (h : valV kvs k = none) : putK kvs k v = kvs ++ [(k, v)] := by
  unfold putK
  rw [valV_any, h]
  exact if_neg (by decide)

theorem RelO.isSome_eq {o : Option V} {u : Option Value} (r : RelO o u) : o.isSome = u.isSome := by
  cases o with
  | none => cases u with
    | none => rfl
    | some _ => exact (show False from r).elim
  | some _ => cases u with
    | none => exact (show False from r).elim
    | some _ => rfl
theorem RelO.getD {o : Option V} {u : Option Value} {d : V} {d' : Value} (r : RelO o u) (rd : RelV d d') : RelV (o.getD d) (u.getD d') := by
  cases o with
  | none => cases u with
    | none => exact rd
    | some _ => exact (show False from r).elim
  | some _ => cases u with
    | none => exact (show False from r).elim
    | some _ => exact r

/-- raw tables of the same keys -/
theorem KV.val {kvs : List (κ × V)} {vs : List (κ × Value)} (r : KV kvs vs) (k : κ) : RelO (valV kvs k) (valueAt vs k) := by
  unfold KV at r
  induction r with
  | nil => exact True.intro
  | @cons p q ps qs h t ih =>
    obtain ⟨h1, h2⟩ := h
    by_cases e : p.1 = k
    · have e' : q.1 = k := h1.symm.trans e
      have b : valueAt (q :: qs) k = some q.2 := by simp [valueAt, List.find?_cons, e']
      rw [valV_pos e, b]; exact h2
    · have e' : ¬ q.1 = k := fun z => e (h1.trans z)
      have b : valueAt (q :: qs) k = valueAt qs k := by simp [valueAt, List.find?_cons, e']
      rw [valV_neg e, b]; exact ih
theorem KV.any {kvs : List (κ × V)} {vs : List (κ × Value)} (r : KV kvs vs) (k : κ) : (kvs.any fun kv => decide (kv.1 = k)) = vs.any fun kv => decide (kv.1 = k) := by
  unfold KV at r
  induction r with
  | nil => rfl
  | cons h t ih => rw [List.any_cons, List.any_cons, ih, h.1]
theorem KV.repl {kvs : List (κ × V)} {vs : List (κ × Value)} (r : KV kvs vs) (k : κ) {y : V} {u : Value} (ry : RelV y u) :
    KV (kvs.map fun kv => if kv.1 = k then (kv.1, y) else kv) (vs.map fun kv => if kv.1 = k then (kv.1, u) else kv) := by
  unfold KV at r ⊢
  induction r with
  | nil => exact .nil
  | @cons p q ps qs h t ih =>
    rw [List.map_cons, List.map_cons]
    refine .cons ?_ ih
    obtain ⟨h1, h2⟩ := h
    by_cases e : p.1 = k
    · rw [if_pos e, if_pos (h1.symm.trans e)]; exact ⟨h1, ry⟩
    · rw [if_neg e, if_neg (fun z => e (h1.trans z))]; exact ⟨h1, h2⟩
theorem KV.put {kvs : List (κ × V)} {vs : List (κ × Value)} (r : KV kvs vs) (k : κ) {y : V} {u : Value} (ry : RelV y u) : KV (putK kvs k y) (stored vs k u) := by
  unfold putK stored
  rw [r.any k]
  by_cases e : (vs.any fun kv => decide (kv.1 = k)) = true
  · rw [if_pos e, if_pos e]; exact r.repl k ry
  · rw [if_neg e, if_neg e]; exact Paired.snoc r ⟨rfl, ry⟩
theorem KV.keys {kvs : List (κ × V)} {vs : List (κ × Value)} (r : KV kvs vs) : kvs.map (·.1) = vs.map (·.1) := by
  unfold KV at r
  induction r with
  | nil => rfl
  | cons h t ih => rw [List.map_cons, List.map_cons, ih, h.1]
theorem KV.length {kvs : List (κ × V)} {vs : List (κ × Value)} (r : KV kvs vs) : kvs.length = vs.length := Paired.length r
end


/-! ### a tracked dict, its keys ints and texts or tuples of these -/
theorem kV_is {P : Program} {w : World} {k : Key} {u : Value} (r : RelV (kV k) u) : (mixKind P w).is k u = true := by
  cases k with
  | inl i => obtain ⟨t, e⟩ := (show ∃ t, u = Value.int i t from r); subst e; exact mixKind_int P w i t
  | inr x => obtain ⟨t, e⟩ := (show ∃ t, u = Value.str x t from r); subst e; exact mixKind_str P w x t
theorem items_are {P : Program} {w : World} : ∀ {ks : List Key} {us : List Value}, Vals (ks.map kV) us → ItemsAre (mixKind P w) ks us
  | [], _, r => by rw [List.map_nil] at r; cases r; exact .nil
  | k :: ks, _, r => by
    rw [List.map_cons] at r
    cases r with
    | cons h t => exact .cons (kV_is h) (items_are t)

/-- raw entries of a dict with tuple keys -/
abbrev KT (H : Hp) : List (List Key × V) → List (List Key × Addr × Value) → Prop := Paired fun p q => p.1 = q.1 ∧ H q.2.1 = some (.tup (p.1.map kV)) ∧ RelV p.2 q.2.2
theorem KT.val {H : Hp} {kvs : List (List Key × V)} {xs : List (List Key × Addr × Value)} (r : KT H kvs xs) (k : List Key) : RelO (valV kvs k) ((atKey xs k).map (·.2)) := by
  induction r with
  | nil => exact True.intro
  | @cons p q ps qs h t ih =>
    obtain ⟨h1, _, h2⟩ := h
    by_cases e : p.1 = k
    · have e' : q.1 = k := h1.symm.trans e
      have b : atKey (q :: qs) k = some q.2 := by simp [atKey, List.find?_cons, e']
      rw [valV_pos e, b]; exact h2
    · have e' : ¬ q.1 = k := fun z => e (h1.trans z)
      have b : atKey (q :: qs) k = atKey qs k := by simp [atKey, List.find?_cons, e']
      rw [valV_neg e, b]; exact ih
theorem KT.repl {H : Hp} {kvs : List (List Key × V)} {xs : List (List Key × Addr × Value)} (r : KT H kvs xs) (k : List Key) {y : V} {u : Value} (ry : RelV y u) :
    KT H (kvs.map fun kv => if kv.1 = k then (kv.1, y) else kv) (xs.map (putAt k u)) := by
  induction r with
  | nil => exact .nil
  | @cons p q ps qs h t ih =>
    rw [List.map_cons, List.map_cons]
    refine .cons ?_ ih
    obtain ⟨h1, h2, h3⟩ := h
    unfold putAt
    by_cases e : p.1 = k
    · rw [if_pos e, if_pos (h1.symm.trans e)]; exact ⟨h1, h2, ry⟩
    · rw [if_neg e, if_neg (fun z => e (h1.trans z))]; exact ⟨h1, h2, h3⟩
theorem KT.put {H : Hp} {kvs : List (List Key × V)} {xs : List (List Key × Addr × Value)} (r : KT H kvs xs) (k : List Key) {b : Addr} {y : V} {u : Value} (hb : H b = some (.tup (k.map kV))) (ry : RelV y u) :
    KT H (putK kvs k y) (storedH xs k b u) := by
  have e : (kvs.any fun kv => decide (kv.1 = k)) = (atKey xs k).isSome := by
    rw [valV_any, (r.val k).isSome_eq, Option.isSome_map]
  unfold putK storedH
  rw [e]
  by_cases q : (atKey xs k).isSome = true
  · rw [if_pos q, if_pos q]; exact r.repl k ry
  · rw [if_neg q, if_neg q]; exact Paired.snoc r ⟨rfl, hb, ry⟩
theorem KT.keeps {H H' : Hp} {kvs : List (List Key × V)} {xs : List (List Key × Addr × Value)} (r : KT H kvs xs) (ht : ∀ b ys, H b = some (.tup ys) → H' b = some (.tup ys)) : KT H' kvs xs :=
  Paired.mapP r fun _ _ z => ⟨z.1, ht _ _ z.2.1, z.2.2⟩

section
variable {P : Program} {w : World} {H : Hp} {h : Heap} {a : Addr}
theorem rd_of {u : HO} (ok : HOk P w H h) (e : Rd H a u) : ObjOk P w H h a u := e.ok ok
theorem dk_rd {kvs : List (Key × V)} (ok : HOk P w H h) (e : Rd H a (.dK kvs)) : kvs.length ≤ sizeLine ∧ (a == sysModules) = false ∧ ∃ vs, KV kvs vs ∧ h.DictOf (mixKind P w) a vs :=
  show ObjOk P w H h a (.dK kvs) from rd_of ok e
theorem dk_of {kvs : List (Key × V)} (ok : HOk P w H h) (e : H a = some (.dK kvs)) : kvs.length ≤ sizeLine ∧ (a == sysModules) = false ∧ ∃ vs, KV kvs vs ∧ h.DictOf (mixKind P w) a vs := dk_rd ok (.inl e)
/-- a tracked tuple of ints and texts is a key -/
theorem key_of {ks : List Key} (ok : HOk P w H h) (e : H a = some (.tup (ks.map kV))) : (tupleKind (mixKind P w)).is h ks a := by
  obtain ⟨_, its, r, o, h1, h2, n, h3⟩ := (show ObjOk P w H h a (.tup (ks.map kV)) from ok a _ e)
  exact ⟨o, its.toArray, n, h1, h2, h3, by simpa using items_are r⟩
theorem dt_rd {kvs : List (List Key × V)} (ok : HOk P w H h) (e : Rd H a (.dT kvs)) : kvs.length ≤ sizeLine ∧ (a == sysModules) = false ∧
    ∃ xs, KT H kvs xs ∧ h.DictOfH (tupleKind (mixKind P w)) a xs := by
  obtain ⟨z, y, xs, r, o, es, ep, h1, h2, h3, h4, h5⟩ := (show ObjOk P w H h a (.dT kvs) from rd_of ok e)
  refine ⟨z, y, xs, r, o, es, ep, h1, h2, h3, h4, fun x hx => ?_, h5⟩
  have all : ∀ {l : List (List Key × V)} {m : List (List Key × Addr × Value)}, KT H l m → ∀ x ∈ m, (tupleKind (mixKind P w)).is h x.1 x.2.1 := by
    intro l m q
    induction q with
    | nil => intro x hx; exact nomatch hx
    | @cons p q ps qs hq t ih =>
      intro x hx
      rcases List.mem_cons.mp hx with e | hx
      · subst e
        exact key_of ok (by rw [← hq.1]; exact hq.2.1)
      · exact ih x hx
  exact all r x hx
theorem dt_of {kvs : List (List Key × V)} (ok : HOk P w H h) (e : H a = some (.dT kvs)) : kvs.length ≤ sizeLine ∧ (a == sysModules) = false ∧
    ∃ xs, KT H kvs xs ∧ h.DictOfH (tupleKind (mixKind P w)) a xs := dt_rd ok (.inl e)
end

/-- what the dict at a holds at the key y -/
def DGet (H : Hp) (a : Addr) (y : V) (r : Option V) : Prop :=
  (∃ kvs k, Rd H a (.dK kvs) ∧ y = kV k ∧ r = valV kvs k) ∨ ∃ kvs k b, Rd H a (.dT kvs) ∧ y = .ref b ∧ H b = some (.tup (k.map kV)) ∧ r = valV kvs k
/-- the heap behind a[y] = v -/
def DPut (H : Hp) (a : Addr) (y v : V) (H' : Hp) : Prop :=
  (∃ kvs k, H a = some (.dK kvs) ∧ y = kV k ∧ kvs.length < sizeLine ∧ H' = upd H a (.dK (putK kvs k v))) ∨
  ∃ kvs k b, H a = some (.dT kvs) ∧ y = .ref b ∧ H b = some (.tup (k.map kV)) ∧ kvs.length < sizeLine ∧ H' = upd H a (.dT (putK kvs k v))
theorem DGet.k {H : Hp} {a : Addr} {kvs : List (Key × V)} {k : Key} (e : H a = some (.dK kvs)) : DGet H a (kV k) (valV kvs k) := .inl ⟨kvs, k, .inl e, rfl, rfl⟩
theorem DPut.k {H : Hp} {a : Addr} {kvs : List (Key × V)} {k : Key} {v : V} (e : H a = some (.dK kvs)) (hl : kvs.length < sizeLine) : DPut H a (kV k) v (upd H a (.dK (putK kvs k v))) := .inl ⟨kvs, k, e, rfl, hl, rfl⟩


section
variable {X : Cx} {pins : List (Addr × Obj)} {σ : St} {H : Hp} {s : Shared} {a : Addr} {y v : V} {u r : Value} {o : Option V} {A : Around} {E : Value → Shared → Prop}

theorem Inv.big (I : Inv X pins σ H s) : sysModules < s.heap.objs.size := by
  have h : mainGlobals < s.heap.objs.size := (I.mod.glob.keeps I.bk).lt
  exact Nat.lt_trans (by decide) h

/-- d[y], there -/
theorem d_getItem {Q : Value → Shared → Prop} (hu : A.units + 1 < cLine) (I : Inv X pins σ H s) (g : DGet H a y (some v)) (ry : RelV y u) (h : ∀ w' s', Inv X pins σ H s' → RelV v w' → Q w' s') :
    wpAny (model X.prog X.w) A (getItem (.ref a) u) Q E s := by
  rcases g with ⟨kvs, k, e, ey, l⟩ | ⟨kvs, k, b, e, ey, eb, l⟩
  · subst ey
    obtain ⟨z, hd, vs, rel, dd⟩ := dk_rd I.hok e
    obtain ⟨w', hw, rw'⟩ := RelO.some_of (v := v) (o := valueAt vs k) (by rw [l]; exact rel.val k)
    exact wpAny_getItem_of (kV_is ry) dd.mapOf hw (h w' _ (I.tok _) rw')
  · subst ey
    cases (show u = Value.ref b from ry)
    obtain ⟨z, hd, xs, rel, dd⟩ := dt_rd I.hok e
    obtain ⟨w', hw, rw'⟩ := RelO.some_of (v := v) (o := (atKey xs k).map (·.2)) (by rw [l]; exact rel.val k)
    obtain ⟨p, hp, hp2⟩ := Option.map_eq_some_iff.mp hw
    refine wpAny_getItem_heap (tupleKind_room_in1 hu) (key_of I.hok eb) dd hp ?_
    rw [hp2]
    exact h w' _ (I.tok _) rw'
/-- y in d -/
theorem d_in {Q : Value → Shared → Prop} (hu : A.units + 1 < cLine) (I : Inv X pins σ H s) (g : DGet H a y o) (ry : RelV y u) (h : ∀ s', Inv X pins σ H s' → Q (.bool o.isSome) s') :
    wpAny (model X.prog X.w) A (compareOp .In u (.ref a)) Q E s := by
  rcases g with ⟨kvs, k, e, ey, l⟩ | ⟨kvs, k, b, e, ey, eb, l⟩
  · subst ey
    obtain ⟨z, hd, vs, rel, dd⟩ := dk_rd I.hok e
    refine wpAny_in_of (kV_is ry) hd dd.mapOf ?_
    rw [← (rel.val k).isSome_eq, ← l]
    exact h _ (I.tok _)
  · subst ey
    cases (show u = Value.ref b from ry)
    obtain ⟨z, hd, xs, rel, dd⟩ := dt_rd I.hok e
    refine wpAny_in_heap (tupleKind_room_in1 hu) (key_of I.hok eb) hd dd ?_
    have q := (rel.val k).isSome_eq
    rw [Option.isSome_map] at q
    rw [← q, ← l]
    exact h _ (I.tok _)
theorem d_notIn {Q : Value → Shared → Prop} (hu : A.units + 1 < cLine) (I : Inv X pins σ H s) (g : DGet H a y o) (ry : RelV y u) (h : ∀ s', Inv X pins σ H s' → Q (.bool (!o.isSome)) s') :
    wpAny (model X.prog X.w) A (compareOp .NotIn u (.ref a)) Q E s := by
  rcases g with ⟨kvs, k, e, ey, l⟩ | ⟨kvs, k, b, e, ey, eb, l⟩
  · subst ey
    obtain ⟨z, hd, vs, rel, dd⟩ := dk_rd I.hok e
    refine wpAny_notIn_of (kV_is ry) hd dd.mapOf ?_
    rw [← (rel.val k).isSome_eq, ← l]
    exact h _ (I.tok _)
  · subst ey
    cases (show u = Value.ref b from ry)
    obtain ⟨z, hd, xs, rel, dd⟩ := dt_rd I.hok e
    refine wpAny_notIn_heap (tupleKind_room_in1 hu) (key_of I.hok eb) hd dd ?_
    have q := (rel.val k).isSome_eq
    rw [Option.isSome_map] at q
    rw [← q, ← l]
    exact h _ (I.tok _)
/-- a dict's object is replaced -/
theorem d_write {h' : Heap} {t' : Nat} {ob : HO} (I : Inv X pins σ H s) (mu : Mut (H a)) (hs : Heap.SameBut a s.heap h') (he : ∃ q, h'.get? a = some q) (new : ObjOk X.prog X.w (upd H a ob) h' a ob) :
    Inv X pins σ (upd H a ob) { s with heap := h', toks := t' } :=
  I.write (x := a) (e := a) mu (.inl rfl) (fun b q hb z => (hs.2 b hb).trans z) he new
theorem dk_new {P : Program} {w : World} {H' : Hp} {h' : Heap} {kvs : List (Key × V)} {vs : List (Key × Value)} (z : kvs.length ≤ sizeLine) (hd : (a == sysModules) = false) (rel : KV kvs vs) (dd : h'.DictOf (mixKind P w) a vs) :
    ObjOk P w H' h' a (.dK kvs) := ⟨z, hd, vs, rel, dd⟩
/-- d[y] = v -/
theorem d_setItem {H' : Hp} {Q : Unit → Shared → Prop} (hu : A.units + 1 < cLine) (I : Inv X pins σ H s) (g : DPut H a y v H') (ry : RelV y u) (rv : RelV v r) (h : ∀ s', Inv X pins σ H' s' → Q () s') :
    wpAny (model X.prog X.w) A (setItem (.ref a) u r) Q E s := by
  rcases g with ⟨kvs, k, e, ey, l, eH⟩ | ⟨kvs, k, b, e, ey, eb, l, eH⟩
  · subst ey eH
    obtain ⟨z, hd, vs, rel, dd⟩ := dk_of I.hok e
    have hz : vs.length ≤ sizeLine := by rw [← rel.length]; exact z
    have hl : (putK kvs k v).length ≤ sizeLine := by have := length_putK kvs k v; omega
    refine wpAny_setItem_pairs (hsz := hz) (kV_is ry) dd fun h' dd' hs => h _ ?_
    have he : ∃ q, h'.get? a = some q := let ⟨q, _, _, hq, _⟩ := dd'; ⟨q, hq⟩
    exact d_write I (by rw [e]; exact True.intro) hs he (dk_new hl hd (rel.put k rv) dd')
  · subst ey eH
    cases (show u = Value.ref b from ry)
    obtain ⟨z, hd, xs, rel, dd⟩ := dt_of I.hok e
    have hz : xs.length ≤ sizeLine := by rw [← Paired.length rel]; exact z
    have hl : (putK kvs k v).length ≤ sizeLine := by have := length_putK kvs k v; omega
    refine wpAny_setItem_heap (hsz := hz) (tupleKind_room_in1 hu) (key_of I.hok eb) dd fun h' dd' hs => h _ ?_
    obtain ⟨q, es, ep, hq, h2, h3, h4, _, h5⟩ := dd'
    refine d_write I (by rw [e]; exact True.intro) hs ⟨q, hq⟩ ⟨hl, hd, _, (rel.put k eb rv).keeps fun c ys ec => ?_, q, es, ep, hq, h2, h3, h4, h5⟩
    rw [upd_ne (ne_of ec e (fun z => nomatch z))]
    exact ec
end

section
variable {X : Cx} {pins : List (Addr × Obj)} {σ : St} {H : Hp} {s : Shared} {a : Addr} {kvs : List (Key × V)} {k : Key} {u : Value} {A : Around} {E : Value → Shared → Prop}
end


/-! ### readings and rules -/
/-- the element of a subscription, not a slice -/
def NoSl (i : Expr) : Prop := ∀ ov iv, subscripted i false ov iv = operate [ov, iv] (getItem ov iv)
theorem subD_of {prog : Program} {w : World} {A : Around} {E : Value → Shared → Prop} {s : Shared} {env : Env} {value slice : Expr} {pos : Pos} {T id : String} {Q : Value → Shared → Prop}
    (hl : typeLookup (.type T) "__getitem__" = pure (some (.builtin id))) (hs : NoSl slice)
    (h : wpAny (model prog w) A (eval value env) (fun o s₁ => wpAny (model prog w) A (eval slice env) (fun i s₂ => s₂.TypeIs o T ∧ wpAny (model prog w) A (getItem o i) Q E s₂) E s₁) E s) :
    wpAny (model prog w) A (eval (.Subscript value slice pos) env) Q E s := by
  refine Subscript_ (wpAny_mono h (fun o s₁ h₁ => wpAny_mono h₁ (fun i s₂ h₂ => ?_) fun _ _ x => x) fun _ _ x => x)
  obtain ⟨hT, h₂⟩ := h₂
  unfold subscriptTail
  refine wpAny_bind ?_
  rw [getitemInPython_of_ne hT.not_modules]
  refine wpAny_bind (wpAny_specialOf hT hl ?_)
  have fin : wpAny (model prog w) A (subscripted slice false o i) (fun r s₃ => wpAny (model prog w) A (letTemporaryGo value o r >>= fun _ => pure r) Q E s₃) E s₂ := by
    rw [hs o i]
    exact wpAny_operating (wpAny_mono h₂ (fun r s₃ h₃ => wpAny_bind (wpAny_letTemporaryGo (wpAny_pure h₃))) fun _ _ x => x)
  first
    | exact wpAny_pure (wpAny_bind fin)
    | exact wpAny_bind (wpAny_pure (wpAny_bind fin))
    | exact wpAny_bind fin

theorem dict_typeIs {X : Cx} {pins : List (Addr × Obj)} {σ : St} {H : Hp} {s : Shared} {a : Addr} {y : V} {o : Option V} (I : Inv X pins σ H s) (g : DGet H a y o) : s.TypeIs (.ref a) "dict" := by
  rcases g with ⟨kvs, k, e, _, _⟩ | ⟨kvs, k, b, e, _, _, _⟩
  · obtain ⟨_, _, vs, _, dd⟩ := dk_rd I.hok e
    exact dd.typeIs
  · obtain ⟨_, _, xs, _, dd⟩ := dt_rd I.hok e
    exact dd.typeIs

/-- d[y] -/
def tDGet (td ty : TE) : TE := fun σ H Q => td σ H fun x H1 => ty σ H1 fun y H2 => ∃ a v, x = .ref a ∧ DGet H2 a y (some v) ∧ Q v H2
/-- y in d, y not in d -/
def tDIn (ty td : TE) : TE := fun σ H Q => ty σ H fun y H1 => td σ H1 fun x H2 => ∃ a o, x = .ref a ∧ DGet H2 a y o ∧ Q (.bl o.isSome) H2
def tDNotIn (ty td : TE) : TE := fun σ H Q => ty σ H fun y H1 => td σ H1 fun x H2 => ∃ a o, x = .ref a ∧ DGet H2 a y o ∧ Q (.bl (!o.isSome)) H2
/-- d[y] = v -/
def sDPut (td ty tv : TE) : TS := fun D σ H => tv σ H fun v H1 => td σ H1 fun x H2 => ty σ H2 fun y H3 => ∃ a H4, x = .ref a ∧ DPut H3 a y v H4 ∧ D.nx σ H4

section
variable {X : Cx} {o i e value : Expr} {pos pos' tpos : Pos} {td ty tv : TE}
theorem pe_dget (hu : X.A.units + 1 < cLine) (ho : PE X o td) (hi : PE X i ty) (hs : NoSl i) : PE X (.Subscript o i pos) (tDGet td ty) := by
  intro pins s σ H Q I h
  refine subD_of PySem.F.slot_dict_getitem.lookup hs (thn (ho pins s σ H _ I h) fun u s1 ⟨x, H1, I1, rx, q1⟩ => thn (hi pins s1 σ H1 _ I1 q1) fun iv s2 ⟨y, H2, I2, ry, a, v, ex, g, q2⟩ => ?_)
  subst ex
  obtain rfl : u = Value.ref a := rx
  exact ⟨dict_typeIs I2 g, d_getItem hu I2 g ry fun w' s3 I3 rw' => ⟨v, H2, I3, rw', q2⟩⟩
theorem pc_din (hu : X.A.units + 1 < cLine) (hi : PE X i ty) (ho : PE X o td) : PC X .In i o (tDIn ty td) := by
  intro pins s σ H Q I h
  refine thn (hi pins s σ H _ I h) fun iv s1 ⟨y, H1, I1, ry, q1⟩ => thn (ho pins s1 σ H1 _ I1 q1) fun u s2 ⟨x, H2, I2, rx, a, ov, ex, g, q2⟩ => ?_
  subst ex
  obtain rfl : u = Value.ref a := rx
  exact d_in hu I2 g ry fun s3 I3 => ⟨.bl ov.isSome, H2, I3, rfl, q2⟩
theorem pc_dnotin (hu : X.A.units + 1 < cLine) (hi : PE X i ty) (ho : PE X o td) : PC X .NotIn i o (tDNotIn ty td) := by
  intro pins s σ H Q I h
  refine thn (hi pins s σ H _ I h) fun iv s1 ⟨y, H1, I1, ry, q1⟩ => thn (ho pins s1 σ H1 _ I1 q1) fun u s2 ⟨x, H2, I2, rx, a, ov, ex, g, q2⟩ => ?_
  subst ex
  obtain rfl : u = Value.ref a := rx
  exact d_notIn hu I2 g ry fun s3 I3 => ⟨.bl (!ov.isSome), H2, I3, rfl, q2⟩
theorem ps_dput (hu : X.A.units + 1 < cLine) (ho : PE X o td) (hi : PE X i ty) (hv : PE X value tv) (hs : swapsWith value (some (.Subscript o i pos')) pos.line X.env = pure false) :
    PS X (.Assign [.Subscript o i pos'] value pos) (sDPut td ty tv) := by
  intro pins s σ H D I h
  refine wpAny_Assign_Subscript (thn (hv pins s σ H _ I h) fun r s1 ⟨v, H1, I1, rv, q1⟩ => thn (ho pins s1 σ H1 _ I1 q1) fun u s2 ⟨x, H2, I2, rx, q2⟩ => thn (hi pins s2 σ H2 _ I2 q2) fun iv s3 ⟨y, H3, I3, ry, a, H4, ex, g, q3⟩ => ?_) hs
  subst ex
  obtain rfl : u = Value.ref a := rx
  exact d_setItem hu I3 g ry rv fun s4 I4 => ⟨σ, H4, I4, q3⟩
end


/-! ### displays -/
theorem dk_empty {P : Program} {w : World} {H : Hp} (h : Heap) (hb : sysModules < h.objs.size) : ObjOk P w H (h.push { cls := .type "dict", data := .dict #[] }) h.objs.size (.dK []) :=
  ⟨Nat.zero_le _, beq_eq_false_iff_ne.mpr (Ne.symm (Nat.ne_of_lt hb)), [], .nil, Heap.DictOf.new h⟩
/-- {}, to be a dict of the kind that is wanted -/
def tDNewK : TE := fun _ H Q => ∀ p, H p = none → Q (.ref p) (upd H p (.dK []))
section
variable {X : Cx} {pos : Pos}
theorem pe_dnewK : PE X (.Dict [] [] pos) tDNewK := fun pins s σ H Q I h =>
  wpAny_Dict_empty ⟨.ref s.heap.objs.size, _, I.laid (a := s.heap.objs.size) (o := .dK []) (t' := s.toks) (fun _ _ q => Heap.get?_push_of_some _ q) (Nat.le_refl _) (dk_empty s.heap I.big), rfl, h _ (I.hok.fresh (Nat.le_refl _))⟩
end




/-! ### methods -/
/-- a method call o.m(e) of a built-in, with one argument: what must be seen of the text -/
structure M1 (X : Cx) (o : Expr) (m : Str) (apos : Pos) (e : Expr) (cpos : Pos) : Prop where
  base : attributeBase o m X.env (eval o X.env) = eval o X.env
  few : ((backTo cpos (starEach [e] X.env)).all (fun x => !x.1) && (backToKw cpos (keywordEach [] X.env)).all (fun x => x.1.isSome)
    && decide (([e] : List Expr).length + ([] : List Keyword).length + (if ([] : List Keyword).isEmpty then 0 else 1) < 30)) = true
  line : (apos.endLine == cpos.line) = true
  trees : backTo cpos (starEach [e] X.env) = [(false, eval e X.env)]

/-- a is a dict, whatever its keys -/
def IsD (H : Hp) (a : Addr) : Prop := (∃ kvs, Rd H a (.dK kvs)) ∨ ∃ kvs, Rd H a (.dT kvs)
theorem isD_at {X : Cx} {pins : List (Addr × Obj)} {σ : St} {H : Hp} {s : Shared} {a : Addr} (I : Inv X pins σ H s) (d : IsD H a) :
    s.TypeIs (.ref a) "dict" ∧ (∀ b, Value.ref a = .ref b → ∃ ob, s.heap.get? b = some ob ∧ ob.dict = none) ∧ (a == sysModules) = false := by
  rcases d with ⟨kvs, e⟩ | ⟨kvs, e⟩
  · obtain ⟨_, hd, vs, _, dd⟩ := dk_rd I.hok e
    refine ⟨dd.typeIs, fun b q => ?_, hd⟩
    cases q
    obtain ⟨ob, _, _, h1, h2, _⟩ := dd
    exact ⟨ob, h1, h2.2.1⟩
  · obtain ⟨_, hd, xs, _, dd⟩ := dt_rd I.hok e
    refine ⟨dd.typeIs, fun b q => ?_, hd⟩
    cases q
    obtain ⟨ob, _, _, h1, h2, _⟩ := dd
    exact ⟨ob, h1, h2.2.1⟩

section
variable {X : Cx} {pins : List (Addr × Obj)} {σ : St} {H : Hp} {s : Shared} {a : Addr} {y d : V} {u r : Value} {o : Option V} {A : Around} {E : Value → Shared → Prop}
/-- d.get(y) -/
theorem d_get1 {Q : Value → Shared → Prop} (hu : A.units + 1 < cLine) (I : Inv X pins σ H s) (g : DGet H a y o) (ry : RelV y u) (h : ∀ w' s', Inv X pins σ H s' → RelV (o.getD .non) w' → Q w' s') :
    wpAny (model X.prog X.w) A (call (.builtin "dict.get") [.ref a, u]) Q E s := by
  rcases g with ⟨kvs, k, e, ey, l⟩ | ⟨kvs, k, b, e, ey, eb, l⟩
  · subst ey
    obtain ⟨z, hd, vs, rel, dd⟩ := dk_rd I.hok e
    refine call_meetsIn PySem.F.slot_dict_get dd.typeIs PySem.F.entry_dict_get (PySem.F.args_dict_get_2 _ _) (meets_dict_get (mixKind X.prog X.w) a (kV_is ry) hd) ⟨_, dd.mapOf, h _ _ (I.tok _) ?_⟩
    rw [l]
    exact (rel.val k).getD rfl
  · subst ey
    cases (show u = Value.ref b from ry)
    obtain ⟨z, hd, xs, rel, dd⟩ := dt_rd I.hok e
    refine call_meetsIn PySem.F.slot_dict_get dd.typeIs PySem.F.entry_dict_get (PySem.F.args_dict_get_2 _ _) (meetsH_dict_get (tupleKind (mixKind X.prog X.w)) a b hd) ⟨tupleKind_room_in1 hu, k, xs, key_of I.hok eb, dd, h _ _ (I.tok _) ?_⟩
    rw [l]
    exact (rel.val k).getD rfl
end

def tDGet1 (td ty : TE) : TE := fun σ H Q => td σ H fun x H1 => ∃ a, x = .ref a ∧ IsD H1 a ∧ ty σ H1 fun y H2 => ∃ o, DGet H2 a y o ∧ Q (o.getD .non) H2
section
variable {X : Cx} {o e f : Expr} {apos cpos : Pos} {td ty tx : TE}
theorem pe_dget1 (hu : X.A.units + 1 < cLine) (ho : PE X o td) (he : PE X e ty) (m : M1 X o "get" apos e cpos) : PE X (.Call (.Attribute o "get" apos) [e] [] cpos) (tDGet1 td ty) := by
  intro pins s σ H Q I h
  refine wpAny_Call_method m.base m.few m.line PySem.F.plainAttrs_dict PySem.F.slot_dict_get PySem.F.type_dict_get (thn (ho pins s σ H _ I h) fun u s1 ⟨x, H1, I1, rx, a, ex, d, q1⟩ => ?_)
  subst ex
  obtain rfl : u = Value.ref a := rx
  obtain ⟨t1, t2, _⟩ := isD_at I1 d
  refine ⟨t1, t2, ?_⟩
  rw [m.trees]
  refine Calls.callWith_builtin rfl (Calls.evalArgs_plain (Calls.spliced_cons (thn (he pins s1 σ H1 _ I1 q1) fun iv s2 ⟨y, H2, I2, ry, ov, g, q2⟩ => Calls.spliced_nil ?_)))
  exact d_get1 hu I2 g ry fun w' s3 I3 rw' => ⟨_, H2, I3, rw', q2⟩
end

/-! ### dict(d): a copy -/
section
variable {X : Cx} {pins : List (Addr × Obj)} {σ : St} {H : Hp} {s : Shared} {a : Addr} {kvs : List (Key × V)} {A : Around} {E : Value → Shared → Prop}
end


section
variable {X : Cx} {pins : List (Addr × Obj)} {σ : St} {H : Hp} {s : Shared} {a : Addr} {y : V} {u : Value} {A : Around} {E : Value → Shared → Prop}
end
end L2

set_option maxHeartbeats 4000000
namespace L2
open PySem PySem.Spec PyProof.Rows

section
variable {X : Cx}
theorem same_upd {H : Hp} {p : Addr} {o : HO} (h : H p = none) : Same H (upd H p o) := fun b u q => by
  rw [upd_ne (ne_of_none q h)]
  exact q
theorem op_fdivB : OpR X (binaryOp .FloorDiv) (rI (fun _ j => 0 < j ∧ j < 2 ^ 64) fun i j => .int (i / j)) := opI fun i j _ _ _ _ _ hc q => by
  have e : i.fdiv j = i / j := Int.fdiv_eq_ediv_of_nonneg _ (Int.le_of_lt hc.1)
  rw [← e] at q
  refine floordiv_int (Int.ne_of_gt hc.1) q (.inl (PyProof.noPylong_of_log2 ?_))
  have h1 : j.natAbs < 2 ^ 64 := by omega
  have h2 : j.natAbs ≠ 0 := by omega
  have h3 : j.natAbs.log2 < 64 := (Nat.log2_lt h2).mpr h1
  omega
end
end L2

set_option maxHeartbeats 4000000
namespace HT
open PySem PyProof.Rows
section
variable {prog : Program} {w : World} {A : Around} {E : Value → Shared → Prop} {s : Shared}
end
end HT
namespace L2
open PySem PySem.Spec PyProof.Rows
section
variable {X : Cx}
end
end L2

set_option maxHeartbeats 4000000
namespace L2
open PySem PySem.Spec PyProof.Rows
/-! ### long displays: the same rules, behind a structure (the elaborator does not look into it) -/
end L2

set_option maxHeartbeats 4000000
namespace L2
open PySem PySem.Spec PyProof.Rows
section
variable {X : Cx}
end
end L2

set_option maxHeartbeats 4000000
namespace L2
open PySem PySem.Spec PyProof.Rows

/-! ### [e for t in it if c] with names of the def around it -/
abbrev Cx.blkF (X : Cx) (NB : List Str) (scope : Scope) (cl : List (Str × Addr)) (C : Addr) (s : Shared) (H : Hp) (fp : List Addr) (pn : List (Addr × Obj)) : Cx :=
  { X with N := NB, s₀ := s, H₀ := H, env := compEnvC scope cl C X.env, outer := X.stack, ex := fp, fn := fun _ => false, pn := pn, xe := fun _ _ => False }
/-- the block's state at the start of each turn: its own names bare, the others as around it -/
def bare0 (n : Nat) (js : List Nat) (σ : St) : St := List.replicate n none ++ js.map fun j => (σ[j]?).join
def tCompF (n : Nat) (js : List Nat) (wi : TI) (g : TG) (tc : TT) (te : TE) : TE := fun σ H Q => wi σ H fun J H1 => ∀ acc, H1 acc = none →
  ∃ W : Nat → Nat → List V → Hp → Prop, (∃ m, W 0 m [] (upd H1 acc (.lst []))) ∧ ∀ i m ys H, W i m ys H → H acc = some (.lst ys) ∧
    ((J.stop i H ∧ Q (.ref acc) H) ∨ (J.go i H ∧ ∀ x H', J.yld i H x H' → g x (bare0 n js σ) H' fun σ2 H2 => σ2.drop n = (bare0 n js σ).drop n ∧ tc σ2 H2 fun b H3 =>
      if b = true then te σ2 H3 fun y H4 => H4 acc = some (.lst ys) ∧ ys.length < sizeLine ∧ ∃ m', m' < m ∧ W (i + 1) m' (ys ++ [y]) (upd H4 acc (.lst (ys ++ [y])))
      else ∃ m', m' < m ∧ W (i + 1) m' ys H3))
/-- the names that the block takes from around it -/
structure Takes (X : Cx) (NB : List Str) (n : Nat) (js : List Nat) (scope : Scope) (cl : List (Str × Addr)) : Prop where
  clo : closureFor scope X.env = pure cl
  sub : ∀ x c, cl.lookup x = some c → X.env.cells.lookup x = some c
  has : ∀ x, ((relabel scope X.env).names.lookup x = some .cell ∨ (relabel scope X.env).names.lookup x = some .free) → (cl.lookup x).isSome = true
  len : NB.length = n + js.length
  nam : ∀ k j, js[k]? = some j → NB[n + k]? = X.N[j]?
  ck : ∀ x, Vis (relabel scope X.env) x → x ∈ NB.drop n → ((relabel scope X.env).names.lookup x = some .cell ∨ (relabel scope X.env).names.lookup x = some .free) ∧ (X.env.kindOf x = some .cell ∨ X.env.kindOf x = some .free) ∧ (cl.lookup x).isSome = true

section
variable {X : Cx} {NB : List Str} {n : Nat} {js : List Nat} {scope : Scope} {cl : List (Str × Addr)}
theorem bare0_len (T : Takes X NB n js scope cl) (σ : St) : (bare0 n js σ).length = NB.length := by
  unfold bare0
  rw [List.length_append, List.length_replicate, List.length_map, T.len]
theorem bare0_at {σ : St} {i : Nat} {v : V} (h : (bare0 n js σ)[i]? = some (some v)) : ∃ k j, i = n + k ∧ js[k]? = some j ∧ σ[j]? = some (some v) := by
  unfold bare0 at h
  rcases Nat.lt_or_ge i n with c | c
  · rw [List.getElem?_append_left (by rw [List.length_replicate]; exact c), List.getElem?_replicate, if_pos c] at h
    cases h
  · rw [List.getElem?_append_right (by rw [List.length_replicate]; exact c), List.length_replicate, List.getElem?_map] at h
    cases hj : js[i - n]? with
    | none => rw [hj] at h; cases h
    | some j =>
      rw [hj] at h
      have h : some ((σ[j]?).join) = some (some v) := h
      have h := Option.some.inj h
      refine ⟨i - n, j, by omega, hj, ?_⟩
      cases hs : σ[j]? with
      | none => rw [hs] at h; cases h
      | some o =>
        rw [hs] at h
        have h : o = some v := h
        rw [h]
theorem blkF_inv {pins : List (Addr × Obj)} {σ : St} {H : Hp} {s : Shared} {h4 : Heap} {tk : Nat} {fp : List Addr} (I : Inv X pins σ H s) (hk : scope.kind = .function) (T : Takes X NB n js scope cl)
    (hf : ∀ b ∈ fp, FpOk X pins H b) (ho : ∀ b ∈ fp, b < s.heap.objs.size) {m : Str → Option Value} (hn : h4.Ns s.heap.objs.size m) (keep : ∀ b o, s.heap.get? b = some o → h4.get? b = some o) :
    Inv (X.blkF NB scope cl s.heap.objs.size s H fp (X.pn ++ pins)) [] (bare0 n js σ) H { s with heap := h4, toks := tk } := by
  have stk : ∀ b, b ≠ X.env.locals → b ∉ X.fs → b ∉ frs X.stack := fun b h1 h2 z => (List.mem_cons.mp (I.stkSub b z)).elim h1 h2
  obtain ⟨m0, hn0, hl0⟩ := I.loc
  refine ⟨⟨I.ok.mod, hk, I.ok.glob, I.ok.blt, Nat.le_refl _, fun x y c q1 q2 => I.ok.inj x y c (T.sub x c q1) (T.sub y c q2), fun x q => Option.isSome_iff_exists.mp (T.has x q), fun x c q => (nomatch q), I.ok.hd, I.ok.frames, .inl rfl, fun b hb => ⟨Nat.ne_of_lt (ho b hb), fun x c q => (hf b hb).2.2.2.2.1 x c (T.sub x c q)⟩, I.bs, Nat.le_trans I.ok.bsz I.sz,
    fun b o q hb => ?_, fun b hb => stk b (hf b hb).2.1 (hf b hb).2.2.1, I.stack, I.stkFree⟩, rfl, I.bare, Un.kept keep, ⟨m, hn, fun i x v q1 q2 q3 => ?_⟩, fun x c q => ?_, I.hok.fresh (Nat.le_refl _), fun x c q => I.freeC x c (T.sub x c q), fun p hp => ?_, I.hok.kept keep, ?_⟩
  · rcases (hf b hb).2.2.2.1 with z | z
    · exact I.ok.noex b o q z
    · exact absurd (Nat.lt_of_lt_of_le (Heap.lt_size q) (Nat.le_trans I.ok.bsz z)) (Nat.lt_irrefl _)
  · obtain ⟨k, j, rfl, hj, hs⟩ := bare0_at q2
    have q1 : NB[n + k]? = some x := q1
    have hx : X.N[j]? = some x := by rw [← T.nam k j hj]; exact q1
    have hd : x ∈ NB.drop n := List.mem_of_getElem? (i := k) (by rw [List.getElem?_drop]; exact q1)
    obtain ⟨k1, k2, k3⟩ := T.ck x q3 hd
    obtain ⟨c, hc⟩ := Option.isSome_iff_exists.mp k3
    obtain ⟨u, ru, lu⟩ := hl0 j x v hx hs (k2.elim (fun z => .inr (.inl z)) fun z => .inr (.inr z))
    refine ⟨u, ru, .inr ⟨k1, c, hc, ?_⟩⟩
    rcases lu with ⟨z, _⟩ | ⟨_, c', hc', o, ho', hd'⟩
    · rcases k2 with w | w <;> (rw [w] at z; cases z)
    · have e : c' = c := Option.some.inj (hc'.symm.trans (T.sub x c hc))
      subst e
      exact ⟨o, keep _ _ ho', hd'⟩
  · obtain ⟨v, o, ho', hd'⟩ := I.cell x c (T.sub x c q)
    exact ⟨v, o, keep _ _ ho', hd'⟩
  · have hp' : p ∈ X.pn ++ pins := by simpa using hp
    obtain ⟨q, n, ne, nf, d⟩ := I.pin p hp'
    exact ⟨keep _ _ q, n, Nat.ne_of_lt (Heap.lt_size q), stk _ ne nf, d⟩
  · exact bare0_len T σ

theorem blkF_back {pins : List (Addr × Obj)} {σ σ' : St} {H H' : Hp} {s s' : Shared} {h2 : Heap} {fp : List Addr} {pl : List (Addr × Obj)} (I : Inv X pins σ H s) (hf : ∀ b ∈ fp, FpOk X pins H b) (ho : ∀ b ∈ fp, b < s.heap.objs.size)
    (J : Inv (X.blkF NB scope cl s.heap.objs.size s H fp (X.pn ++ pins)) pl σ' H' s') (hs : Heap.SameBut s.heap.objs.size s'.heap h2) : Inv X pins σ H' { s' with heap := h2 } := by
  have u := J.base
  have low : ∀ b o, s.heap.get? b = some o → b ≠ s.heap.objs.size := fun b o q => Nat.ne_of_lt (Heap.lt_size q)
  refine I.call' (s' := { s' with heap := h2 }) (ch := fp) J.os ⟨fun b o q n hb he => (hs.2 b (low b o q)).trans (u.keep b o q n hb he), fun b o q n hb he => ?_, u.free, fun b o q he => ?_, u.tups, u.frzs, u.tbls⟩ (fun b o q => ?_) J.bare fun b hb => ?_
  · obtain ⟨sl, z⟩ := u.slot b o q n hb he
    exact ⟨sl, (hs.2 b (low b o q)).trans z⟩
  · obtain ⟨o', z⟩ := u.there b o q he
    exact ⟨o', (hs.2 b (low b o q)).trans z⟩
  · refine (J.hok b o q).stay (fun c w' hc r => (hs.2 c ?_).trans r) (fun _ r => r) fun _ _ r => r
    have fr : H' s.heap.objs.size = none := J.free
    rintro rfl
    rcases hc with rfl | hc
    · rw [fr] at q; cases q
    · rw [fr] at hc; cases hc
  · obtain ⟨f0, f1, f2, f3, f4, f5⟩ := hf b hb
    exact ⟨f3, f1, f4, f5⟩

theorem pe_compF {elt tg iter : Expr} {ifs : List Expr} {pos : Pos} {wi : TI} {g : TG} {tc : TT} {te : TE} (hk : scope.kind = .function) (hcell : ∀ x ∈ scope.names, x.2 ≠ .cell)
    (hnames : ∀ x ∈ scope.names, x.2 = .local → scope.names.lookup x.1 = some .local) (hc : X.calm = true) (T : Takes X NB n js scope cl) (hi : PI X tg iter wi)
    (hg : ∀ C s H fp pn, PG (X.blkF NB scope cl C s H fp pn) tg g) (ht : ∀ C s H fp pn, PTs (X.blkF NB scope cl C s H fp pn) ifs tc) (he : ∀ C s H fp pn, PE (X.blkF NB scope cl C s H fp pn) elt te)
    (hs : ∀ x, foldedSetIterable iter X.env x = pure x := by intro _; rfl) : PE X (.ListComp elt [⟨tg, iter, ifs, 0⟩] scope pos) (tCompF n js wi g tc te) := by
  intro pins s σ H Q I h
  rw [eval_ListComp]
  refine wpAny_comprehension_free (use := none) rfl hs T.clo hk hnames (thn (hi pins s σ H _ I h) fun v s1 h1 => thn h1 fun itv s2 h2 => ?_)
  obtain ⟨it, fp, tn, J, H2, rfl, I2, U, st2, f2, h2⟩ := h2
  have lt2 : ∀ b ∈ fp, b < s2.heap.objs.size := fun b hb => by
    obtain ⟨o, q, _⟩ := U.obj 0 _ st2 b hb
    exact Heap.lt_size q
  refine wpAny_newObj_type ?_
  have hz : H2 s2.heap.objs.size = none := I2.hok.fresh (Nat.le_refl _)
  obtain ⟨W, ⟨m0, w0⟩, turn⟩ := h2 s2.heap.objs.size hz
  have I3 : Inv X pins σ (upd H2 s2.heap.objs.size (.lst [])) { s2 with heap := s2.heap.push { cls := .type "list", dict := none, data := .seq ([] : List Value).toArray } } :=
    I2.laid (t' := s2.toks) (fun b o q => Heap.get?_push_of_some _ q) (Nat.le_refl _) ⟨Nat.zero_le _, [], 0, .nil, Heap.get?_push_size _ rfl⟩
  generalize hs3 : ({ s2 with heap := s2.heap.push { cls := .type "list", dict := none, data := .seq ([] : List Value).toArray } } : Shared) = s3 at I3 ⊢
  have ups3 : ∀ b o, s2.heap.get? b = some o → s3.heap.get? b = some o := fun b o q => by rw [← hs3]; exact Heap.get?_push_of_some _ q
  have f3 : ∀ b ∈ fp, FpOk X pins (upd H2 s2.heap.objs.size (.lst [])) b := fun b hb => ⟨by rw [upd_ne (Nat.ne_of_lt (lt2 b hb))]; exact (f2 b hb).1, (f2 b hb).2⟩
  have lt3 : ∀ b ∈ fp, b < s3.heap.objs.size := fun b hb => by
    obtain ⟨o, q, _⟩ := U.obj 0 _ st2 b hb
    exact Heap.lt_size (ups3 b o q)
  refine wpAny_newFunctionEnv hcell (by intro y hy; simp at hy) (fun h4 hn4 hs4 => ?_) hk
  have keep4 : ∀ b o, s3.heap.get? b = some o → h4.get? b = some o := fun b o q => (hs4.2 b (Nat.ne_of_lt (Heap.lt_size q))).trans (Heap.get?_push_of_some _ q)
  have I4 := blkF_inv (tk := s3.toks + ([] : List (Str × Value)).length) I3 hk T f3 lt3 hn4 keep4
  have st4 : tn 0 h4 := U.keep _ _ _ st2 fun b hb o q => keep4 b o (ups3 b o q)
  have fpY : ∀ {H' : Hp}, (∀ b ∈ fp, H' b = none) → ∀ b ∈ fp, FpOk (X.blkF NB scope cl s3.heap.objs.size s3 (upd H2 s2.heap.objs.size (.lst [])) fp (X.pn ++ pins)) [] H' b := fun hn b hb => by
    obtain ⟨g0, g1, g2, g3, g4, g5⟩ := f3 b hb
    exact ⟨hn b hb, Nat.ne_of_lt (lt3 b hb), fun z => (List.mem_cons.mp (I3.stkSub b z)).elim g1 g2, .inl hb, fun x c q => g4 x c (T.sub x c q), fun p hp => g5 p (by simpa using hp)⟩
  have loop : ∀ s5 : Shared, s5 = { s3 with heap := h4, toks := s3.toks + ([] : List (Str × Value)).length } → codeAny (model X.prog X.w) X.A (.compLoop (.ListComp elt [⟨tg, iter, ifs, 0⟩] scope pos) 0 (.ref it) (.ref s2.heap.objs.size) (compEnvC scope cl s3.heap.objs.size X.env))
      (compPost (model X.prog X.w) X.A X.xe none (EP X pins σ Q) (.ref s2.heap.objs.size) s3.heap.objs.size) s5 := by
    rintro s5 rfl
    refine codeAny_loop rfl (fun k s' => ∃ i ys H', Inv (X.blkF NB scope cl s3.heap.objs.size s3 (upd H2 s2.heap.objs.size (.lst [])) fp (X.pn ++ pins)) [] (bare0 n js σ) H' s' ∧ tn i s'.heap ∧ (∀ b ∈ fp, H' b = none) ∧ W i k ys H')
      (fun k s6 hI => ?_) m0 ⟨0, [], _, I4, st4, fun b hb => (f3 b hb).1, w0⟩
    obtain ⟨i, ys, H6, I6, st6, fr6, w6⟩ := hI
    show wpAny _ _ ((compTurn (.ListComp elt [⟨tg, iter, ifs, 0⟩] scope pos) 0 (.ref it) (.ref s2.heap.objs.size) (compEnvC scope cl s3.heap.objs.size X.env)).onRaise (fun x => do noteFrame x (compEnvC scope cl s3.heap.objs.size X.env); theTreesLotGoes x)) _ _ s6
    refine wpAny_noted ?_
    rw [compTurn_list]
    refine wpAny_bind (wpAny_standAt (wpAny_bind ?_))
    obtain ⟨hacc, alt⟩ := turn i k ys H6 w6
    rcases alt with ⟨stop, q⟩ | ⟨go, step⟩
    · refine thn (U.done (X.blkF NB scope cl s3.heap.objs.size s3 (upd H2 s2.heap.objs.size (.lst [])) fp (X.pn ++ pins)) rfl rfl rfl hc i [] s6 _ H6 _ I6 (fpY fr6) st6 stop) fun r s7 ⟨hr, I7⟩ => ?_
      subst hr
      obtain ⟨m, hm, _⟩ := I7.loc
      exact wpAny_pure ⟨m, hm, fun h' hsb => ⟨.ref s2.heap.objs.size, H6, blkF_back I3 f3 lt3 I7 hsb, rfl, q⟩⟩
    · refine thn (U.item (X.blkF NB scope cl s3.heap.objs.size s3 (upd H2 s2.heap.objs.size (.lst [])) fp (X.pn ++ pins)) rfl rfl rfl hc i [] s6 _ H6 _ I6 (fpY fr6) st6 go) fun r s7 ⟨u, hr, h7⟩ => ?_
      subst hr
      refine wpAny_bind (thn h7 fun _ s8 ⟨x, H8, I8, r8, y8, st8, fr8⟩ => ?_)
      have I8' := I8.pinned (fpY fr8) (U.obj _ _ st8)
      have gp : ∀ {σ9 : St} {H9 : Hp} {s9 : Shared}, Inv (X.blkF NB scope cl s3.heap.objs.size s3 (upd H2 s2.heap.objs.size (.lst [])) fp (X.pn ++ pins)) ([] ++ pinsAt fp s8.heap) σ9 H9 s9 → tn (i + 1) s9.heap ∧ ∀ b ∈ fp, H9 b = none := fun I9 =>
        ⟨U.keep _ _ _ st8 fun b hb o e => (I9.pin (b, o) (List.mem_append_right _ (List.mem_append_right _ (mem_pinsAt hb e)))).1, fun b hb => by
          obtain ⟨o, e, d⟩ := U.obj _ _ st8 b hb
          exact (I9.pin (b, o) (List.mem_append_right _ (List.mem_append_right _ (mem_pinsAt hb e)))).2.1⟩
      have wk : ∀ {σ9 : St} {H9 : Hp} {s9 : Shared}, σ9.drop n = (bare0 n js σ).drop n → Inv (X.blkF NB scope cl s3.heap.objs.size s3 (upd H2 s2.heap.objs.size (.lst [])) fp (X.pn ++ pins)) ([] ++ pinsAt fp s8.heap) σ9 H9 s9 → Inv (X.blkF NB scope cl s3.heap.objs.size s3 (upd H2 s2.heap.objs.size (.lst [])) fp (X.pn ++ pins)) [] (bare0 n js σ) H9 s9 := fun {σ9 H9 s9} hd I9 =>
        I9.unpinned.weak (by rw [bare0_len T, I9.len]) fun k v z => by
          obtain ⟨k', j, rfl, _, _⟩ := bare0_at z
          have e := congrArg (fun l => l[k']?) hd
          simp only [List.getElem?_drop] at e
          rw [e]
          exact z
      refine wpAny_bind (wpAny_mono (hg _ _ _ _ _ _ s8 _ H8 x u _ I8' r8 (step x H8 y8)) (fun _ s9 hq => ?_) fun _ _ z => z.elim)
      obtain ⟨σ9, H9, I9, hd9, q9⟩ := hq
      refine wpAny_bind (wpAny_mono (ht _ _ _ _ _ _ s9 σ9 H9 _ I9 q9) (fun ok s10 hq => ?_) fun _ _ z => z.elim)
      obtain ⟨H10, I10, q10⟩ := hq
      cases ok with
      | false =>
        rw [if_neg (by simp)] at q10
        obtain ⟨m', hm', w10⟩ := q10
        exact wpAny_pure ⟨rfl, m', hm', i + 1, ys, H10, wk hd9 I10, (gp I10).1, (gp I10).2, w10⟩
      | true =>
        rw [if_pos rfl] at q10
        refine wpAny_bind (wpAny_bind (wpAny_mono (he _ _ _ _ _ _ s10 σ9 H10 _ I10 q10) (fun y s11 hq => ?_) fun _ _ z => z.elim))
        obtain ⟨yv, H11, I11, ry, ha11, hl11, m', hm', w11⟩ := hq
        have mt := mt_append (X := X.blkF NB scope cl s3.heap.objs.size s3 (upd H2 s2.heap.objs.size (.lst [])) fp (X.pn ++ pins)) ([] ++ pinsAt fp s8.heap) s11 σ9 H11 (.ref s2.heap.objs.size) [yv] (.ref s2.heap.objs.size) [y] (fun _ H' => W (i + 1) m' (ys ++ [yv]) H') I11 rfl (.cons ry .nil) ⟨_, ys, yv, rfl, rfl, ha11, hl11, w11⟩
        refine wpAny_bind (wpAny_mono mt (fun _ s12 hq => ?_) fun _ _ z => z.elim)
        obtain ⟨v12, H12, I12, _, w12⟩ := hq
        exact wpAny_pure (wpAny_pure ⟨rfl, m', hm', i + 1, _, H12, wk hd9 I12, (gp I12).1, (gp I12).2, w12⟩)
  exact codeAny_compStart_list (loop _ rfl) (U.self _ 0 _ _ _ st4 (loop _ rfl))

/-! ### a list or a tuple walked -/
def iSeq (K : PySem.W.Frag) (tl : TE) : TI := fun σ H R => tl σ H fun x H1 => ∃ a, x = .ref a ∧ (((∃ xs, SqL K H1 a xs) ∧ R (Itl K a) H1) ∨ ((∃ xs, SqT K H1 a xs) ∧ R (Itt K a) H1))
theorem pi_seq {tg l : Expr} {tl : TE} (hl : PE X l tl) : PI X tg l (iSeq X.K tl) := by
  intro pins s σ H R I h
  refine thn (hl pins s σ H _ I h) fun v s1 ⟨x, H1, I1, r1, q1⟩ => ?_
  obtain ⟨a, e, q1⟩ := q1
  subst e
  cases r1
  rcases q1 with ⟨⟨xs, hq⟩, q⟩ | ⟨⟨xs, hq⟩, q⟩
  · obtain ⟨its, rv, p, hz⟩ := I1.list hq
    refine wpAny_pyIter_list p.isList ?_
    refine ⟨s1.heap.objs.size, [s1.heap.objs.size], _, _, H1, rfl, I1.kept (t' := s1.toks) fun b o e => Heap.get?_push_of_some _ e, turn_list a _, ⟨_, Heap.get?_push_size _ rfl, rfl, rfl⟩, fun b hb => ?_, q⟩
    have e : b = s1.heap.objs.size := by simpa using hb
    subst e
    exact I1.fpOk (Nat.le_refl _) (I1.hok.fresh (Nat.le_refl _))
  · obtain ⟨its, rv, p, hz⟩ := I1.tuple hq
    refine wpAny_pyIter_tuple (show s1.heap.IsTuple a its.toArray from p) ?_
    refine ⟨s1.heap.objs.size, [s1.heap.objs.size], _, _, H1, rfl, I1.kept (t' := s1.toks) fun b o e => Heap.get?_push_of_some _ e, turn_tuple a _, ⟨_, Heap.get?_push_size _ rfl, rfl, rfl⟩, fun b hb => ?_, q⟩
    have e : b = s1.heap.objs.size := by simpa using hb
    subst e
    exact I1.fpOk (Nat.le_refl _) (I1.hok.fresh (Nat.le_refl _))

/-! ### str(x) of a number or a text; sep.join(list of texts) -/
end
end L2

set_option maxHeartbeats 4000000
namespace L2
open PySem PySem.Spec PyProof.Rows PySem.W

/-! ### the asking tree of a sort, run -/
def kRun {α : Type} (lt : Nat → Nat → Bool) : KasT α → α
  | .ret a => a
  | .ask i j k => kRun lt (k (lt i j))
def kOk {α : Type} (n : Nat) (P : α → Prop) : KasT α → Prop
  | .ret a => P a
  | .ask i j k => i < n ∧ j < n ∧ ∀ b, kOk n P (k b)
theorem kOk_bind {α β : Type} {n : Nat} {P : α → Prop} {R : β → Prop} {f : α → KasT β} : ∀ {t : KasT α}, kOk n P t → (∀ a, P a → kOk n R (f a)) → kOk n R (t.bind f)
  | .ret a, h, hf => hf a h
  | .ask i j k, ⟨h1, h2, h3⟩, hf => ⟨h1, h2, fun b => kOk_bind (h3 b) hf⟩
theorem kOk_run {α : Type} {n : Nat} {P : α → Prop} {lt : Nat → Nat → Bool} : ∀ {t : KasT α}, kOk n P t → P (kRun lt t)
  | .ret a, h => h
  | .ask i j k, ⟨h1, h2, h3⟩ => kOk_run (t := k (lt i j)) (h3 (lt i j))
theorem kasWp_run {α : Type} {n : Nat} {P : α → Prop} {cmp : Nat → Nat → (Bool → Shared → Prop) → Shared → Prop} {lt : Nat → Nat → Bool} {s : Shared} (hc : ∀ i j C, i < n → j < n → C (lt i j) s → cmp i j C s) :
    ∀ {t : KasT α} {C : α → Shared → Prop}, kOk n P t → C (kRun lt t) s → KasT.kasWp cmp t C s
  | .ret a, C, h, q => q
  | .ask i j k, C, ⟨h1, h2, h3⟩, q => hc i j _ h1 h2 (kasWp_run hc (h3 _) q)

/-- all entries below n -/
def Low (n : Nat) (p : Array Nat) : Prop := ∀ x ∈ p, x < n
theorem Low.get {n : Nat} {p : Array Nat} (h : Low n p) (h0 : 0 < n) (i : Nat) : p.getD i 0 < n := by
  unfold Array.getD
  split
  · exact h _ (Array.getElem_mem _)
  · exact h0
theorem Low.swap {n : Nat} {p : Array Nat} (h : Low n p) (i j : Nat) : Low n (p.swapIfInBounds i j) := by
  unfold Array.swapIfInBounds
  split
  · split
    · exact fun x hx => h x ((Array.swap_perm _ _).mem_iff.mp hx)
    · exact h
  · exact h
theorem Low.fold {n : Nat} (f g : Nat → Nat) : ∀ (l : List Nat) {p : Array Nat}, Low n p → Low n (l.foldl (fun a k => a.swapIfInBounds (f k) (g k)) p)
  | [], _, h => h
  | k :: l, _, h => Low.fold f g l (h.swap _ _)
theorem Low.rev {n : Nat} {p : Array Nat} (h : Low n p) (i j : Nat) : Low n (kas_rev p i j) := Low.fold (fun k => i + k) (fun k => j - 1 - k) _ h
theorem Low.bub {n : Nat} {p : Array Nat} (h : Low n p) (i j : Nat) : Low n (bubble p i j) := Low.fold (fun k => i - k) (fun k => i - k - 1) _ h
theorem ok_asc {n : Nat} (h0 : 0 < n) {p : Array Nat} (h : Low n p) : ∀ (f x : Nat), kOk n (fun _ => True) (kas_asc p f x)
  | 0, x => trivial
  | f + 1, x => by
    rw [kas_asc.eq_2]
    refine ⟨h.get h0 _, h.get h0 _, fun b => ?_⟩
    cases b
    · exact ok_asc h0 h f (x + 1)
    · exact trivial
theorem ok_desc {n : Nat} (h0 : 0 < n) : ∀ (f : Nat) {p : Array Nat} (a b : Nat), Low n p → kOk n (fun r => Low n r.1) (kas_desc f p a b)
  | 0, p, a, b, h => by
    rw [kas_desc.eq_1]
    exact h
  | f + 1, p, a, b, h => by
    rw [kas_desc.eq_2]
    refine ⟨h.get h0 _, h.get h0 _, fun c => ?_⟩
    cases c
    · refine ⟨h.get h0 _, h.get h0 _, fun d => ?_⟩
      cases d
      · exact ok_desc h0 f _ _ h
      · exact h
    · show kOk n _ (if b > 0 then kas_desc f (kas_rev p (a - (b + 1)) a) (a + 1) 0 else kas_desc f p (a + 1) 0)
      split
      · exact ok_desc h0 f _ _ (h.rev _ _)
      · exact ok_desc h0 f _ _ h
theorem ok_tail3 {n : Nat} (h0 : 0 < n) {p : Array Nat} (h : Low n p) (a b : Nat) : kOk n (fun r => Low n r.2) (kas_tail3 a b p) := by
  unfold kas_tail3
  exact kOk_bind (ok_asc h0 (h.rev _ _) _ _) fun m _ => h.rev _ _
theorem ok_descPart {n : Nat} (h0 : 0 < n) {p : Array Nat} (h : Low n p) (a b : Nat) : kOk n (fun r => Low n r.2) (kas_descPart a b p) := by
  unfold kas_descPart
  refine kOk_bind (ok_desc h0 _ _ _ h) fun r hr => ?_
  split
  · exact ok_tail3 h0 (hr.rev _ _) _ _
  · exact ok_tail3 h0 hr _ _
theorem ok_count {n : Nat} (h0 : 0 < n) {p : Array Nat} (h : Low n p) (a : Nat) : kOk n (fun r => Low n r.2) (kas_count a p) := by
  unfold kas_count
  refine kOk_bind (ok_asc h0 h _ _) fun m _ => ?_
  split
  · exact h
  · split
    · refine ⟨h.get h0 _, h.get h0 _, fun c => ?_⟩
      cases c
      · exact ok_descPart h0 (h.rev _ _) _ _
      · exact h
    · exact ok_descPart h0 h _ _
theorem ok_place {n : Nat} (h0 : 0 < n) {p : Array Nat} (h : Low n p) (k : Nat) : ∀ (f l r : Nat), kOk n (fun _ => True) (kas_place p k f l r)
  | 0, l, r => by
    rw [kas_place.eq_def]
    exact trivial
  | f + 1, l, r => by
    rw [kas_place.eq_def]
    show kOk n _ (if l ≥ r then _ else _)
    split
    · exact trivial
    · refine ⟨h.get h0 _, h.get h0 _, fun c => ?_⟩
      cases c
      · exact ok_place h0 h k f _ _
      · exact ok_place h0 h k f _ _
theorem ok_bin {n : Nat} (h0 : 0 < n) : ∀ (f : Nat) {p : Array Nat} (k : Nat), Low n p → kOk n (Low n) (kas_bin f p k)
  | 0, p, k, h => by
    rw [kas_bin.eq_1]
    exact h
  | f + 1, p, k, h => by
    rw [kas_bin.eq_2]
    exact kOk_bind (ok_place h0 h _ _ _ _) fun l _ => ok_bin h0 f _ (h.bub _ _)
theorem ok_sort {n : Nat} (h0 : 0 < n) : kOk n (Low n) (kas_sort n) := by
  unfold kas_sort
  have h : Low n (List.range n).toArray := fun x hx => List.mem_range.mp (by simpa using hx)
  refine kOk_bind (ok_count h0 h _) fun r hr => ?_
  split
  · exact ok_bin h0 _ _ hr
  · exact hr

/-! ### two things that are shown of one doing meet -/
open Classical in
theorem wp_meet {α : Type} {M : Model} {m : Sem α} {s : Shared} {Q1 Q2 : α → Prop} (h1 : ∀ A, wpAny M A m (fun a _ => Q1 a) (fun _ _ => False) s) (h2 : ∀ A, wpAny M A m (fun a _ => Q2 a) (fun _ _ => False) s) : ∃ a, Q1 a ∧ Q2 a := by
  refine Classical.byContradiction fun no => ?_
  let t : Sem PySem.Fin := m >>= fun a => pure (PySem.Fin.done (Flow.ret (Value.bool (decide (Q1 a)))))
  let c : Code := .builtin "boot" {}
  have go : ∀ (b : Bool) (Q : α → Prop), (∀ A, wpAny M A m (fun a _ => Q a) (fun _ _ => False) s) → (∀ a, Q a → decide (Q1 a) = b) → ∃ r s', Reach M [] s t c default [] s' (End.ret r) ∧ r = Except.ok (Flow.ret (Value.bool b)) := fun b Q h e => by
    refine (wp_iff_reach (M := M) (base := []) (c := c) t (fun r _ => r = Except.ok (Flow.ret (Value.bool b))) default s).mp ?_
    have hA : wpAny M { handled := (Ctx.of c []).handled, depth := frameCount (Ctx.of c []).below + (Ctx.of c []).code.weight, frames := none, guards := none, units := (Ctx.of c []).units } t (fun fin _ => fin = PySem.Fin.done (Flow.ret (Value.bool b))) (fun _ _ => False) s := by
      refine wpAny_bind (thn (h _) fun a s' ha => wpAny_pure ?_)
      rw [e a ha]
    have := hA (Ctx.of c []) default ⟨rfl, Nat.le_refl _, fun l z => (nomatch z), fun l z => (nomatch z), Nat.le_refl _⟩
    refine Sem.wp_mono M (Ctx.of c []) t ?_ ?_ default s this
    · intro fin p s' e
      subst e
      rfl
    · intro _ _ _ z
      exact z.elim
  obtain ⟨r1, s1, e1, f1⟩ := go true Q1 h1 fun a h => decide_eq_true h
  obtain ⟨r2, s2, e2, f2⟩ := go false Q2 h2 fun a h => decide_eq_false fun z => no ⟨a, z, h⟩
  obtain ⟨_, e⟩ := e1.det e2
  have e : r1 = r2 := by
    injection e
  rw [f1, f2] at e
  cases e

/-! ### the tree's answer, for numbers -/
theorem arr_map_toList {α β : Type} (f : α → β) (p : Array α) : (p.map f).toList = p.toList.map f := by simp
theorem tree_ints {prog : Program} {w : World} {s : Shared} (ks : List Int) (h2 : 2 ≤ ks.length) (h64 : ks.length < 64) :
    (kRun (fun i j => decide (ks.getD i 0 < ks.getD j 0)) (kas_sort ks.length)).toList.Perm (List.range ks.length) ∧
      ∀ i j, i ≤ j → j < ks.length → ks.getD ((kRun (fun i j => decide (ks.getD i 0 < ks.getD j 0)) (kas_sort ks.length)).getD i 0) 0 ≤ ks.getD ((kRun (fun i j => decide (ks.getD i 0 < ks.getD j 0)) (kas_sort ks.length)).getD j 0) 0 := by
  have h0 : 0 < ks.length := by omega
  have low : Low ks.length (kRun (fun i j => decide (ks.getD i 0 < ks.getD j 0)) (kas_sort ks.length)) := kOk_run (ok_sort h0)
  generalize hp : kRun (fun i j => decide (ks.getD i 0 < ks.getD j 0)) (kas_sort ks.length) = p at low ⊢
  let itL : List Keyed := (List.range ks.length).map fun i => (Value.int (ks.getD i 0) 0, Value.int (i : Nat) 0)
  let it : Array Keyed := itL.toArray
  have isz : it.size = ks.length := by simp [it, itL]
  have item : ∀ i, i < ks.length → kas_item it i = (Value.int (ks.getD i 0) 0, Value.int (i : Nat) 0) := fun i hi => by
    show it.getD i (Value.none, Value.none) = _
    simp [it, itL, Array.getD, hi]
  have st0 : Array.map (kas_item it) (List.range ks.length).toArray = it := by
    apply Array.ext
    · simp [isz]
    · intro i h1 h2
      have hi : i < ks.length := by simpa using h1
      simp only [Array.getElem_map, List.getElem_toArray, List.getElem_range]
      rw [item i hi]
      simp [it, itL]
  obtain ⟨r, ⟨q1, q2⟩, q3, q4⟩ := wp_meet (M := model prog w) (m := sortRuns'.run (kas_st oneType' it (List.range ks.length).toArray)) (s := s)
    (Q1 := fun r => (arrOf r.2).Perm it ∧ SortedTo (arrOf r.2) it.size) (Q2 := fun r => arrOf r.2 = Array.map (kas_item it) p ∧ p.size = ks.length)
    (fun A => by
      have := wpS_sortRuns (prog := prog) (w := w) (A := A) (E := fun _ _ => False) (s := s) (a₀ := it) (st := kas_st oneType' it (List.range ks.length).toArray) (Q := fun _ st' => (arrOf st').Perm it ∧ SortedTo (arrOf st') it.size)
        (fun x hx => by
          have hx : x ∈ itL := by simpa [it] using hx
          obtain ⟨i, _, rfl⟩ := List.mem_map.mp hx
          exact ⟨_, _, rfl⟩) ⟨by show (Array.map (kas_item it) (List.range ks.length).toArray).Perm it; rw [st0], rfl, rfl, rfl⟩ (by rw [isz]; exact h2) (by rw [isz]; exact h64) fun st' a1 a2 a3 => ⟨a1, a3⟩
      exact thn this fun r s' h => h.2)
    (fun A => by
      show kasC (model prog w) A (fun _ _ => False) sortRuns' (fun _ st' _ => arrOf st' = Array.map (kas_item it) p ∧ p.size = ks.length) (kas_st oneType' it (List.range ks.length).toArray) s
      refine kas_runs (G := fun p' _ => p' = p) h2 h64 (fun p' st' s' e1 e2 e3 e4 => by subst e4; exact ⟨e2, e1⟩) ?_
      refine kasWp_run (lt := fun i j => decide (ks.getD i 0 < ks.getD j 0)) (fun i j C hi hj q => ?_) (ok_sort h0) hp
      unfold kas_cmp
      rw [item i hi, item j hj]
      exact kat_lt_int q)
  rw [q3] at q1 q2
  have plow : ∀ x ∈ p.toList, x < ks.length := fun x hx => low x (by simpa using hx)
  constructor
  · have q1' : (p.toList.map (kas_item it)).Perm itL := by
      have := Array.perm_iff_toList_perm.mp q1
      rwa [arr_map_toList] at this
    have g := q1'.map fun x : Keyed => match x.2 with | .int i _ => i.toNat | _ => 0
    rw [List.map_map] at g
    have e1 : p.toList.map ((fun x : Keyed => match x.2 with | .int i _ => i.toNat | _ => 0) ∘ kas_item it) = p.toList := by
      refine (List.map_congr_left fun x hx => ?_).trans (List.map_id _)
      show (match (kas_item it x).2 with | .int i _ => i.toNat | _ => 0) = x
      rw [item x (plow x hx)]
      rfl
    have e2 : itL.map (fun x : Keyed => match x.2 with | .int i _ => i.toNat | _ => 0) = List.range ks.length := by
      show (List.map _ (List.map _ _)) = _
      rw [List.map_map]
      refine (List.map_congr_left fun x hx => ?_).trans (List.map_id _)
      rfl
    rw [e1, e2] at g
    exact g
  · intro i j hij hj
    have k := q2 i j hij (by rw [isz]; exact hj)
    have at_ : ∀ i, i < ks.length → PyProof.Rows.K (Array.map (kas_item it) p) i = ks.getD (p.getD i 0) 0 := fun i hi => by
      have hs : i < p.size := by rw [q4]; exact hi
      unfold PyProof.Rows.K
      have e : (Array.map (kas_item it) p)[i]? = some (kas_item it p[i]) := by
        rw [Array.getElem?_map, Array.getElem?_eq_getElem hs]
        rfl
      rw [e, item _ (low _ (Array.getElem_mem hs))]
      have : p.getD i 0 = p[i] := by simp [Array.getD, hs]
      rw [this]
      rfl
    rw [at_ i (by omega), at_ j hj] at k
    exact k
end L2

set_option maxHeartbeats 4000000
namespace L2
open PySem PySem.Spec PyProof.Rows PySem.W

/-! ### pairs of numbers in their order -/
end L2

set_option maxHeartbeats 4000000
namespace L2
open PySem PySem.Spec PyProof.Rows PySem.W
section
variable {prog : Program} {w : World} {A : Around} {E : Value → Shared → Prop} {s : Shared}
/-- list.sort of any things -/
theorem sortT {a : Addr} {vs : List Value} {n : Nat} {P : PySem.Fin → Shared → Prop} {G : Array Nat → Prop} (ho : s.heap.get? a = some (seqObj "list" vs.toArray n)) (h64 : vs.length < 64)
    (hs : 2 ≤ vs.length → ∀ s1 : Shared, (∀ b o, b ≠ a → s.heap.get? b = some o → s1.heap.get? b = some o) → wpAny (model prog w) A (keyKind' vs.toArray) (fun κ s2 => s2 = s1 ∧ KasT.kasWp (kas_cmp prog w A κ (pairsOf vs)) (kas_sort vs.length) (fun p s3 => s3 = s1 ∧ G p) s1) E s1)
    (hP : ∀ out : Array Value, (vs.length < 2 ∧ out = vs.toArray) ∨ (∃ p : Array Nat, G p ∧ p.size = vs.length ∧ out = p.map fun i => vs.getD i .none) → P (PySem.Fin.done (Flow.ret .none)) { s with heap := sortedHeap s.heap a vs out }) :
    wpAny (model prog w) A (Builtin.«list.sort» { pos := [Value.ref a] }) P E s := by
  have sl : sizeLine = 16777216 := sizeLine_eq
  have ha := Heap.lt_size ho
  rw [list_sort_plain]
  refine wpAny_bind (listItems_at ho rfl (wpAny_bind (listUpdate_at ho rfl ?_ (by rw [List.size_toArray]; omega) (by show 0 ≤ _; omega))))
  obtain ⟨e1, ho1⟩ : ∃ e1, (s.heap.update a (Obj.mapSeq fun _ => #[])).get? a = some (seqObj "list" #[] e1) := ⟨_, get?_update_seq ho fun _ => #[]⟩
  refine wpAny_bind (seqEpoch_at ho1 rfl (wpAny_bind (wpAny_newTuple (wpAny_bind (wpAny_newList (wpAny_holding ?_) (by show 0 ≤ _; omega))) (by show vs.toArray.toList.length ≤ _; simp; omega))))
  have ho6 : (((s.heap.update a (Obj.mapSeq fun _ => #[])).push (seqObj "tuple" vs.toArray 0)).push (seqObj "list" #[] 0)).get? a = some (seqObj "list" #[] e1) := by
    rw [Heap.get?_push_ne _ _ _ (by rw [size_push', Heap.size_update]; exact Nat.ne_of_lt (Nat.lt_succ_of_lt ha)), Heap.get?_push_ne _ _ _ (by rw [Heap.size_update]; exact Nat.ne_of_lt ha)]
    exact ho1
  have old : ∀ b o, b ≠ a → s.heap.get? b = some o → (((s.heap.update a (Obj.mapSeq fun _ => #[])).push (seqObj "tuple" vs.toArray 0)).push (seqObj "list" #[] 0)).get? b = some o := fun b o hb e => by
    have hl := Heap.lt_size e
    rw [Heap.get?_push_ne _ _ _ (by rw [size_push', Heap.size_update]; exact Nat.ne_of_lt (Nat.lt_succ_of_lt hl)), Heap.get?_push_ne _ _ _ (by rw [Heap.size_update]; exact Nat.ne_of_lt hl), Heap.get?_update_ne _ _ _ _ hb]
    exact e
  have sz : vs.toArray.size = vs.length := by simp
  show wpAny _ _ (if vs.toArray.size < 2 then _ else _) _ _ _
  by_cases h2 : vs.toArray.size < 2
  · rw [if_pos h2]
    refine wpAny_bind (wpAny_pure ?_)
    show wpAny _ _ ((if vs.toArray.size < 2 then pure () else sortRuns').run (SortSt.mk' general' (vs.toArray.zip vs.toArray) #[] 7 none) >>= _) _ _ _
    rw [if_pos h2]
    refine wpAny_bind (wpAny_pure ?_)
    have e : Array.map (fun x => x.2) (arrOf (SortSt.mk' general' (vs.toArray.zip vs.toArray) #[] 7 none)) = vs.toArray := by
      show Array.map (fun x => x.2) (vs.toArray.zip vs.toArray) = _
      apply Array.ext
      · simp
      · intro i a b
        simp
    refine wpAny_bind (seqEpoch_at ho6 rfl (wpAny_bind (listUpdate_at ho6 rfl ?_ (by show 0 ≤ _; omega) (by show (Array.map _ _).size ≤ _; rw [e]; omega))))
    show wpAny _ _ (if (e1 != e1) = true then _ else _) _ _ _
    rw [if_neg (by simp)]
    refine wpAny_pure ?_
    rw [e]
    exact hP _ (.inl ⟨by omega, rfl⟩)
  · rw [if_neg h2]
    refine wpAny_bind (thn (hs (by omega) _ old) fun κ s2 ⟨es, hk⟩ => ?_)
    subst es
    show wpAny _ _ ((if vs.toArray.size < 2 then pure () else sortRuns').run (SortSt.mk' κ (vs.toArray.zip vs.toArray) #[] 7 none) >>= _) _ _ _
    rw [if_neg h2]
    have st0 : Array.map (kas_item (pairsOf vs)) (List.range vs.length).toArray = vs.toArray.zip vs.toArray := by
      apply Array.ext
      · simp
      · intro i a b
        have hi : i < vs.length := by simpa using a
        simp only [Array.getElem_map, List.getElem_toArray, List.getElem_range]
        show (pairsOf vs).getD i (.none, .none) = _
        have : i < (pairsOf vs).size := by rw [pairsOf_size]; exact hi
        simp [Array.getD, this, pairsOf, hi]
    rw [← st0]
    refine wpAny_bind ?_
    have go : kasC (model prog w) A E sortRuns' (fun _ st' s' => s' = _ ∧ failedOf st' = none ∧ ∃ p : Array Nat, G p ∧ p.size = vs.length ∧ arrOf st' = Array.map (kas_item (pairsOf vs)) p) (kas_st κ (pairsOf vs) (List.range vs.length).toArray) _ :=
      kas_runs (by omega) h64 (fun p' st' s' z1 z2 z3 z4 => ⟨z4.1, z3, p', z4.2, z1, z2⟩) hk
    refine thn go fun r s' ⟨es, hf, p, hg, hps, ha'⟩ => ?_
    obtain ⟨u, st'⟩ := r
    subst es
    have e : Array.map (fun x => x.2) (arrOf st') = p.map fun i => vs.getD i .none := by
      have ha' : arrOf st' = Array.map (kas_item (pairsOf vs)) p := ha'
      rw [ha', Array.map_map]
      congr 1
      funext i
      show (kas_item (vs.toArray.zip vs.toArray) i).2 = _
      rw [kat_item rfl]
    refine wpAny_bind (seqEpoch_at ho6 rfl (wpAny_bind (listUpdate_at ho6 rfl ?_ (by show 0 ≤ _; omega) (by show (Array.map _ _).size ≤ _; rw [e, Array.size_map]; omega))))
    have hf : failedOf st' = none := hf
    rw [hf]
    show wpAny _ _ (if (e1 != e1) = true then _ else _) _ _ _
    rw [if_neg (by simp)]
    refine wpAny_pure ?_
    rw [e]
    exact hP _ (.inr ⟨p, hg, hps, rfl⟩)
end
end L2

set_option maxHeartbeats 4000000
namespace L2
open PySem PySem.Spec PyProof.Rows PySem.W
section
variable {prog : Program} {w : World} {A : Around} {E : Value → Shared → Prop} {s : Shared}
end
theorem paired_of_map {α β γ : Type} {F : β → γ → Prop} (f : α → β) (g : α → γ) : ∀ {l : List α}, (∀ i ∈ l, F (f i) (g i)) → Paired F (l.map f) (l.map g)
  | [], _ => .nil
  | a :: l, h => .cons (h a (List.mem_cons_self ..)) (paired_of_map f g fun i hi => h i (List.mem_cons_of_mem _ hi))
section
variable {X : Cx}
end
end L2

set_option maxHeartbeats 4000000
namespace L2
open PySem PySem.Spec PyProof.Rows PySem.W
section
variable {X : Cx}
end
end L2

set_option maxHeartbeats 4000000
namespace L2
open PySem PySem.Spec PyProof.Rows PySem.W
section
variable {prog : Program} {w : World} {A : Around} {E : Value → Shared → Prop}
end
section
variable {X : Cx} {pos : Pos}
end
end L2

set_option maxHeartbeats 4000000
namespace L2
open PySem PySem.Spec PyProof.Rows PySem.W
section
variable {X : Cx}
/-- behind a call that keeps every object but the frame's own, and the frame's names -/
theorem Inv.byNews {pins : List (Addr × Obj)} {σ : St} {H : Hp} {s : Shared} {h' : Heap} {tk : Nat} {m : Str → Option Value} (I : Inv X pins σ H s) (hn : s.heap.Ns X.env.locals m) (F : Fr X.base X.env.locals h' m) (N : News X.base X.env.locals h' (allNews X.base s.heap X.env.locals)) :
    Inv X pins σ H { s with heap := h', toks := tk } := by
  have keep : ∀ b o, b ≠ X.env.locals → s.heap.get? b = some o → h'.get? b = some o := fun b o hb e => by
    cases z : X.base.get? b with
    | some o' =>
      have := I.bk b o' z
      rw [e] at this
      cases this
      exact F.keep b o z
    | none => exact (N (b, o) (mem_allNews hb z e)).1
  refine I.step (g' := s.gens) (d' := s.drawn) (ch := []) (fun _ z => nomatch z) (fun b o hb _ _ e _ => keep b o hb e) (fun b o hb _ _ e _ => ⟨o.slots, keep b o hb e⟩) (fun b o _ e n => n) (fun b o _ e => ?_) (fun _ _ e => e) (fun _ _ _ e => e) (fun b ps e => ⟨#[], by simpa using e⟩) (fun m' hm => ?_) (fun b o q => ?_) I.bare
  · by_cases hb : b = X.env.locals
    · subst hb
      obtain ⟨o', _, _, z, _⟩ := F.ns
      exact ⟨o', z⟩
    · exact ⟨o, keep b o hb e⟩
  · have : m' = m := funext fun x => hm.agree hn x
    subst this
    exact F.ns
  · refine (I.hok b o q).stay (fun c w' hc r => keep c w' ?_ r) (fun _ r => r) fun _ _ r => r
    rintro rfl
    rcases hc with hc | hc
    · rw [← hc, I.free] at q; cases q
    · rw [I.free] at hc; cases hc
theorem bools_are : ∀ {bs : List Bool} {us : List Value}, Vals (bs.map V.bl) us → LSm.BoolsAre us bs
  | [], _, .nil => .nil
  | b :: bs, _, .cons e r => by
    cases (show _ = Value.bool b from e)
    exact .cons b (bools_are r)
theorem call_any (hc : X.calm = true) : CallR X (.builtin "any") (fun xs H Q => ∃ (a : Addr) (bs : List Bool), xs = [.ref a] ∧ SqL X.K H a (bs.map V.bl) ∧ Q (.bl (bs.any id)) H) := by
  intro pins s σ H xs us Q I r h
  obtain ⟨a, bs, rfl, hq, q⟩ := h
  obtain ⟨u, rfl, rx⟩ := vals1 r
  cases rx
  obtain ⟨its, r', pl, hz⟩ := I.list hq
  obtain ⟨m, F⟩ := I.fr
  exact LSm.any_bools F news_all (I.ok.hd hc) pl.isList (bools_are r') fun h' tk F' N' => ⟨.bl _, H, I.byNews F.ns F' N', rfl, q⟩
theorem call_all (hc : X.calm = true) : CallR X (.builtin "all") (fun xs H Q => ∃ (a : Addr) (bs : List Bool), xs = [.ref a] ∧ SqL X.K H a (bs.map V.bl) ∧ Q (.bl (bs.all id)) H) := by
  intro pins s σ H xs us Q I r h
  obtain ⟨a, bs, rfl, hq, q⟩ := h
  obtain ⟨u, rfl, rx⟩ := vals1 r
  cases rx
  obtain ⟨its, r', pl, hz⟩ := I.list hq
  obtain ⟨m, F⟩ := I.fr
  exact LSm.all_bools F news_all (I.ok.hd hc) pl.isList (bools_are r') fun h' tk F' N' => ⟨.bl _, H, I.byNews F.ns F' N', rfl, q⟩
end
end L2

set_option maxHeartbeats 4000000
namespace L2
open PySem PySem.Spec PyProof.Rows PySem.W
theorem ObjOk.get {P : Program} {w : World} {H : Hp} {h : Heap} {a : Addr} {o : HO} (x : ObjOk P w H h a o) : ∃ u, h.get? a = some u := by
  cases o with
  | lst xs => obtain ⟨_, _, _, _, e⟩ := x; exact ⟨_, e⟩
  | tup xs => obtain ⟨_, _, _, o, e, _⟩ := x; exact ⟨_, e⟩
  | dK kvs => obtain ⟨_, _, _, _, o, _, _, e, _⟩ := x; exact ⟨_, e⟩
  | dT kvs => obtain ⟨_, _, _, _, o, _, _, e, _⟩ := x; exact ⟨_, e⟩
  | set S n => obtain ⟨o, _, _, _, e, _⟩ := x; exact ⟨_, e⟩
  | ins C dx fs => obtain ⟨_, _, _, e, _⟩ := x; exact ⟨_, e⟩
  | own y => obtain ⟨_, e⟩ := x; exact ⟨_, e⟩
  | xd fs => obtain ⟨_, ⟨_, _, _, e, _⟩, _⟩ := x; exact ⟨_, e⟩
  | rng lo hi => obtain ⟨_, _, _, e⟩ := x; exact ⟨_, e⟩
  | frz ob u => obtain ⟨e, _⟩ := x; exact ⟨_, e⟩
  | tbl ps => exact ⟨_, show h.get? a = some _ from x⟩
  | met f y => exact ⟨_, show h.get? a = some _ from x⟩
  | ext φ => obtain ⟨_, ⟨_, e⟩, _⟩ := x; exact ⟨_, e⟩
section
variable {X : Cx}
/-- .. and a new list at D -/
theorem Inv.byNewsL {pins : List (Addr × Obj)} {σ : St} {H : Hp} {s : Shared} {h' : Heap} {tk : Nat} {m : Str → Option Value} {D : Addr} {zs : List V} (I : Inv X pins σ H s) (hn : s.heap.Ns X.env.locals m) (hns : h'.Ns X.env.locals m)
    (keep : ∀ b o, b ≠ X.env.locals → s.heap.get? b = some o → h'.get? b = some o) (hD : s.heap.get? D = none) (hl : zs.length ≤ sizeLine) {its : List Value} {n : Nat} (rv : Vals zs its) (at_ : h'.get? D = some { cls := .type "list", data := .seq its.toArray n }) :
    H D = none ∧ Inv X pins σ (upd H D (.lst zs)) { s with heap := h', toks := tk } := by
  have hH : H D = none := by
    cases z : H D with
    | none => rfl
    | some o =>
      obtain ⟨u, e⟩ := (I.hok D o z).get
      rw [hD] at e; cases e
  refine ⟨hH, ?_⟩
  have ne : ∀ b o, s.heap.get? b = some o → b ≠ D := fun b o e z => by
    rw [z, hD] at e; cases e
  have neH : ∀ b o, H b = some o → b ≠ D := fun b o e z => by
    rw [z, hH] at e; cases e
  refine I.step (g' := s.gens) (d' := s.drawn) (ch := []) (fun _ z => nomatch z) (fun b o hb _ _ e _ => keep b o hb e) (fun b o hb _ _ e _ => ⟨o.slots, keep b o hb e⟩) (fun b o _ e n => by rw [upd_ne (ne b o e)]; exact n) (fun b o _ e => ?_) (fun b xs e => by rw [upd_ne (neH b _ e)]; exact e) (fun b o u e => by rw [upd_ne (neH b _ e)]; exact e) (fun b ps e => ⟨#[], by rw [upd_ne (neH b _ e)]; simpa using e⟩) (fun m' hm => ?_) (fun b o q => ?_) I.bare
  · by_cases hb : b = X.env.locals
    · subst hb
      obtain ⟨o', _, _, z, _⟩ := hns
      exact ⟨o', z⟩
    · exact ⟨o, keep b o hb e⟩
  · have : m' = m := funext fun x => hm.agree hn x
    subst this
    exact hns
  · by_cases hb : b = D
    · subst hb
      rw [upd_same] at q
      cases q
      exact ⟨hl, its, n, rv, at_⟩
    · rw [upd_ne hb] at q
      refine (I.hok b o q).stay (fun c w' hc r => keep c w' ?_ r) (fun c e => by rw [upd_ne (neH c _ e)]; exact e) fun c xs e => by rw [upd_ne (neH c _ e)]; exact e
      rintro rfl
      rcases hc with hc | hc
      · rw [← hc, I.free] at q; cases q
      · rw [I.free] at hc; cases hc
theorem ints_getD : ∀ {ns : List Int} {us : List Value} {i : Nat}, Vals (ns.map V.int) us → i < ns.length → ∃ t, us.getD i .none = .int (ns.getD i 0) t
  | n :: ns, _, 0, .cons ⟨t, e⟩ r, _ => ⟨t, e⟩
  | n :: ns, _, i + 1, .cons e r, h => ints_getD (i := i) r (by simpa using h)
theorem ints_are : ∀ {ns : List Int} {us : List Value}, Vals (ns.map V.int) us → IntsAre us ns
  | [], _, .nil => .nil
  | n :: ns, _, .cons ⟨t, e⟩ r => by
    subst e
    exact .cons n t (ints_are r)
/-- list.sort of numbers, as a call -/
theorem sort_ints {prog : Program} {w : World} {A : Around} {E : Value → Shared → Prop} {s : Shared} {D : Addr} {vs : List Value} {ns : List Int} {n : Nat} {Q : Value → Shared → Prop} (ho : s.heap.get? D = some (seqObj "list" vs.toArray n)) (rv : Vals (ns.map V.int) vs) (h64 : ns.length < 64)
    (h : ∀ (os : List Value) (ns' : List Int), Vals (ns'.map V.int) os → ns'.Perm ns → ns'.Pairwise (· ≤ ·) → Q .none { s with heap := sortedHeap s.heap D vs os.toArray }) : wpAny (model prog w) A (call (.builtin "list.sort") [.ref D]) Q E s := by
  have hlen : vs.length = ns.length := by
    have := rv.length
    rw [List.length_map] at this
    omega
  refine wpAny_call_entry slot_list_sort ⟨_, ho, rfl⟩ entry_list_sort ?_ (args_list_sort _)
  refine sortT (G := fun p => p.toList.Perm (List.range ns.length) ∧ ∀ i j, i ≤ j → j < ns.length → ns.getD (p.getD i 0) 0 ≤ ns.getD (p.getD j 0) 0) ho (by omega) (fun h2 s1 _ => ?_) fun out hout => ⟨.none, rfl, ?_⟩
  · obtain ⟨q1, q2⟩ := tree_ints (prog := prog) (w := w) (s := s) ns (by omega) h64
    have kk : keyKind' vs.toArray = pure oneType' := by
      match vs, h2, ints_are rv with
      | v1 :: v2 :: r, _, ia => exact keyKind_ints ia
    rw [kk]
    refine wpAny_pure ⟨rfl, ?_⟩
    rw [hlen]
    refine kasWp_run (lt := fun i j => decide (ns.getD i 0 < ns.getD j 0)) (fun i j C hi hj hC => ?_) (ok_sort (n := ns.length) (by omega)) ⟨rfl, q1, q2⟩
    obtain ⟨t1, e1⟩ := ints_getD rv hi
    obtain ⟨t2, e2⟩ := ints_getD rv hj
    unfold kas_cmp
    show wpAny _ _ (keyLt' _ (kas_item (vs.toArray.zip vs.toArray) i).1 (kas_item (vs.toArray.zip vs.toArray) j).1) _ _ _
    rw [kat_item rfl, kat_item rfl]
    show wpAny _ _ (keyLt' _ (vs.getD i .none) (vs.getD j .none)) _ _ _
    rw [e1, e2]
    exact kat_lt_int hC
  · rcases hout with ⟨h2, rfl⟩ | ⟨p, ⟨g1, g2⟩, g3, rfl⟩
    · refine h vs ns rv (List.Perm.refl _) ?_
      match ns, hlen with
      | [], _ => exact List.Pairwise.nil
      | [k], _ => exact List.pairwise_singleton _ _
      | k :: k' :: r, z => simp at z; omega
    · have low : ∀ i ∈ p.toList, i < ns.length := fun i hi => List.mem_range.mp (g1.mem_iff.mp hi)
      have pl : p.toList.length = ns.length := by rw [g1.length_eq, List.length_range]
      have e : p.map (fun i => vs.getD i .none) = (p.toList.map fun i => vs.getD i .none).toArray := by
        apply Array.ext'
        simp
      rw [e]
      refine h _ (p.toList.map fun i => ns.getD i 0) ?_ ?_ ?_
      · rw [List.map_map]
        exact paired_of_map _ _ fun i hi => by
          obtain ⟨t, e⟩ := ints_getD rv (low i hi)
          exact ⟨t, e⟩
      · have := g1.map fun i => ns.getD i 0
        have e2 : (List.range ns.length).map (fun i => ns.getD i 0) = ns := by
          apply List.ext_getElem
          · simp
          · intro i h1 h2
            simp [List.getD_eq_getElem?_getD, h2]
        rwa [e2] at this
      · rw [List.pairwise_iff_getElem]
        intro i j hi hj hij
        have hj' : j < ns.length := by rw [List.length_map, pl] at hj; exact hj
        have k := g2 i j (by omega) hj'
        have g : ∀ i (h : i < p.toList.length), p.getD i 0 = p.toList[i] := fun i h => by
          have : i < p.size := by simpa using h
          simp [Array.getD, this]
        rw [g i (by omega), g j (by omega)] at k
        rw [List.getElem_map, List.getElem_map]
        exact k
/-- sorted(a dict whose keys are numbers) -/
theorem call_sortedD (hc : X.calm = true) : CallR X (.builtin "sorted") (fun xs H Q => ∃ (a : Addr) (kvs : List (Key × V)) (ns : List Int), xs = [.ref a] ∧ H a = some (.dK kvs) ∧ kvs.map (·.1) = ns.map Sum.inl ∧ ns.length < 64 ∧
    ∀ (l : Addr) (ns' : List Int), H l = none → ns'.Perm ns → ns'.Pairwise (· ≤ ·) → Q (.ref l) (upd H l (.lst (ns'.map V.int)))) := by
  intro pins s σ H xs us Q I r h
  obtain ⟨a, kvs, ns, rfl, hq, hk, h64, q⟩ := h
  obtain ⟨u, rfl, rx⟩ := vals1 r
  cases rx
  obtain ⟨hz, hS, vs, rv, o, es, ep, d1, d2, d3, d4, d5, d6⟩ := I.hok a _ hq
  have sl : sizeLine = 16777216 := sizeLine_eq
  have vl : kvs.length = vs.length := Paired.length rv
  have kl : kvs.length = ns.length := by
    have := congrArg List.length hk
    rwa [List.length_map, List.length_map] at this
  obtain ⟨m, F⟩ := I.fr
  have keys : vs.map (·.1) = ns.map Sum.inl := by
    rw [← hk]
    clear hk hq d5 d6 vl kl hz q
    induction rv with
    | nil => rfl
    | cons e t ih => rw [List.map_cons, List.map_cons, ih, e.1]
  refine kdu_sorted (kdl_dict (knd := mixKind X.prog X.w) (kvs := vs) (ep := ep) hS) (I.ok.hd hc) F news_all ⟨o, es, d1, d2, d3, d4, d5, d6⟩ (by omega) fun D h' tk us F' N' above hlen hP => ?_
  have uints : ∀ j (hj : j < us.length), ∃ t, us[j] = .int (ns.getD j 0) t := fun j hj => by
    obtain ⟨k, x, e1, e2⟩ := hP j us[j] (List.getElem?_eq_getElem hj)
    have e3 : (vs.map (·.1))[j]? = some k := by rw [List.getElem?_map, e1]; rfl
    rw [keys, List.getElem?_map] at e3
    have hj' : j < ns.length := by omega
    rw [List.getElem?_eq_getElem hj'] at e3
    have e3 : Sum.inl ns[j] = k := Option.some.inj e3
    subst e3
    obtain ⟨t, e⟩ := Value.isInt_shape (k := ns[j]) (v := us[j]) e2
    exact ⟨t, by rw [e, List.getD_eq_getElem?_getD, List.getElem?_eq_getElem hj']; rfl⟩
  have rvU : Vals (ns.map V.int) us := by
    have e1 : us = (List.range us.length).map fun j => us.getD j .none := by
      apply List.ext_getElem
      · simp
      · intro i h1 h2
        simp [List.getD_eq_getElem?_getD, h1]
    have e2 : ns.map V.int = (List.range us.length).map fun j => V.int (ns.getD j 0) := by
      apply List.ext_getElem
      · simp; omega
      · intro i h1 h2
        have : i < ns.length := by simpa using h1
        simp [List.getD_eq_getElem?_getD, this]
    rw [e2]
    rw [e1]
    simp only [List.length_map, List.length_range]
    refine paired_of_map _ _ fun j hj => ?_
    have hj' : j < us.length := List.mem_range.mp hj
    obtain ⟨t, e⟩ := uints j hj'
    refine ⟨t, ?_⟩
    rw [← e, List.getD_eq_getElem?_getD, List.getElem?_eq_getElem hj']
    rfl
  have hDn := N' (D, W.listOf us.toArray 0) (List.mem_cons_self ..)
  have hD0 : s.heap.get? D = none := by
    cases z : s.heap.get? D with
    | none => rfl
    | some ob =>
      have := above (D, ob) (mem_allNews hDn.2.1 hDn.2.2 z)
      exact absurd this (Nat.lt_irrefl _)
  have keep : ∀ b ob, b ≠ X.env.locals → s.heap.get? b = some ob → h'.get? b = some ob := fun b ob hb e => by
    cases z : X.base.get? b with
    | some o' =>
      have := I.bk b o' z
      rw [e] at this
      cases this
      exact F'.keep b ob z
    | none => exact (N' (b, ob) (List.mem_cons_of_mem _ (mem_allNews hb z e))).1
  refine sort_ints (n := 0) hDn.1 rvU h64 fun os ns' r' pm pw => ?_
  obtain ⟨c, at_⟩ := sortedHeap_at (out := os.toArray) (show h'.get? D = some (seqObj "list" us.toArray 0) from hDn.1)
  have old : ∀ b ob, b ≠ D → h'.get? b = some ob → (sortedHeap h' D us os.toArray).get? b = some ob := fun b ob hb e => by
    rw [sortedHeap_old hb (Heap.lt_size e)]
    exact e
  have ns'l : ns'.length = ns.length := pm.length_eq
  have hns : (sortedHeap h' D us os.toArray).Ns X.env.locals m := by
    obtain ⟨o1, e1, e2, z, rr⟩ := F'.ns
    exact ⟨o1, e1, e2, old _ _ hDn.2.1.symm z, rr⟩
  obtain ⟨z1, I1⟩ := I.byNewsL (tk := tk) (zs := ns'.map V.int) F.ns hns (fun b ob hb e => old b ob (fun z => by rw [z, hD0] at e; cases e) (keep b ob hb e)) hD0 (by rw [List.length_map]; omega) r' at_
  exact ⟨.ref D, _, I1, rfl, q D ns' z1 pm pw⟩
end
end L2

set_option maxHeartbeats 4000000
namespace L2
open PySem PySem.Spec PyProof.Rows PySem.W
/-! ### texts: <=, split -/
section
variable {X : Cx}
end
end L2

set_option maxHeartbeats 4000000
namespace L2
open PySem PySem.Spec PyProof.Rows PySem.W
section
variable {prog : Program} {w : World} {A : Around} {E : Value → Shared → Prop} {s : Shared}
theorem wpAny_ite' {α : Type} {M : Model} {c : Prop} [Decidable c] {a b : Sem α} {Q : α → Shared → Prop} (h1 : c → wpAny M A a Q E s) (h2 : ¬ c → wpAny M A b Q E s) : wpAny M A (if c then a else b) Q E s := by
  split
  · exact h1 ‹_›
  · exact h2 ‹_›
theorem call_enumK {t : Addr} {items : Array Value} {i : Int} {u : Tok} {Q : Value → Shared → Prop} (ht : IsTup s.heap t items) (hi : Builtin.SmallTypes.fitsIndex i = true)
    (hQ : ∀ h' : Heap, IsEnum h' (s.heap.objs.size + 1) s.heap.objs.size i .none → h'.IsTupleIter s.heap.objs.size t 0 → h'.objs.size = s.heap.objs.size + 2 → (∀ b o, s.heap.get? b = some o → h'.get? b = some o) → Q (.ref (s.heap.objs.size + 1)) { s with heap := h' }) :
    wpAny (model prog w) A (call (.type "enumerate") [.ref t] [("start", .int i u)]) Q E s := by
  refine wpAny_call (codeAny_of_tree ?_)
  refine wpAny_pure ⟨Code.quiet_builtin _ callType_meets._proof_1_1, codeAny_builtin F.entry_type_call ?_⟩
  rw [Around.under_plain (weight_type_call_type "enumerate" [.ref t] [("start", .int i u)]) (units_type_call_type "enumerate" [.ref t] [("start", .int i u)])]
  have ft := F.called_enumerate
  unfold Builtin.«type.__call__»
  refine wpAny_ite_false (by decide) ?_
  refine wpAny_ite_false (by rw [ft.canCreate]; decide) ?_
  have hct : checkTypeCall "enumerate" { pos := [.ref t], kw := [("start", .int i u)] } = pure () := by rfl
  obtain ⟨c, tl, hmro⟩ := ft.mro
  have hmade := ft.made
  refine wpAny_bind (wpAny_of_eq hct ?_)
  refine wpAny_bind (wpAny_of_eq hmro ?_)
  refine wpAny_ite_false (by simp) ?_
  refine wpAny_bind (wpAny_of_eq hmade ?_)
  refine wpAny_bind (wpAny_pure ?_)
  refine wpAny_bind (wpAny_holding ?_)
  have hcn : checkBuiltinCall "enumerate.__new__" { pos := [Value.type "enumerate", .ref t], kw := [("start", .int i u)] } = pure () := by kernel_rfl
  refine wpAny_call (codeAny_call_builtin ft.plain F.entry_enumerate_new (wpAny_of_eq hcn ?_))
  unfold Builtin.«enumerate.__new__»
  have hnc : Builtin.SmallTypes.newClass "enumerate" { pos := [Value.type "enumerate", .ref t], kw := [("start", .int i u)] } = pure (Value.type "enumerate", [.ref t]) := by rfl
  refine wpAny_bind (wpAny_of_eq hnc ?_)
  refine wpAny_ite_true (by decide) ?_
  refine wpAny_bind ?_
  unfold Builtin.SmallTypes.calledThroughType
  refine wpAny_bind (wpAny_stack_any fun st => wpAny_pure ?_)
  have rest : ∀ (R : PySem.Fin → Shared → Prop) (E' : Value → Shared → Prop), (∀ h' : Heap, IsEnum h' (s.heap.objs.size + 1) s.heap.objs.size i .none → h'.IsTupleIter s.heap.objs.size t 0 → h'.objs.size = s.heap.objs.size + 2 → (∀ b o, s.heap.get? b = some o → h'.get? b = some o) → R (PySem.Fin.done (Flow.ret (.ref (s.heap.objs.size + 1)))) { s with heap := h' }) →
      wpAny (model prog w) A.in1.in1 (do
        let obj ← Builtin.SmallTypes.indexObject "enumerate.__new__" (Value.int i u)
        let x ← asInt? obj
        match x with
        | some i =>
          if (!Builtin.SmallTypes.fitsIndex i) = true then do
            rule "enumerate.__new__.huge-start"
            match obj with
            | Value.int _ _ => do
              let given ← pure obj
              let it ← pyIter (.ref t)
              let r ← Builtin.SmallTypes.newRecord (Value.type "enumerate") (Builtin.SmallTypes.ownedTupleFields ++ [it, rawInt i, given, Value.none])
              ret r
            | _ => do
              let given ← mkInt i
              let it ← pyIter (.ref t)
              let r ← Builtin.SmallTypes.newRecord (Value.type "enumerate") (Builtin.SmallTypes.ownedTupleFields ++ [it, rawInt i, given, Value.none])
              ret r
          else do
            let it ← pyIter (.ref t)
            let r ← Builtin.SmallTypes.newRecord (Value.type "enumerate") (Builtin.SmallTypes.ownedTupleFields ++ [it, rawInt i, Value.none, Value.none])
            ret r
        | none => do
          let _ ← (unsupported "internal:enumerate.__new__" : Sem Unit)
          let it ← pyIter (.ref t)
          let r ← Builtin.SmallTypes.newRecord (Value.type "enumerate") (Builtin.SmallTypes.ownedTupleFields ++ [it, rawInt 0, Value.none, Value.none])
          ret r) R E' s := fun R E' hR => by
    refine wpAny_bind (wpAny_of_eq (a := Value.int i u) (by rfl) ?_)
    refine wpAny_bind (wpAny_of_eq (a := some i) (by rfl) ?_)
    refine wpAny_ite_false (by rw [hi]; decide) ?_
    refine wpAny_bind (wpAny_pyIter_tuple (show s.heap.IsTuple t items from ht) ?_)
    refine wpAny_bind ?_
    show wpAny _ _ (newObj (Value.type "enumerate") (Data.fields #[Value.none, Value.bool false, .ref s.heap.objs.size, rawInt i, Value.none, Value.none])) _ _ _
    refine wpAny_newObj_type ?_
    refine wpAny_pure ?_
    have sz : (s.heap.push { cls := Value.type "tuple_iterator", data := Data.fields #[Value.ref t, Value.int 0 0] }).objs.size = s.heap.objs.size + 1 := by rw [Heap.size_push]
    rw [sz]
    refine hR _ ?_ ?_ ?_ ?_
    · rw [← sz]
      exact Heap.get?_push_size _ rfl
    · exact ⟨_, Heap.get?_push_of_some _ (Heap.get?_push_size _ rfl), rfl, rfl⟩
    · rw [Heap.size_push, sz]
    · exact fun b o e => Heap.get?_push_of_some _ (Heap.get?_push_of_some _ e)
  refine wpAny_ite' (fun _ => ?_) (fun _ => ?_)
  all_goals
    refine wpAny_bind (wpAny_of_eq (a := (Value.ref t, some (Value.int i u))) (by kernel_rfl) ?_)
    refine rest _ _ fun h' e1 e2 e3 e4 => ?_
    show wpAny _ _ (isInstance (Value.ref (s.heap.objs.size + 1)) (Value.type "enumerate") >>= _) _ _ _
    refine wpAny_bind (wpAny_isInstance ⟨_, e1, rfl⟩ ft.sub ?_)
    refine wpAny_ite_false (by decide) ?_
    refine wpAny_bind (wpAny_holding (wpAny_callSpecial?_slot ⟨_, e1, rfl⟩ ft.init ?_))
    refine wpAny_call_entry_kw ft.init ⟨_, e1, rfl⟩ F.entry_object_init ?_ (by kernel_rfl)
    unfold Builtin.«object.__init__»
    refine wpAny_ite_true (by rfl) ?_
    refine wpAny_bind (wpAny_typeOf ⟨_, e1, rfl⟩ ?_)
    refine wpAny_bind (wpAny_of_eq ft.init.lookup ?_)
    refine wpAny_bind (wpAny_of_eq hmade ?_)
    refine wpAny_ite_false (by decide) ?_
    refine wpAny_ite_false (by kernel_rfl) ?_
    refine wpAny_pure ⟨_, rfl, ?_⟩
    refine wpAny_ite_false (by decide) ?_
    refine wpAny_pure ?_
    exact hQ h' e1 e2 e3 e4
end
end L2

set_option maxHeartbeats 4000000
namespace L2
open PySem PySem.Spec PyProof.Rows PySem.W
section
variable {prog : Program} {w : World} {A : Around} {E : Value → Shared → Prop} {s : Shared}
theorem nextOf_tup {it t : Addr} {i : Nat} {items : Array Value} {x : Value} {Q : Value → Shared → Prop} (hit : IsTupIter s.heap it t i) (ht : IsTup s.heap t items) (hx : items[i]? = some x)
    (hQ : ∀ h', IsTupIter h' it t (i + 1) → Heap.SameBut it s.heap h' → Q x { s with heap := h' }) : wpAny (model prog w) A (Builtin.SmallTypes.nextOf (.ref it)) Q E s := by
  obtain ⟨o, ho, hc, hd⟩ := id hit
  obtain ⟨ol, hol, hcl, nl, hdl⟩ := id ht
  unfold Builtin.SmallTypes.nextOf
  refine wpAny_bind (wpAny_callSpecial?_slot hit.typeIs slot_tupleiter_next (wpAny_call_entry slot_tupleiter_next hit.typeIs entry_tupleiter_next ?_ (args_tupleiter_next _)))
  show wpAny _ _ (field (Value.ref it) 0 >>= _) _ _ _
  refine wpAny_bind (wpAny_field ho hd (x := .ref t) rfl ?_)
  refine wpAny_ite_false (by rfl) ?_
  refine wpAny_bind (wpAny_field ho hd (x := .int i 0) rfl ?_)
  refine wpAny_bind (wpAny_seqItems hol hdl ?_)
  show wpAny _ _ (match items[((i : Int)).toNat]? with | some x => _ | none => _) _ _ _
  rw [Int.toNat_natCast, hx]
  refine wpAny_bind (wpAny_setField ho hd (by simp) ?_)
  refine wpAny_pure ⟨x, rfl, wpAny_pure (hQ _ ⟨_, Heap.get?_update_self _ ho (Obj.isFreed_of_fields (Obj.data_mapFields hd _)), (Obj.cls_mapFields o _).trans hc, ?_⟩ (Heap.SameBut.update s.heap it _))⟩
  rw [Obj.data_mapFields hd]
  simp [rawInt]
theorem nextOf_tup_end {it t : Addr} {i : Nat} {items : Array Value} {Q : Value → Shared → Prop} (hh : A.handled = none) (hit : IsTupIter s.heap it t i) (ht : IsTup s.heap t items) (hx : items[i]? = none)
    (hE : ∀ h' e, Heap.ExtBut it s.heap h' → (∃ o, h'.get? e = some o ∧ o.cls = Value.type "StopIteration") → E (.ref e) { s with heap := h' }) : wpAny (model prog w) A (Builtin.SmallTypes.nextOf (.ref it)) Q E s := by
  obtain ⟨o, ho, hc, hd⟩ := id hit
  obtain ⟨ol, hol, hcl, nl, hdl⟩ := id ht
  unfold Builtin.SmallTypes.nextOf
  refine wpAny_bind (wpAny_callSpecial?_slot hit.typeIs slot_tupleiter_next (wpAny_call_entry slot_tupleiter_next hit.typeIs entry_tupleiter_next ?_ (args_tupleiter_next _)))
  show wpAny _ _ (field (Value.ref it) 0 >>= _) _ _ _
  refine wpAny_bind (wpAny_field ho hd (x := .ref t) rfl ?_)
  refine wpAny_ite_false (by rfl) ?_
  refine wpAny_bind (wpAny_field ho hd (x := .int i 0) rfl ?_)
  refine wpAny_bind (wpAny_seqItems hol hdl ?_)
  show wpAny _ _ (match items[((i : Int)).toNat]? with | some x => _ | none => _) _ _ _
  rw [Int.toNat_natCast, hx]
  refine wpAny_bind (wpAny_rule ?_)
  refine wpAny_bind (wpAny_setField ho hd (by simp) ?_)
  unfold Builtin.SmallTypes.stopIteration
  refine wpAny_bind ?_
  unfold newExc
  refine wpAny_bind (wpAny_newTuple ?_ (Nat.zero_le _))
  refine wpAny_bind (wpAny_of_eq rfl ?_)
  refine wpAny_newObj_type ?_ (sizeOk_excFields _ _ _ _ _ _ _ _)
  unfold raiseNew
  refine wpAny_bind (wpAny_handled ?_)
  rw [show A.in1.handled = none from hh]
  refine wpAny_throw ?_
  refine hE _ _ (fun b ob hb e => ?_) ⟨_, Heap.get?_push_size _ rfl, rfl⟩
  refine Heap.get?_push_of_some _ (Heap.get?_push_of_some _ ?_)
  rw [Heap.get?_update_ne _ _ _ _ hb]
  exact e
/-- a tuple drawn from -/
theorem draws_tup {it t : Addr} {items : Array Value} (hh : A.handled = none) (ne : t ≠ it) : Draws prog w A it [it, t] items.size (fun i v => items[i]? = some v) (fun i h => IsTupIter h it t i ∧ IsTup h t items) where
  live := fun i h ⟨⟨o, ho, _⟩, _⟩ => ⟨o, ho⟩
  frame := fun i h h' ⟨⟨o, ho, r⟩, ⟨o', ho', r'⟩⟩ k => ⟨⟨o, k it (by simp) o ho, r⟩, ⟨o', k t (by simp) o' ho', r'⟩⟩
  item := fun i s Q E hi st h => nextOf_tup st.1 st.2 (Array.getElem?_eq_getElem hi) fun h' hit' sb => h _ h' s.toks (Array.getElem?_eq_getElem hi) ⟨hit', by
    obtain ⟨o', ho', r'⟩ := st.2
    exact ⟨o', (sb.2 t ne).trans ho', r'⟩⟩ sb
  done := fun s Q E st h => nextOf_tup_end hh st.1 st.2 (by simp) h
/-- the next of an enumerate that began anywhere -/
theorem next_enum {e it : Addr} {fp : List Addr} {n j : Nat} {i : Int} {P : Nat → Value → Prop} {St : Nat → Heap → Prop} {old : Value} {Q : Option Value → Shared → Prop} (D : Draws prog w A.in1 it fp n P St) (he : IsEnum s.heap e it i old) (hst : St j s.heap) (hlt : j < n) (hne : e ≠ it) (hef : e ∉ fp)
    (hQ : ∀ x h' tk, P j x → IsEnumOut h' e it (i + 1) x s.heap.objs.size → St (j + 1) h' → h'.get? s.heap.objs.size = some { cls := Value.type "tuple", data := Data.seq #[Value.int i tk, x] } → h'.objs.size = s.heap.objs.size + 1 →
      (∀ b o, b ≠ e → b ≠ it → s.heap.get? b = some o → h'.get? b = some o) → Q (some (.ref s.heap.objs.size)) { s with heap := h', toks := tk + 1 }) : wpAny (model prog w) A (pyNext (.ref e)) Q E s := by
  have hT : s.TypeIs (.ref e) "enumerate" := ⟨_, he, rfl⟩
  show wpAny _ _ (_ >>= _) _ _ _
  refine wpAny_bind (wpAny_attempt (wpAny_callSpecial?_slot hT F.slot_enumerate_next (wpAny_call_entry F.slot_enumerate_next hT F.entry_enumerate_next ?_ (F.args_enumerate_next_1 _))))
  unfold Builtin.«enumerate.__next__»
  refine wpAny_bind (wpAny_of_eq (a := (Value.ref e, [])) (by rfl) ?_)
  refine wpAny_bind (wpAny_field he rfl rfl ?_)
  refine wpAny_bind (D.item j s _ _ hlt hst fun x h1 tk hx st1 sb1 => ?_)
  have he1 := (sb1.2 e hne).trans he
  refine wpAny_bind (wpAny_field he1 rfl rfl ?_)
  refine wpAny_bind (wpAny_field he1 rfl rfl ?_)
  refine wpAny_ite_true (by rfl) ?_
  refine wpAny_bind (wpAny_mkInt ?_)
  refine wpAny_bind (wpAny_setField_rec he1 (by simp) fun h2 he2 sb2 => ?_)
  refine wpAny_bind (wpAny_setField_rec he2 (by simp) fun h3 he3 sb3 => ?_)
  refine wpAny_bind (wpAny_newTuple ?_ (by show 2 ≤ sizeLine; decide))
  have he4 : (h3.push { cls := Value.type "tuple", data := Data.seq #[Value.int i tk, x] }).get? e = some { cls := Value.type "enumerate", data := Data.fields #[Value.none, Value.bool false, Value.ref it, rawInt (i + 1), Value.none, old] } := Heap.get?_push_of_some _ he3
  unfold Builtin.SmallTypes.ownedTupleIsFree
  refine wpAny_bind (wpAny_bind (wpAny_field he4 rfl rfl (wpAny_pure ?_)))
  refine wpAny_ite_true (by rfl) ?_
  refine wpAny_bind (wpAny_rule ?_)
  refine wpAny_bind (wpAny_field he4 rfl rfl ?_)
  refine wpAny_bind (wpAny_setField_rec he4 (by simp) fun h5 he5 sb5 => ?_)
  unfold Builtin.SmallTypes.ownedTupleHandOut
  refine wpAny_bind (wpAny_bind (wpAny_setField_rec he5 (by simp) fun h6 he6 sb6 => ?_))
  refine wpAny_setField_rec he6 (by simp) fun h7 he7 sb7 => ?_
  refine wpAny_bind (wpAny_letGo ?_)
  have sz3 : h3.objs.size = s.heap.objs.size := sb3.1.trans (sb2.1.trans sb1.1)
  have sz4 : (h3.push { cls := Value.type "tuple", data := Data.seq #[Value.int i tk, x] }).objs.size = s.heap.objs.size + 1 := by rw [Heap.size_push, sz3]
  have sz7 : h7.objs.size = s.heap.objs.size + 1 := sb7.1.trans (sb6.1.trans (sb5.1.trans sz4))
  have el : e < s.heap.objs.size := Heap.lt_size he
  have old7 : ∀ b o, b ≠ e → (h3.push { cls := Value.type "tuple", data := Data.seq #[Value.int i tk, x] }).get? b = some o → h7.get? b = some o := fun b o hb z => (sb7.2 b hb).trans ((sb6.2 b hb).trans ((sb5.2 b hb).trans z))
  have k1 : ∀ b o, b ≠ e → h1.get? b = some o → h7.get? b = some o := fun b o hb z => old7 b o hb (Heap.get?_push_of_some _ ((sb3.2 b hb).trans ((sb2.2 b hb).trans z)))
  refine wpAny_pure ⟨_, rfl, ?_⟩
  show wpAny _ _ (pure (some (Value.ref h3.objs.size))) _ _ _
  refine wpAny_pure ?_
  rw [sz3]
  have he7' : h7.get? e = some { cls := Value.type "enumerate", data := Data.fields #[rawInt (h3.objs.size : Nat), Value.bool false, Value.ref it, rawInt (i + 1), Value.none, x] } := he7
  rw [sz3] at he7'
  refine hQ x h7 tk hx he7' (D.frame (j + 1) h1 h7 st1 fun b hb o z => k1 b o (fun q => hef (q ▸ hb)) z) ?_ sz7 fun b o hb hb' z => k1 b o hb ((sb1.2 b hb').trans z)
  refine old7 _ _ (Nat.ne_of_gt el) ?_
  rw [← sz3]
  exact Heap.get?_push_size _ rfl
end
end L2

set_option maxHeartbeats 4000000
namespace L2
open PySem PySem.Spec PyProof.Rows PySem.W
section
variable {prog : Program} {w : World} {A : Around} {E : Value → Shared → Prop} {s : Shared}
theorem next_enum_end {e it t : Addr} {j : Nat} {i : Int} {items : Array Value} {old : Value} {Q : Option Value → Shared → Prop} (hh : A.handled = none) (he : IsEnum s.heap e it i old) (hit : IsTupIter s.heap it t j) (ht : IsTup s.heap t items) (hx : items[j]? = none)
    (hQ : ∀ h', Heap.ExtBut it s.heap h' → Q none { s with heap := h' }) : wpAny (model prog w) A (pyNext (.ref e)) Q E s := by
  have hT : s.TypeIs (.ref e) "enumerate" := ⟨_, he, rfl⟩
  show wpAny _ _ (_ >>= _) _ _ _
  refine wpAny_bind (wpAny_attempt (wpAny_callSpecial?_slot hT F.slot_enumerate_next (wpAny_call_entry F.slot_enumerate_next hT F.entry_enumerate_next ?_ (F.args_enumerate_next_1 _))))
  unfold Builtin.«enumerate.__next__»
  refine wpAny_bind (wpAny_of_eq (a := (Value.ref e, [])) (by rfl) ?_)
  refine wpAny_bind (wpAny_field he rfl rfl ?_)
  exact wpAny_bind (nextOf_tup_end hh hit ht hx fun h' x he' ⟨o, ho, hc⟩ => wpAny_bind (wpAny_isInstance ⟨o, ho, hc⟩ isSubtype_stop (wpAny_pure (hQ h' he'))))
end
section
variable {X : Cx}
/-- the iterator's own objects at ch turned, a new tuple at T -/
theorem Inv.turnedL {pins : List (Addr × Obj)} {σ : St} {H : Hp} {s : Shared} {h' : Heap} {tk : Nat} {ch : List Addr} {T : Addr} {zs : List V} (I : Inv X pins σ H s) (hf : ∀ b ∈ ch, FpOk X pins H b) (k : ∀ b o, b ∉ ch → s.heap.get? b = some o → h'.get? b = some o)
    (hT : s.heap.objs.size ≤ T) (new : ObjOk X.prog X.w (upd H T (.tup zs)) h' T (.tup zs)) : Inv X pins σ (upd H T (.tup zs)) { s with heap := h', toks := tk } := by
  have hH : H T = none := I.hok.fresh hT
  have ne : ∀ b o, s.heap.get? b = some o → b ≠ T := fun b o e z => by
    have := Heap.lt_size e
    rw [z] at this
    exact absurd (Nat.lt_of_lt_of_le this hT) (Nat.lt_irrefl _)
  have neH : ∀ b o, H b = some o → b ≠ T := fun b o e z => by
    rw [z, hH] at e; cases e
  have lch : X.env.locals ∉ ch := fun z => (hf _ z).2.1 rfl
  refine I.step (g' := s.gens) (d' := s.drawn) (ch := ch) (fun b hb => ⟨(hf b hb).2.2.2.1, (hf b hb).2.1, (hf b hb).2.2.2.2.1, (hf b hb).2.2.2.2.2⟩) (fun b o _ _ hc e _ => k b o hc e) (fun b o _ _ hc e _ => ⟨o.slots, k b o hc e⟩) (fun b o _ e n => by rw [upd_ne (ne b o e)]; exact n) (fun b o hc e => ⟨o, k b o hc e⟩) (fun b xs e => by rw [upd_ne (neH b _ e)]; exact e) (fun b o u e => by rw [upd_ne (neH b _ e)]; exact e) (fun b ps e => ⟨#[], by rw [upd_ne (neH b _ e)]; simpa using e⟩) (fun m' hm => ?_) (fun b o q => ?_) I.bare
  · obtain ⟨o, es, ep, z, r⟩ := hm
    exact ⟨o, es, ep, k _ _ lch z, r⟩
  · by_cases hb : b = T
    · subst hb
      rw [upd_same] at q
      cases q
      exact new
    · rw [upd_ne hb] at q
      refine (I.hok b o q).stay (fun c w' hc r => k c w' ?_ r) (fun c e => by rw [upd_ne (neH c _ e)]; exact e) fun c xs e => by rw [upd_ne (neH c _ e)]; exact e
      intro z
      rcases hc with hc | hc
      · rw [← hc, (hf c z).1] at q; cases q
      · rw [(hf c z).1] at hc; cases hc
theorem Inv.turnedN {pins : List (Addr × Obj)} {σ : St} {H : Hp} {s : Shared} {h' : Heap} {tk : Nat} {ch : List Addr} (I : Inv X pins σ H s) (hf : ∀ b ∈ ch, FpOk X pins H b) (k : ∀ b o, b ∉ ch → s.heap.get? b = some o → h'.get? b = some o) : Inv X pins σ H { s with heap := h', toks := tk } := by
  have lch : X.env.locals ∉ ch := fun z => (hf _ z).2.1 rfl
  refine I.step (g' := s.gens) (d' := s.drawn) (ch := ch) (fun b hb => ⟨(hf b hb).2.2.2.1, (hf b hb).2.1, (hf b hb).2.2.2.2.1, (hf b hb).2.2.2.2.2⟩) (fun b o _ _ hc e _ => k b o hc e) (fun b o _ _ hc e _ => ⟨o.slots, k b o hc e⟩) (fun b o _ e n => n) (fun b o hc e => ⟨o, k b o hc e⟩) (fun b xs e => e) (fun b o u e => e) (fun b ps e => ⟨#[], by simpa using e⟩) (fun m' hm => ?_) (fun b o q => ?_) I.bare
  · obtain ⟨o, es, ep, z, r⟩ := hm
    exact ⟨o, es, ep, k _ _ lch z, r⟩
  · refine (I.hok b o q).stay (fun c w' hc r => k c w' ?_ r) (fun c e => e) fun c xs e => e
    intro z
    rcases hc with hc | hc
    · rw [← hc, (hf c z).1] at q; cases q
    · rw [(hf c z).1] at hc; cases hc
/-- (start, first), (start + 1, second), .. of the tuple at t -/
def Ite (K : PySem.W.Frag) (t : Addr) (start : Int) : It :=
  ⟨fun i H => ∃ xs x, SqT K H t xs ∧ xs[i]? = some x, fun i H x H' => ∃ T v, H T = none ∧ x = .ref T ∧ H' = upd H T (.tup [.int (start + i), v]) ∧ ∀ xs, SqT K H t xs → xs[i]? = some v, fun i H => ∃ xs, SqT K H t xs ∧ xs.length ≤ i⟩
theorem turn_enum {P : Program} {w : World} {K : PySem.W.Frag} {elts : List Expr} {k1 : Nat} {pos : Pos} {t e it : Addr} {start : Int} (hne : e ≠ it) : Turn P w K (.Tuple elts k1 pos) (Ite K t start) [e, it] e (fun i h => (∃ old, IsEnum h e it (start + i) old) ∧ IsTupIter h it t i) where
  mem := by simp
  obj := fun i h ⟨⟨old, he⟩, ⟨o, ho, _, hd⟩⟩ b hb => by
    rcases List.mem_cons.mp hb with rfl | hb
    · exact ⟨_, he, fun v z => by cases z⟩
    · have e1 : b = it := by simpa using hb
      subst e1
      exact ⟨o, ho, fun v z => by rw [hd] at z; cases z⟩
  keep := fun i h h' ⟨⟨old, he⟩, ⟨o, ho, r⟩⟩ k => ⟨⟨old, k e (by simp) _ he⟩, ⟨o, k it (by simp) o ho, r⟩⟩
  item := by
    intro X hP hw hK hc i pins s σ H E I hf st hg
    subst hP hw hK
    obtain ⟨xs, x, hq, hx⟩ := hg
    obtain ⟨its, rv, p, hz⟩ := I.tuple hq
    obtain ⟨u, hu, ru⟩ := rv.get hx
    obtain ⟨⟨old, he⟩, hit⟩ := st
    have hts : t ≠ it := fun z => by
      obtain ⟨o1, z1, z2, _⟩ := hit
      obtain ⟨o2, y1, y2, _⟩ := p
      rw [z, z1] at y1
      cases y1
      rw [z2] at y2
      injection y2 with y2
      exact absurd y2 (by decide)
    have hte : t ≠ e := fun z => by
      obtain ⟨o2, y1, y2, _⟩ := p
      rw [z, he] at y1
      cases y1
      injection y2 with y2
      exact absurd y2 (by decide)
    have D : Draws X.prog X.w X.A.in1 it [it, t] its.toArray.size (fun i v => its.toArray[i]? = some v) (fun i h => IsTupIter h it t i ∧ IsTup h t its.toArray) := draws_tup (I.ok.hd hc) hts
    have hlt : i < its.toArray.size := by
      have := (List.getElem?_eq_some_iff.mp hu).1
      simpa using this
    refine next_enum D he ⟨hit, p⟩ hlt hne (by simp [hne, hte.symm]) fun y h1 tk hy ho st1 hT hz1 kp => ⟨_, rfl, ?_⟩
    have ey : y = u := by
      have : its.toArray[i]? = some u := by simpa using hu
      exact Option.some.inj (hy.symm.trans this)
    subst ey
    refine wpAny_letOwnedTupleGo_enum ho fun h2 he2 sb2 => ?_
    have Tne : s.heap.objs.size ≠ e := Nat.ne_of_gt (Heap.lt_size he)
    have T2 : h2.get? s.heap.objs.size = some { cls := Value.type "tuple", data := Data.seq #[Value.int (start + i) tk, y] } := (sb2.2 _ Tne).trans hT
    have k2 : ∀ b o, b ∉ [e, it] → s.heap.get? b = some o → h2.get? b = some o := fun b o hb z => by
      have h1' : b ≠ e := fun q => hb (by simp [q])
      have h2' : b ≠ it := fun q => hb (by simp [q])
      exact (sb2.2 b h1').trans (kp b o h1' h2' z)
    refine ⟨.ref s.heap.objs.size, upd H s.heap.objs.size (.tup [.int (start + i), x]), I.turnedL hf k2 (Nat.le_refl _) ⟨by show 2 ≤ sizeLine; decide, [Value.int (start + i) tk, y], .cons ⟨_, rfl⟩ (.cons ru .nil), ⟨_, T2, rfl, _, rfl⟩⟩, rfl, ⟨_, x, I.hok.fresh (Nat.le_refl _), rfl, rfl, fun ys hy' => by rw [I.tuple_inj hy' hq]; exact hx⟩, ⟨⟨y, ?_⟩, ?_⟩, fun b hb => ?_⟩
    · rw [show start + ((i + 1 : Nat) : Int) = start + i + 1 by omega]
      exact he2
    · obtain ⟨o, z, r⟩ := st1.1
      exact ⟨o, (sb2.2 it hne.symm).trans z, r⟩
    · have lb : b < s.heap.objs.size := by
        rcases List.mem_cons.mp hb with rfl | hb
        · exact Heap.lt_size he
        · have e1 : b = it := by simpa using hb
          subst e1
          obtain ⟨o, z, _⟩ := hit
          exact Heap.lt_size z
      rw [upd_ne (Nat.ne_of_lt lb)]
      exact (hf b hb).1
  done := by
    intro X hP hw hK hc i pins s σ H E I hf st hg
    subst hP hw hK
    obtain ⟨xs, hq, hx⟩ := hg
    obtain ⟨its, rv, p, hz⟩ := I.tuple hq
    obtain ⟨⟨old, he⟩, hit⟩ := st
    have hl := rv.length
    exact next_enum_end (I.ok.hd hc) he hit p (by simp; omega) fun h' eb => ⟨rfl, I.turnedN (tk := s.toks) hf fun b o hb z => eb b o (fun q => hb (by simp [q])) z⟩
  self := fun _ _ _ _ _ ⟨⟨old, he⟩, _⟩ h => wpAny_pyIter_enum he h
/-- for a, b in enumerate(e, start = d) -/
def iEnum (K : PySem.W.Frag) (ta td : TA) : TI := fun σ H R => ta σ H fun xs H1 => td σ H1 fun ds H2 => ∃ (t : Addr) (d : Int), xs = [.ref t] ∧ ds = [.int d] ∧ Builtin.SmallTypes.fitsIndex d = true ∧ (∃ ys, SqT K H2 t ys) ∧ R (Ite K t d) H2
theorem pi_enum {x : Str} {p pos kpos tpos : Pos} {a b : Expr} {elts : List Expr} {k1 : Nat} {ta td : TA} (hg : Gl X x) (hm : X.mg x = none) (hv : bootBuiltins x = some (.type "enumerate")) (ha : PA X [a] ta) (hd : PK X [⟨some "start", b, kpos⟩] td) (hn : x ≠ "__name__" := by decide) (hdb : (x == ("__debug__" : Str)) = false := by decide)
    (hall : (backToKw pos (keywordEach [⟨some "start", b, kpos⟩] X.env)).all (·.1.isSome) = true := by rfl) (hks : (backToKw pos (keywordEach [⟨some "start", b, kpos⟩] X.env)).filterMap (·.1) = [("start" : Str)] := by rfl)
    (he : starEach [a] X.env = (false, eval a X.env) :: starEach [] X.env := by rfl) (hpl : ((backTo pos (starEach [a] X.env)).any (·.1) || (backToKw pos (keywordEach [⟨some "start", b, kpos⟩] X.env)).any (·.1.isNone)) = false := by rfl) :
    PI X (.Tuple elts k1 tpos) (.Call (.Name x p) [a] [⟨some "start", b, kpos⟩] pos) (iEnum X.K ta td) := by
  intro pins s σ H R I h
  refine wpAny_Call_Name_kw (ld_blt I hg hm hv ?_ hn hdb)
  refine PySem.W.callWith_of (P := fun g => X.K.In g) hpl (fun _ _ => ⟨.machine, .inr (.inl rfl), .now⟩) (PyProof.Rows.evalArgs_kw2 hall (thn (ha pos pins s σ H _ I h) fun us s1 ⟨vs, H1, I1, r, q⟩ => ?_) he)
  refine thn (hd pos pins s1 σ H1 _ I1 q) fun ws s2 ⟨zs, H2, I2, rz, q2⟩ => ⟨I2.kIn, ?_⟩
  rw [hks]
  obtain ⟨t, d, rfl, rfl, hf, ⟨ys, hq⟩, q2⟩ := q2
  obtain ⟨u, rfl, ru⟩ := r.one
  cases ru
  obtain ⟨u', rfl, tk, rfl⟩ := rz.one
  obtain ⟨its, rv, pt, hz⟩ := I2.tuple hq
  refine call_enumK pt hf fun h' e1 e2 e3 e4 => ?_
  refine wpAny_pyIter_enum e1 ?_
  have I3 : Inv X pins σ H2 { s2 with heap := h' } := I2.kept (t' := s2.toks) e4
  refine ⟨s2.heap.objs.size + 1, [s2.heap.objs.size + 1, s2.heap.objs.size], _, _, H2, rfl, I3, turn_enum (t := t) (start := d) (Nat.succ_ne_self _), ⟨⟨.none, by rw [show d + ((0 : Nat) : Int) = d by omega]; exact e1⟩, e2⟩, fun b hb => ?_, q2⟩
  rcases List.mem_cons.mp hb with rfl | hb
  · exact I2.fpOk (Nat.le_succ _) (I2.hok.fresh (Nat.le_succ _))
  · have e : b = s2.heap.objs.size := by simpa using hb
    subst e
    exact I2.fpOk (Nat.le_refl _) (I2.hok.fresh (Nat.le_refl _))
end
end L2

set_option maxHeartbeats 4000000
namespace L2
open PySem PySem.Spec PyProof.Rows
section
variable {X : Cx}
end
end L2

set_option maxHeartbeats 4000000
namespace L2
open PySem PySem.Spec PyProof.Rows
section
variable {X : Cx}
end
end L2

set_option maxHeartbeats 4000000
namespace L2
open PySem PySem.Spec PyProof.Rows
section
variable {X : Cx}
end
end L2

set_option maxHeartbeats 4000000
namespace L2
open PySem PySem.Spec PyProof.Rows
section
variable {X : Cx} {NB : List Str} {n : Nat} {js : List Nat} {scope : Scope} {cl : List (Str × Addr)}
/-- x = [..]: the name is bound while the block's frame still stands -/
theorem ps_setC {elt tg iter : Expr} {ifs : List Expr} {pos spos py : Pos} {y : Str} {ix : Nat} {wi : TI} {g : TG} {tc : TT} {te : TE} (hN : X.N.Nodup) (hiy : X.N[ix]? = some y) (hxy : Loc X.env.scope y) (hk : scope.kind = .function) (hcell : ∀ x ∈ scope.names, x.2 ≠ .cell)
    (hnames : ∀ x ∈ scope.names, x.2 = .local → scope.names.lookup x.1 = some .local) (hc : X.calm = true) (T : Takes X NB n js scope cl) (hi : PI X tg iter wi)
    (hg : ∀ C s H fp pn, PG (X.blkF NB scope cl C s H fp pn) tg g) (ht : ∀ C s H fp pn, PTs (X.blkF NB scope cl C s H fp pn) ifs tc) (he : ∀ C s H fp pn, PE (X.blkF NB scope cl C s H fp pn) elt te)
    (hsw : swapsWith (.ListComp elt [⟨tg, iter, ifs, 0⟩] scope pos) (some (.Name y py)) spos.line X.env = pure true := by rfl)
    (hf : X.fn y = true ∨ X.env.scope.names.lookup y = some .local := by first | exact .inl rfl | exact .inr rfl | assumption)
    (hs : ∀ x, foldedSetIterable iter X.env x = pure x := by intro _; rfl) : PS X (.Assign [.Name y py] (.ListComp elt [⟨tg, iter, ifs, 0⟩] scope pos) spos) (tAsg (tCompF n js wi g tc te) (gName ix)) := by
  intro pins s σ H D I h
  rw [exec_Assign_Name_used _ _ _ _ hsw]
  refine wpAny_bind (wpAny_standAt (wpAny_bind ?_))
  show wpAny _ X.A (do let _ ← comprehension (.ListComp elt [⟨tg, iter, ifs, 0⟩] scope pos) scope X.env _ (newList []) false (eval iter X.env) (some (assign (.Name y py) X.env))) _ _ s
  refine wpAny_bind (wpAny_mono (wpAny_comprehension_free (use := some (assign (.Name y py) X.env)) (Q := fun _ s' => SP X pins D .next s') rfl hs T.clo hk hnames (thn (hi pins s σ H _ I h) fun v s1 h1 => thn h1 fun itv s2 h2 => ?_)) (fun _ s' hq => wpAny_pure (wpAny_pure hq)) fun _ _ e => e)
  obtain ⟨it, fp, tn, J, H2, rfl, I2, U, st2, f2, h2⟩ := h2
  have lt2 : ∀ b ∈ fp, b < s2.heap.objs.size := fun b hb => by
    obtain ⟨o, q, _⟩ := U.obj 0 _ st2 b hb
    exact Heap.lt_size q
  refine wpAny_newObj_type ?_
  have hz : H2 s2.heap.objs.size = none := I2.hok.fresh (Nat.le_refl _)
  obtain ⟨W, ⟨m0, w0⟩, turn⟩ := h2 s2.heap.objs.size hz
  have I3 : Inv X pins σ (upd H2 s2.heap.objs.size (.lst [])) { s2 with heap := s2.heap.push { cls := .type "list", dict := none, data := .seq ([] : List Value).toArray } } :=
    I2.laid (t' := s2.toks) (fun b o q => Heap.get?_push_of_some _ q) (Nat.le_refl _) ⟨Nat.zero_le _, [], 0, .nil, Heap.get?_push_size _ rfl⟩
  generalize hs3 : ({ s2 with heap := s2.heap.push { cls := .type "list", dict := none, data := .seq ([] : List Value).toArray } } : Shared) = s3 at I3 ⊢
  have ups3 : ∀ b o, s2.heap.get? b = some o → s3.heap.get? b = some o := fun b o q => by rw [← hs3]; exact Heap.get?_push_of_some _ q
  have f3 : ∀ b ∈ fp, FpOk X pins (upd H2 s2.heap.objs.size (.lst [])) b := fun b hb => ⟨by rw [upd_ne (Nat.ne_of_lt (lt2 b hb))]; exact (f2 b hb).1, (f2 b hb).2⟩
  have lt3 : ∀ b ∈ fp, b < s3.heap.objs.size := fun b hb => by
    obtain ⟨o, q, _⟩ := U.obj 0 _ st2 b hb
    exact Heap.lt_size (ups3 b o q)
  refine wpAny_newFunctionEnv hcell (by intro y hy; simp at hy) (fun h4 hn4 hs4 => ?_) hk
  have keep4 : ∀ b o, s3.heap.get? b = some o → h4.get? b = some o := fun b o q => (hs4.2 b (Nat.ne_of_lt (Heap.lt_size q))).trans (Heap.get?_push_of_some _ q)
  have I4 := blkF_inv (tk := s3.toks + ([] : List (Str × Value)).length) I3 hk T f3 lt3 hn4 keep4
  have st4 : tn 0 h4 := U.keep _ _ _ st2 fun b hb o q => keep4 b o (ups3 b o q)
  have fpY : ∀ {H' : Hp}, (∀ b ∈ fp, H' b = none) → ∀ b ∈ fp, FpOk (X.blkF NB scope cl s3.heap.objs.size s3 (upd H2 s2.heap.objs.size (.lst [])) fp (X.pn ++ pins)) [] H' b := fun hn b hb => by
    obtain ⟨g0, g1, g2, g3, g4, g5⟩ := f3 b hb
    exact ⟨hn b hb, Nat.ne_of_lt (lt3 b hb), fun z => (List.mem_cons.mp (I3.stkSub b z)).elim g1 g2, .inl hb, fun x c q => g4 x c (T.sub x c q), fun p hp => g5 p (by simpa using hp)⟩
  have loop : ∀ s5 : Shared, s5 = { s3 with heap := h4, toks := s3.toks + ([] : List (Str × Value)).length } → codeAny (model X.prog X.w) X.A (.compLoop (.ListComp elt [⟨tg, iter, ifs, 0⟩] scope pos) 0 (.ref it) (.ref s2.heap.objs.size) (compEnvC scope cl s3.heap.objs.size X.env))
      (compPost (model X.prog X.w) X.A X.xe (some (assign (.Name y py) X.env)) (fun _ s' => SP X pins D .next s') (.ref s2.heap.objs.size) s3.heap.objs.size) s5 := by
    rintro s5 rfl
    refine codeAny_loop rfl (fun k s' => ∃ i ys H', Inv (X.blkF NB scope cl s3.heap.objs.size s3 (upd H2 s2.heap.objs.size (.lst [])) fp (X.pn ++ pins)) [] (bare0 n js σ) H' s' ∧ tn i s'.heap ∧ (∀ b ∈ fp, H' b = none) ∧ W i k ys H')
      (fun k s6 hI => ?_) m0 ⟨0, [], _, I4, st4, fun b hb => (f3 b hb).1, w0⟩
    obtain ⟨i, ys, H6, I6, st6, fr6, w6⟩ := hI
    show wpAny _ _ ((compTurn (.ListComp elt [⟨tg, iter, ifs, 0⟩] scope pos) 0 (.ref it) (.ref s2.heap.objs.size) (compEnvC scope cl s3.heap.objs.size X.env)).onRaise (fun x => do noteFrame x (compEnvC scope cl s3.heap.objs.size X.env); theTreesLotGoes x)) _ _ s6
    refine wpAny_noted ?_
    rw [compTurn_list]
    refine wpAny_bind (wpAny_standAt (wpAny_bind ?_))
    obtain ⟨hacc, alt⟩ := turn i k ys H6 w6
    rcases alt with ⟨stop, q⟩ | ⟨go, step⟩
    · refine thn (U.done (X.blkF NB scope cl s3.heap.objs.size s3 (upd H2 s2.heap.objs.size (.lst [])) fp (X.pn ++ pins)) rfl rfl rfl hc i [] s6 _ H6 _ I6 (fpY fr6) st6 stop) fun r s7 ⟨hr, I7⟩ => ?_
      subst hr
      obtain ⟨m, hm, _⟩ := I7.loc
      have I7X : Inv X pins σ H6 s7 := blkF_back (h2 := s7.heap) I3 f3 lt3 I7 ⟨rfl, fun _ _ => rfl⟩
      have H6C : H6 s3.heap.objs.size = none := I7.free
      have fpC := I3.fpOk (H' := H6) (Nat.le_refl _) H6C
      refine wpAny_pure ?_
      show wpAny _ _ (assign (.Name y py) X.env (.ref s2.heap.objs.size)) _ _ _
      refine wpAny_assign_Name (store_ok2 I7X hN hiy hxy (v := .ref s2.heap.objs.size) rfl (fun s8 I8 hsame => ?_) hf)
      obtain ⟨a, hsa, ha⟩ := hsame
      have neC : s3.heap.objs.size ≠ a := by
        rcases ha with rfl | ha
        · exact fpC.2.1
        · exact fun z => fpC.2.2.2.2.1 _ _ ha z.symm
      refine ⟨m, hm.sameBut hsa neC, fun h9 hsb => ⟨_, H6, ?_, q⟩⟩
      refine I8.call' (s' := { s8 with heap := h9 }) (ch := [s3.heap.objs.size]) rfl ⟨fun b o q n hb he => (hsb.2 b (fun z => he (by simp [z]))).trans q, fun b o q n hb he => ⟨o.slots, (hsb.2 b (fun z => he (by simp [z]))).trans q⟩, fun _ _ _ n _ => n, fun b o q he => ⟨o, (hsb.2 b (fun z => he (by simp [z]))).trans q⟩, fun _ _ q => q, fun _ _ _ q => q, fun _ ps q => ⟨#[], by rw [q]; simp⟩⟩ (fun b o q => ?_) I8.bare fun b hb => ?_
      · refine (I8.hok b o q).stay (fun c w' hc r => (hsb.2 c ?_).trans r) (fun _ r => r) fun _ _ r => r
        rintro rfl
        rcases hc with rfl | hc
        · rw [H6C] at q; cases q
        · rw [H6C] at hc; cases hc
      · have e : b = s3.heap.objs.size := by simpa using hb
        subst e
        exact ⟨fpC.2.2.2.1, fpC.2.1, fpC.2.2.2.2.1, fpC.2.2.2.2.2⟩
    · refine thn (U.item (X.blkF NB scope cl s3.heap.objs.size s3 (upd H2 s2.heap.objs.size (.lst [])) fp (X.pn ++ pins)) rfl rfl rfl hc i [] s6 _ H6 _ I6 (fpY fr6) st6 go) fun r s7 ⟨u, hr, h7⟩ => ?_
      subst hr
      refine wpAny_bind (thn h7 fun _ s8 ⟨x, H8, I8, r8, y8, st8, fr8⟩ => ?_)
      have I8' := I8.pinned (fpY fr8) (U.obj _ _ st8)
      have gp : ∀ {σ9 : St} {H9 : Hp} {s9 : Shared}, Inv (X.blkF NB scope cl s3.heap.objs.size s3 (upd H2 s2.heap.objs.size (.lst [])) fp (X.pn ++ pins)) ([] ++ pinsAt fp s8.heap) σ9 H9 s9 → tn (i + 1) s9.heap ∧ ∀ b ∈ fp, H9 b = none := fun I9 =>
        ⟨U.keep _ _ _ st8 fun b hb o e => (I9.pin (b, o) (List.mem_append_right _ (List.mem_append_right _ (mem_pinsAt hb e)))).1, fun b hb => by
          obtain ⟨o, e, d⟩ := U.obj _ _ st8 b hb
          exact (I9.pin (b, o) (List.mem_append_right _ (List.mem_append_right _ (mem_pinsAt hb e)))).2.1⟩
      have wk : ∀ {σ9 : St} {H9 : Hp} {s9 : Shared}, σ9.drop n = (bare0 n js σ).drop n → Inv (X.blkF NB scope cl s3.heap.objs.size s3 (upd H2 s2.heap.objs.size (.lst [])) fp (X.pn ++ pins)) ([] ++ pinsAt fp s8.heap) σ9 H9 s9 → Inv (X.blkF NB scope cl s3.heap.objs.size s3 (upd H2 s2.heap.objs.size (.lst [])) fp (X.pn ++ pins)) [] (bare0 n js σ) H9 s9 := fun {σ9 H9 s9} hd I9 =>
        I9.unpinned.weak (by rw [bare0_len T, I9.len]) fun k v z => by
          obtain ⟨k', j, rfl, _, _⟩ := bare0_at z
          have e := congrArg (fun l => l[k']?) hd
          simp only [List.getElem?_drop] at e
          rw [e]
          exact z
      refine wpAny_bind (wpAny_mono (hg _ _ _ _ _ _ s8 _ H8 x u _ I8' r8 (step x H8 y8)) (fun _ s9 hq => ?_) fun _ _ z => z.elim)
      obtain ⟨σ9, H9, I9, hd9, q9⟩ := hq
      refine wpAny_bind (wpAny_mono (ht _ _ _ _ _ _ s9 σ9 H9 _ I9 q9) (fun ok s10 hq => ?_) fun _ _ z => z.elim)
      obtain ⟨H10, I10, q10⟩ := hq
      cases ok with
      | false =>
        rw [if_neg (by simp)] at q10
        obtain ⟨m', hm', w10⟩ := q10
        exact wpAny_pure ⟨rfl, m', hm', i + 1, ys, H10, wk hd9 I10, (gp I10).1, (gp I10).2, w10⟩
      | true =>
        rw [if_pos rfl] at q10
        refine wpAny_bind (wpAny_bind (wpAny_mono (he _ _ _ _ _ _ s10 σ9 H10 _ I10 q10) (fun y s11 hq => ?_) fun _ _ z => z.elim))
        obtain ⟨yv, H11, I11, ry, ha11, hl11, m', hm', w11⟩ := hq
        have mt := mt_append (X := X.blkF NB scope cl s3.heap.objs.size s3 (upd H2 s2.heap.objs.size (.lst [])) fp (X.pn ++ pins)) ([] ++ pinsAt fp s8.heap) s11 σ9 H11 (.ref s2.heap.objs.size) [yv] (.ref s2.heap.objs.size) [y] (fun _ H' => W (i + 1) m' (ys ++ [yv]) H') I11 rfl (.cons ry .nil) ⟨_, ys, yv, rfl, rfl, ha11, hl11, w11⟩
        refine wpAny_bind (wpAny_mono mt (fun _ s12 hq => ?_) fun _ _ z => z.elim)
        obtain ⟨v12, H12, I12, _, w12⟩ := hq
        exact wpAny_pure (wpAny_pure ⟨rfl, m', hm', i + 1, _, H12, wk hd9 I12, (gp I12).1, (gp I12).2, w12⟩)
  exact codeAny_compStart_list (loop _ rfl) (U.self _ 0 _ _ _ st4 (loop _ rfl))
end
end L2

set_option maxHeartbeats 4000000
namespace L2
open PySem PySem.Spec PyProof.Rows PySem.W
theorem paired_of_get {α β : Type} {F : α → β → Prop} : ∀ {xs : List α} {ys : List β}, xs.length = ys.length → (∀ (j : Nat) x y, xs[j]? = some x → ys[j]? = some y → F x y) → Paired F xs ys
  | [], [], _, _ => .nil
  | [], _ :: _, h, _ => by simp at h
  | _ :: _, [], h, _ => by simp at h
  | a :: xs, b :: ys, h, f => .cons (f 0 a b rfl rfl) (paired_of_get (by simpa using h) fun j x y e1 e2 => f (j + 1) x y (by simpa using e1) (by simpa using e2))
section
variable {X : Cx}
/-- range(a, b) as a thing -/
def rRng : List V → Hp → VK → Prop := fun xs H Q => ∃ i j : Int, xs = [.int i, .int j] ∧ ∀ r, H r = none → Q (.ref r) (upd H r (.rng i j))
theorem call_rng : CallR X (.type "range") rRng := by
  intro pins s σ H xs us Q I r h
  obtain ⟨i, j, rfl, q⟩ := h
  obtain ⟨u, v, rfl, ⟨t, rfl⟩, ⟨t', rfl⟩⟩ := vals2 r
  refine call_range_2 ?_
  refine ⟨.ref s.heap.objs.size, _, I.laid (o := .rng i j) (t' := s.toks + 1) (fun b o e => Heap.get?_push_of_some _ e) (Nat.le_refl _) ⟨t, t', s.toks, Heap.get?_push_size _ rfl⟩, rfl, q _ (I.hok.fresh (Nat.le_refl _))⟩
def rngV (lo : Int) (n : Nat) : List V := (List.range n).map fun (k : Nat) => V.int (lo + (k : Int))
theorem rngV_len (lo : Int) (n : Nat) : (rngV lo n).length = n := by
  unfold rngV
  rw [List.length_map, List.length_range]
/-- list(r), r a range -/
def rListR : List V → Hp → VK → Prop := fun xs H Q => ∃ (p : Addr) (lo hi : Int), xs = [.ref p] ∧ H p = some (.rng lo hi) ∧ (-(2 ^ 62) ≤ lo ∧ lo < 2 ^ 62 ∧ -(2 ^ 62) ≤ hi ∧ hi < 2 ^ 62) ∧ hi - lo ≤ 1000 ∧ ∀ l, H l = none → Q (.ref l) (upd H l (.lst (rngV lo (hi - lo).toNat)))
theorem call_listR (hc : X.calm = true) : CallR X (.type "list") rListR := by
  intro pins s σ H xs us Q I r h
  obtain ⟨p, lo, hi, rfl, hp, ⟨b1, b2, b3, b4⟩, b5, q⟩ := h
  obtain ⟨u, rfl, rx⟩ := vals1 r
  cases rx
  obtain ⟨t, t', t'', e⟩ := (show ObjOk X.prog X.w H s.heap p (.rng lo hi) from I.hok p _ hp)
  have hn : Builtin.Range.rangeSize lo hi 1 = (((hi - lo).toNat : Nat) : Int) := by rw [rangeSize_one]; split <;> omega
  refine call_list_range (I.ok.hd hc) e (small_one b1 b2 b3 b4) hn (by omega) fun h' tk acc' c' kp e' ⟨hs, hv⟩ => ?_
  refine ⟨.ref s.heap.objs.size, _, I.laid (o := .lst (rngV lo (hi - lo).toNat)) (t' := tk) kp (Nat.le_refl _) ?_, rfl, q _ (I.hok.fresh (Nat.le_refl _))⟩
  have sl : sizeLine = 16777216 := sizeLine_eq
  refine ⟨by rw [rngV_len]; omega, acc'.toList, c', ?_, by simpa using e'⟩
  refine paired_of_get (by rw [rngV_len]; simp [hs]) fun j x y hx hy => ?_
  unfold rngV at hx
  rw [List.getElem?_map] at hx
  have hj : j < (hi - lo).toNat := by
    have := (List.getElem?_eq_some_iff.mp hy).1
    simp only [Array.length_toList] at this
    omega
  rw [List.getElem?_range hj] at hx
  cases hx
  obtain ⟨tk, rfl⟩ := hv j y (by simpa using hy)
  exact ⟨tk, by rw [Int.mul_one]⟩
end
end L2

set_option maxHeartbeats 4000000
namespace L2
open PySem PySem.Spec PyProof.Rows PySem.W
section
variable {X : Cx}
end
end L2

set_option maxHeartbeats 4000000
namespace L2
open PySem PySem.Spec PyProof.Rows PySem.W Builtin
section
variable {K : Frag} {x C : Addr} {prog : Program} {w : World} {A : Around} {E : Value → Shared → Prop} {s : Shared}
end
section
variable {X : Cx}
end
end L2

set_option maxHeartbeats 4000000
namespace L2
open PySem PySem.Spec PyProof.Rows PySem.W
section
variable {X : Cx}
/-- the same heap, read otherwise at one place -/
theorem Inv.as_at {pins : List (Addr × Obj)} {σ : St} {H : Hp} {s : Shared} {a : Addr} {u u' : HO} (I : Inv X pins σ H s) (e : H a = some u) (n1 : ∀ xs, u ≠ .tup xs) (n2 : ∀ ps, u ≠ .tbl ps) (n3 : ∀ x, u ≠ .own x) (nf : ∀ o v, X.H₀ a ≠ some (.frz o v)) (new : ObjOk X.prog X.w (upd H a u') s.heap a u') : Inv X pins σ (upd H a u') s := by
  have ne : ∀ b, H b = none → b ≠ a := fun b n z => by
    rw [z, e] at n
    cases n
  refine ⟨I.ok, I.os, I.bare, ⟨I.base.keep, I.base.slot, fun b o q n hx => ?_, I.base.there, fun b xs q => ?_, fun b o v q => ?_, fun b ps q => ?_⟩, I.loc, I.cell, ?_, fun x c q => ?_, fun p hp => ?_, fun b o q => ?_, I.len⟩
  · have z := I.base.free b o q n hx
    rw [upd_ne (ne b z)]
    exact z
  · have z := I.base.tups b xs q
    rw [upd_ne (fun y => by rw [y, e] at z; exact n1 xs (Option.some.inj z))]
    exact z
  · rw [upd_ne (fun y => nf o v (by rw [← y]; exact q))]
    exact I.base.frzs b o v q
  · obtain ⟨m, z⟩ := I.base.tbls b ps q
    exact ⟨m, by rw [upd_ne (fun y => by rw [y, e] at z; exact n2 _ (Option.some.inj z))]; exact z⟩
  · rw [upd_ne (ne _ I.free)]
    exact I.free
  · rw [upd_ne (ne _ (I.freeC x c q))]
    exact I.freeC x c q
  · obtain ⟨z1, z2, z3⟩ := I.pin p hp
    exact ⟨z1, by rw [upd_ne (ne _ z2)]; exact z2, z3⟩
  · by_cases hb : b = a
    · subst hb
      rw [upd_same] at q
      cases q
      exact new
    · rw [upd_ne hb] at q
      refine (I.hok b o q).stay (fun c w' _ r => r) (fun c z => ?_) fun c xs z => ?_
      · rw [upd_ne (fun y => by rw [y, e] at z; exact n3 _ (Option.some.inj z))]
        exact z
      · rw [upd_ne (fun y => by rw [y, e] at z; exact n1 _ (Option.some.inj z))]
        exact z
theorem ObjOk.dK_at {P : Program} {w : World} {H H' : Hp} {h : Heap} {a : Addr} {kvs : List (Key × V)} (q : ObjOk P w H h a (.dK kvs)) : ObjOk P w H' h a (.dK kvs) := q
theorem Inv.thaw {pins : List (Addr × Obj)} {σ : St} {H : Hp} {s : Shared} {a : Addr} {o : Obj} {kvs : List (Key × V)} (I : Inv X pins σ H s) (e : H a = some (.frz o (.dK kvs))) (nf : ∀ o v, X.H₀ a ≠ some (.frz o v)) : Inv X pins σ (upd H a (.dK kvs)) s := by
  obtain ⟨_, q⟩ := (show ObjOk X.prog X.w H s.heap a (.frz o (.dK kvs)) from I.hok a _ e)
  exact I.as_at e (fun _ z => nomatch z) (fun _ z => nomatch z) (fun _ z => nomatch z) nf q.dK_at
theorem Inv.freeze {pins : List (Addr × Obj)} {σ : St} {H : Hp} {s : Shared} {a : Addr} {kvs : List (Key × V)} (I : Inv X pins σ H s) (e : H a = some (.dK kvs)) : ∃ o, s.heap.get? a = some o ∧ Inv X pins σ (upd H a (.frz o (.dK kvs))) s := by
  have q := (show ObjOk X.prog X.w H s.heap a (.dK kvs) from I.hok a _ e)
  obtain ⟨o, ho⟩ := q.is
  refine ⟨o, ho, I.as_at e (fun _ z => nomatch z) (fun _ z => nomatch z) (fun _ z => nomatch z) (fun o' v z => ?_) ⟨ho, q.dK_at⟩⟩
  have := I.base.frzs a o' v z
  rw [e] at this
  cases this
def sThaw (H0 : Hp) (t : TS) : TS := fun D σ H => t { D with nx := fun σ1 H1 => ∃ a o kvs, H1 a = some (.frz o (.dK kvs)) ∧ (∀ o v, H0 a ≠ some (.frz o v)) ∧ D.nx σ1 (upd H1 a (.dK kvs)) } σ H
theorem ps_thaw {st : Stmt} {t : TS} (h : PS X st t) : PS X st (sThaw X.H₀ t) := fun pins s σ H D I q => thn (h pins s σ H _ I q) fun f s1 z => by
  cases f with
  | next =>
    obtain ⟨σ1, H1, I1, a, o, kvs, z1, z2, z3⟩ := z
    exact ⟨σ1, _, I1.thaw z1 z2, z3⟩
  | _ => exact z
end
end L2

set_option maxHeartbeats 4000000
namespace L2
open PySem PySem.Spec PyProof.Rows PySem.W
theorem kV_of {P : Program} {w : World} {k : Key} {u : Value} (h : (mixKind P w).is k u = true) : RelV (kV k) u := by
  rw [mixKind_is] at h
  rcases keyIs_shape h with ⟨i, t, rfl, rfl⟩ | ⟨x, t, rfl, rfl⟩
  · exact ⟨t, rfl⟩
  · exact ⟨t, rfl⟩
/-- the keys of the dict at a, which stays as it is -/
def Itd (a : Addr) (o : Obj) (kvs : List (Key × V)) : It :=
  ⟨fun i H => H a = some (.frz o (.dK kvs)) ∧ i < kvs.length, fun i H x H' => H' = H ∧ ∃ e, kvs[i]? = some e ∧ x = kV e.1, fun i H => H a = some (.frz o (.dK kvs)) ∧ kvs.length ≤ i⟩
theorem dict_at {X : Cx} {pins : List (Addr × Obj)} {σ : St} {H : Hp} {s : Shared} {a : Addr} {o : Obj} {kvs : List (Key × V)} {es : Array DictEntry} {ep : Nat} (I : Inv X pins σ H s) (e : H a = some (.frz o (.dK kvs))) (hd : o.data = .dict es ep) :
    ∃ vs, KV kvs vs ∧ s.heap.DictAt (mixKind X.prog X.w) a vs ep := by
  obtain ⟨g, _, _, vs, r, o', es', ep', q, c, d, k1, k2, k3⟩ := (show ObjOk X.prog X.w H s.heap a (.frz o (.dK kvs)) from I.hok a _ e)
  rw [g] at q
  cases q
  rw [hd] at d
  cases d
  exact ⟨vs, r, o, es, g, c, hd, k1, k2, k3⟩
theorem turn_dict {P : Program} {w : World} {K : PySem.W.Frag} {tg : Expr} (a it : Addr) (o : Obj) (kvs : List (Key × V)) {es : Array DictEntry} {ep : Nat} (hd : o.data = .dict es ep) : Turn P w K tg (Itd a o kvs) [it] it (fun i h => h.IsKeyIter it a i kvs.length ep) where
  mem := by simp
  obj := fun i h st b hb => by
    have e : b = it := by simpa using hb
    subst e
    obtain ⟨o, e, c, d⟩ := st
    exact ⟨o, e, fun v z => by rw [d] at z; cases z⟩
  keep := fun i h h' st k => st.at fun o e => k it (by simp) o e
  item := by
    intro X hP hw hK hc i pins s σ H E I hf st hg
    subst hP hw hK
    obtain ⟨e, hi⟩ := hg
    obtain ⟨vs, r, dt⟩ := dict_at I e hd
    have hl := r.length
    obtain ⟨f0, f1, f2, f3, f4, f5⟩ := hf it (by simp)
    obtain ⟨⟨k, v⟩, hv⟩ : ∃ p, vs[i]? = some p := ⟨vs[i], List.getElem?_eq_getElem (by omega)⟩
    refine wpAny_pyNext_dict_item (by rw [← hl]; exact st) dt hv fun key h' hk st' sb => ?_
    have I1 : Inv X pins σ H { s with heap := h' } := I.turned (t' := s.toks) (fun b o hb e => (sb.2 b hb).trans e) f0 f1 f3 f4 f5
    obtain ⟨oi, ei, ci, di⟩ := id st'
    have ek : kvs[i].1 = k := by
      have := r.keys
      have h1 : (kvs.map (·.1))[i]? = (vs.map (·.1))[i]? := by rw [this]
      rw [List.getElem?_map, List.getElem?_map, hv, List.getElem?_eq_getElem hi] at h1
      exact Option.some.inj h1
    refine ⟨key, rfl, go_of (s := { s with heap := h' }) ei ci di (by decide) ⟨kV k, H, I1, kV_of hk, ⟨rfl, kvs[i], List.getElem?_eq_getElem hi, by rw [ek]⟩, by rw [hl]; exact st', fun b hb => (hf b hb).1⟩⟩
  done := by
    intro X hP hw hK hc i pins s σ H E I hf st hg
    subst hP hw hK
    obtain ⟨e, hi⟩ := hg
    obtain ⟨vs, r, dt⟩ := dict_at I e hd
    have hl := r.length
    obtain ⟨f0, f1, f2, f3, f4, f5⟩ := hf it (by simp)
    exact wpAny_pyNext_dict_end (I.ok.hd hc) (by rw [← hl]; exact st) dt (List.getElem?_eq_none (by omega)) fun h' eb => ⟨rfl, I.turned (t' := s.toks) (fun b o hb e => eb b o hb e) f0 f1 f3 f4 f5⟩
  self := fun _ _ _ _ _ st h => wpAny_pyIter_keyiter st h
section
variable {X : Cx} {tg : Expr}
/-- for k in d -/
def iDict (tl : TE) : TI := fun σ H R => tl σ H fun x H1 => ∃ a kvs, x = .ref a ∧ H1 a = some (.dK kvs) ∧ ∀ o, R (Itd a o kvs) (upd H1 a (.frz o (.dK kvs)))
theorem pi_dict {l : Expr} {tl : TE} (hl : PE X l tl) : PI X tg l (iDict tl) := by
  intro pins s σ H R I h
  refine thn (hl pins s σ H _ I h) fun v s1 ⟨x, H1, I1, r1, q1⟩ => ?_
  obtain ⟨a, kvs, e, hq, q⟩ := q1
  subst e
  cases r1
  obtain ⟨o, ho, I2⟩ := I1.freeze hq
  obtain ⟨hz, hS, vs, r, o', es, ep, g, c, d, k1, k2, k3⟩ := (show ObjOk X.prog X.w H1 s1.heap a (.dK kvs) from I1.hok a _ hq)
  rw [ho] at g
  cases g
  refine wpAny_pyIter_dict (knd := mixKind X.prog X.w) (kvs := vs) (ep := ep) hS ⟨o, es, ho, c, d, k1, k2, k3⟩ ?_
  refine ⟨s1.heap.objs.size, [s1.heap.objs.size], _, _, _, rfl, I2.kept (t' := s1.toks) fun b o e => Heap.get?_push_of_some _ e, turn_dict a _ o kvs d, ?_, fun b hb => ?_, q o⟩
  · exact ⟨_, Heap.get?_push_size _ rfl, rfl, by rw [r.length]; rfl⟩
  · have e : b = s1.heap.objs.size := by simpa using hb
    subst e
    exact I2.fpOk (Nat.le_refl _) (I2.hok.fresh (Nat.le_refl _))
/-- the loop's invariant, turn by turn -/
theorem for_dict {a : Addr} {o : Obj} {kvs : List (Key × V)} {g : TG} {tb : TS} {D : Ends} {σ : St} {H : Hp} (Pv : Nat → St → Hp → Prop) (h0 : Pv 0 σ H) (hl : ∀ i σ H, i ≤ kvs.length → Pv i σ H → H a = some (.frz o (.dK kvs)))
    (hs : ∀ i e σ H, kvs[i]? = some e → Pv i σ H → g (kV e.1) σ H fun σ2 H2 => tb { D with nx := Pv (i + 1), ct := Pv (i + 1), bk := D.nx } σ2 H2) (hd : ∀ σ H, Pv kvs.length σ H → D.nx σ H) :
    ∃ W : Nat → Nat → St → Hp → Prop, (∃ m, W 0 m σ H) ∧ ∀ i m σ H, W i m σ H →
      ((Itd a o kvs).stop i H ∧ D.nx σ H) ∨ ((Itd a o kvs).go i H ∧ ∃ N : St → Hp → Prop, (∀ σ' H', N σ' H' → ∃ m', m' < m ∧ W (i + 1) m' σ' H') ∧ ∀ x H', (Itd a o kvs).yld i H x H' → g x σ H' fun σ2 H2 => tb { D with nx := N, ct := N, bk := D.nx } σ2 H2) := by
  refine ⟨fun i m σ H => m = kvs.length - i ∧ i ≤ kvs.length ∧ Pv i σ H, ⟨kvs.length, by simp, Nat.zero_le _, h0⟩, ?_⟩
  rintro i m σ H ⟨rfl, hi, p⟩
  have q := hl i σ H hi p
  by_cases hlt : i < kvs.length
  · refine .inr ⟨⟨q, hlt⟩, Pv (i + 1), fun σ' H' p' => ⟨kvs.length - (i + 1), by omega, rfl, hlt, p'⟩, fun x H' y => ?_⟩
    obtain ⟨rfl, e, ee, rfl⟩ := y
    exact hs i e σ _ ee p
  · have e : i = kvs.length := by omega
    subst e
    exact .inl ⟨⟨q, Nat.le_refl _⟩, hd σ H p⟩
end
end L2

set_option maxHeartbeats 4000000
namespace L2
open PySem PySem.Spec PyProof.Rows PySem.W
/-- the records of zip(a list, a tuple) -/
structure ZipOk (h : Heap) (z p q i j l t : Addr) (k : Nat) : Prop where
  zp : IsZip h z p q .none
  ti : IsPair h p (.ref i) (.ref j)
  to : ∃ u v, IsPair h q u v
  it1 : h.IsListIter i l k
  it2 : IsTupIter h j t k
structure ZipNe (z p q i j l t : Addr) : Prop where
  zp : z ≠ p
  zq : z ≠ q
  zi : z ≠ i
  zj : z ≠ j
  zl : z ≠ l
  zt : z ≠ t
  pq : p ≠ q
  pi : p ≠ i
  pj : p ≠ j
  qi : q ≠ i
  qj : q ≠ j
  ql : q ≠ l
  qt : q ≠ t
  ij : i ≠ j
  il : i ≠ l
  it : i ≠ t
  jl : j ≠ l
  jt : j ≠ t
section
variable {prog : Program} {w : World} {A : Around} {E : Value → Shared → Prop} {s : Shared}
theorem tupIter_keeps {h g : Heap} {j t : Addr} {k : Nat} (x : IsTupIter h j t k) (e : ∀ o, h.get? j = some o → g.get? j = some o) : IsTupIter g j t k := by
  obtain ⟨o, h1, h2⟩ := x
  exact ⟨o, e o h1, h2⟩
theorem isTup_keeps {h g : Heap} {t : Addr} {ys : Array Value} (x : IsTup h t ys) (e : ∀ o, h.get? t = some o → g.get? t = some o) : IsTup g t ys := by
  obtain ⟨o, h1, h2⟩ := x
  exact ⟨o, e o h1, h2⟩
theorem zip_lt_item {z p q i j l t : Addr} {k : Nat} {xs ys : Array Value} {x y : Value} {Q : Option Value → Shared → Prop} (N : ZipNe z p q i j l t) (Z : ZipOk s.heap z p q i j l t k) (hl : s.heap.IsList l xs) (ht : IsTup s.heap t ys) (hx : xs[k]? = some x) (hy : ys[k]? = some y)
    (hQ : ∀ g, IsZip g z p q (rawInt s.heap.objs.size) → IsPair g p (.ref i) (.ref j) → (∃ u v, IsPair g q u v) → g.IsListIter i l (k + 1) → IsTupIter g j t (k + 1) → IsPair g s.heap.objs.size x y → g.objs.size = s.heap.objs.size + 1 →
      (∀ c o, c ≠ z → c ≠ q → c ≠ i → c ≠ j → s.heap.get? c = some o → g.get? c = some o) → Q (some (.ref s.heap.objs.size)) { s with heap := g }) : wpAny (model prog w) A (pyNext (.ref z)) Q E s := by
  obtain ⟨hz, hp, ⟨u, v, hq⟩, h1, h2⟩ := Z
  have hT : s.TypeIs (.ref z) "zip" := ⟨_, hz, rfl⟩
  unfold pyNext
  refine wpAny_bind (wpAny_attempt (wpAny_callSpecial?_slot hT F.slot_zip_next (wpAny_call_entry F.slot_zip_next hT F.entry_zip_next ?_ (F.args_zip_next_1 _))))
  show wpAny _ _ (field (Value.ref z) 2 >>= _) _ _ _
  refine wpAny_bind (wpAny_field (x := Value.bool false) hz rfl rfl ?_)
  show wpAny _ _ (field (Value.ref z) 3 >>= _) _ _ _
  refine wpAny_bind (wpAny_field (x := Value.ref p) hz rfl rfl (wpAny_bind (wpAny_seqItems hp rfl ?_)))
  show wpAny _ _ (Builtin.SmallTypes.ownedTupleIsFree (Value.ref z) >>= _) _ _ _
  unfold Builtin.SmallTypes.ownedTupleIsFree
  refine wpAny_bind (wpAny_bind (wpAny_field (x := Value.none) hz rfl rfl (wpAny_pure ?_)))
  simp only [if_true]
  refine wpAny_bind (wpAny_rule (wpAny_bind (wpAny_field (x := Value.ref q) hz rfl rfl ?_)))
  refine wpAny_bind (wpAny_setField_rec hz (by simp) fun g1 z1 b1 => ?_)
  have z1' : IsZip g1 z p q .ellipsis := z1
  refine wpAny_bind ?_
  simp only [List.zipIdx_cons, List.zipIdx_nil, List.forIn_cons, List.forIn_nil]
  refine wpAny_bind (wpAny_bind (wpAny_onRaise ?_))
  show wpAny _ _ (Builtin.SmallTypes.nextOf (Value.ref i) >>= _) _ _ _
  have e1 : ∀ c o, c ≠ z → s.heap.get? c = some o → g1.get? c = some o := fun c o n e => (b1.2 c n).trans e
  refine wpAny_bind (wpAny_nextOf_list_item (h1.at fun o e => e1 _ o N.zi.symm e) (hl.at fun o e => e1 _ o N.zl.symm e) hx fun g2 i2 b2 => wpAny_pure ?_)
  have e2 : ∀ c o, c ≠ z → c ≠ i → s.heap.get? c = some o → g2.get? c = some o := fun c o n n' e => (b2.2 c n').trans (e1 c o n e)
  have q2 : IsPair g2 q u v := e2 _ _ N.zq.symm N.qi hq
  refine wpAny_bind (wpAny_seqItems q2 rfl (wpAny_bind (wpAny_updateSeq_pair q2 fun g3 q3 b3 => ?_)))
  have q3' : IsPair g3 q x v := q3
  refine wpAny_bind (wpAny_letGo (wpAny_pure ?_))
  have e3 : ∀ c o, c ≠ z → c ≠ i → c ≠ q → s.heap.get? c = some o → g3.get? c = some o := fun c o n n' n'' e => (b3.2 c n'').trans (e2 c o n n' e)
  refine wpAny_bind (wpAny_bind (wpAny_onRaise ?_))
  show wpAny _ _ (Builtin.SmallTypes.nextOf (Value.ref j) >>= _) _ _ _
  refine wpAny_bind (nextOf_tup (tupIter_keeps h2 fun o e => e3 _ o N.zj.symm N.ij.symm N.qj.symm e) (isTup_keeps ht fun o e => e3 _ o N.zt.symm N.it.symm N.qt.symm e) hy fun g4 j4 b4 => wpAny_pure ?_)
  have q4 : IsPair g4 q x v := (b4.2 q N.qj).trans q3'
  refine wpAny_bind (wpAny_seqItems q4 rfl (wpAny_bind (wpAny_updateSeq_pair q4 fun g5 q5 b5 => ?_)))
  have q5' : IsPair g5 q x y := q5
  refine wpAny_bind (wpAny_letGo (wpAny_pure (wpAny_pure ?_)))
  refine wpAny_bind (wpAny_seqItems q5' rfl (wpAny_bind (wpAny_newTuple ?_)))
  have up5 : ∀ c o, c ≠ q → c ≠ j → g3.get? c = some o → g5.get? c = some o := fun c o n n' e => (b5.2 c n).trans ((b4.2 c n').trans e)
  have e5 : ∀ c o, c ≠ z → c ≠ q → c ≠ i → c ≠ j → s.heap.get? c = some o → g5.get? c = some o := fun c o n1 n2 n3 n4 e => up5 c o n2 n4 (e3 c o n1 n3 n2 e)
  have z5 : IsZip g5 z p q .ellipsis := up5 _ _ N.zq N.zj ((b3.2 z N.zq).trans ((b2.2 z N.zi).trans z1'))
  have i5 : g5.IsListIter i l (k + 1) := i2.at fun o e => up5 _ o N.qi.symm N.ij ((b3.2 i N.qi.symm).trans e)
  have j5 : IsTupIter g5 j t (k + 1) := tupIter_keeps j4 fun o e => (b5.2 j N.qj.symm).trans e
  have sz : g5.objs.size = s.heap.objs.size := by rw [b5.1, b4.1, b3.1, b2.1, b1.1]
  have zlt : z < g5.objs.size := Heap.lt_size z5
  show wpAny _ _ (Builtin.SmallTypes.ownedTupleHandOut (Value.ref z) (Value.ref g5.objs.size) >>= _) _ _ _
  unfold Builtin.SmallTypes.ownedTupleHandOut
  have z6 : IsZip (g5.push { cls := .type "tuple", data := .seq #[x, y] }) z p q .ellipsis := Heap.get?_push_of_some _ z5
  refine wpAny_bind (wpAny_bind (wpAny_setField_rec z6 (by simp) fun g7 z7 b7 => ?_))
  have z7' : IsZip g7 z p q (rawInt g5.objs.size) := z7
  refine wpAny_setField_rec z7' (by simp) fun g8 z8 b8 => ?_
  have z8' : IsZip g8 z p q (rawInt g5.objs.size) := z8
  have up8 : ∀ c o, c ≠ z → g5.get? c = some o → g8.get? c = some o := fun c o n e => (b8.2 c n).trans ((b7.2 c n).trans (Heap.get?_push_of_some _ e))
  have t8 : IsPair g8 g5.objs.size x y := (b8.2 _ (Nat.ne_of_gt zlt)).trans ((b7.2 _ (Nat.ne_of_gt zlt)).trans (Heap.get?_push_size _ rfl))
  have s8 : g8.objs.size = g5.objs.size + 1 := by rw [b8.1, b7.1, Heap.size_push]
  rw [sz] at z8' t8 s8
  refine wpAny_pure ⟨_, rfl, wpAny_pure ?_⟩
  show Q (some (Value.ref g5.objs.size)) _
  rw [sz]
  exact hQ g8 z8' (up8 _ _ N.zp.symm (e5 _ _ N.zp.symm N.pq N.pi N.pj hp)) ⟨x, y, up8 _ _ N.zq.symm q5'⟩ (i5.at fun o e => up8 _ o N.zi.symm e) (tupIter_keeps j5 fun o e => up8 _ o N.zj.symm e) t8 s8 fun c o n1 n2 n3 n4 e => up8 c o n1 (e5 c o n1 n2 n3 n4 e)
theorem zip_lt_end' {z p q i j l t : Addr} {k : Nat} {xs : Array Value} {Q : Option Value → Shared → Prop} (hh : A.handled = none) (nzi : z ≠ i) (nzl : z ≠ l) (Z : ZipOk s.heap z p q i j l t k) (hl : s.heap.IsList l xs) (hx : xs[k]? = none)
    (hQ : ∀ g, (∀ c o, c ≠ z → c ≠ i → s.heap.get? c = some o → g.get? c = some o) → Q none { s with heap := g }) : wpAny (model prog w) A (pyNext (.ref z)) Q E s := by
  obtain ⟨hz, hp, ⟨u, v, hq⟩, h1, h2⟩ := Z
  have hT : s.TypeIs (.ref z) "zip" := ⟨_, hz, rfl⟩
  unfold pyNext
  refine wpAny_bind (wpAny_attempt (wpAny_callSpecial?_slot hT F.slot_zip_next (wpAny_call_entry F.slot_zip_next hT F.entry_zip_next ?_ (F.args_zip_next_1 _))))
  show wpAny _ _ (field (Value.ref z) 2 >>= _) _ _ _
  refine wpAny_bind (wpAny_field (x := Value.bool false) hz rfl rfl ?_)
  show wpAny _ _ (field (Value.ref z) 3 >>= _) _ _ _
  refine wpAny_bind (wpAny_field (x := Value.ref p) hz rfl rfl (wpAny_bind (wpAny_seqItems hp rfl ?_)))
  show wpAny _ _ (Builtin.SmallTypes.ownedTupleIsFree (Value.ref z) >>= _) _ _ _
  unfold Builtin.SmallTypes.ownedTupleIsFree
  refine wpAny_bind (wpAny_bind (wpAny_field (x := Value.none) hz rfl rfl (wpAny_pure ?_)))
  simp only [if_true]
  refine wpAny_bind (wpAny_rule (wpAny_bind (wpAny_field (x := Value.ref q) hz rfl rfl ?_)))
  refine wpAny_bind (wpAny_setField_rec hz (by simp) fun g1 z1 b1 => ?_)
  have z1' : IsZip g1 z p q .ellipsis := z1
  refine wpAny_bind ?_
  simp only [List.zipIdx_cons, List.zipIdx_nil, List.forIn_cons, List.forIn_nil]
  refine wpAny_bind (wpAny_bind (wpAny_onRaise ?_))
  show wpAny _ _ (Builtin.SmallTypes.nextOf (Value.ref i) >>= _) _ _ _
  have e1 : ∀ c o, c ≠ z → s.heap.get? c = some o → g1.get? c = some o := fun c o n e => (b1.2 c n).trans e
  refine wpAny_bind (wpAny_nextOf_list_end hh (h1.at fun o e => e1 _ o nzi.symm e) (hl.at fun o e => e1 _ o nzl.symm e) hx fun g2 ea b2 ⟨oe, h3, h4⟩ => ?_)
  have z2 : IsZip g2 z p q .ellipsis := b2 _ _ nzi z1'
  have ne : ea ≠ z := fun y => by
    rw [y, z2] at h3
    cases h3
    simp at h4
  refine wpAny_setField_rec z2 (by simp) fun g3 _ b3 => ?_
  refine wpAny_bind (wpAny_isInstance (T := "StopIteration") (b := true) ⟨oe, (b3.2 _ ne).trans h3, h4⟩ isSubtype_stop ?_)
  exact wpAny_pure (hQ g3 fun c o n n' e => (b3.2 c n).trans (b2 _ _ n' (e1 c o n e)))
end
end L2

set_option maxHeartbeats 4000000
namespace L2
open PySem PySem.Spec PyProof.Rows PySem.W
section
abbrev zlA (h : Heap) (l : Addr) : Heap := h.push { cls := .type "list_iterator", data := .fields #[.ref l, .int 0 0] }
abbrev zlB (h : Heap) (l t : Addr) : Heap := (zlA h l).push { cls := .type "tuple_iterator", data := .fields #[.ref t, .int 0 0] }
abbrev zlC (h : Heap) (l t : Addr) : Heap := (zlB h l t).push { cls := .type "tuple", data := .seq #[.ref h.objs.size, .ref (zlA h l).objs.size] }
abbrev zlD (h : Heap) (l t : Addr) : Heap := (zlC h l t).push { cls := .type "tuple", data := .seq #[.none, .none] }
abbrev zlE (h : Heap) (l t : Addr) : Heap := (zlD h l t).push { cls := .type "zip", data := .fields #[.none, .bool false, .bool false, .ref (zlB h l t).objs.size, .ref (zlC h l t).objs.size] }
theorem zl_new (l t : Addr) (xs ys : Array Value) : Meets (Builtin.«zip.__new__» ⟨[.type "zip", .ref l, .ref t], []⟩) (fun _ R s => s.heap.IsList l xs ∧ s.heap.IsTuple t ys ∧ R (.ok (.ret (.ref (zlD s.heap l t).objs.size))) { s with heap := zlE s.heap l t }) :=
  .of_wp fun prog w A R s h => by
    obtain ⟨hp, g, d, tk, os⟩ := s
    obtain ⟨a1, a2, h⟩ := h
    have hsub := sub_zip
    have c1 : Heap.IsList (Shared.heap ⟨hp, g, d, tk, os⟩) l xs := a1
    have c2 : Heap.IsTuple (Shared.heap ⟨zlA hp l, g, d, tk, os⟩) t ys := by
      obtain ⟨o, y1, y2⟩ := a2
      exact ⟨o, Heap.get?_push_of_some _ y1, y2⟩
    wp_walk using wpAny_pyIter_list c1, wpAny_pyIter_tuple c2
    exact ⟨_, rfl, h⟩
variable {prog : Program} {w : World} {A : Around} {E : Value → Shared → Prop} {s : Shared}
theorem call_zip_lt {l t : Addr} {xs ys : Array Value} {Q : Value → Shared → Prop} (hl : s.heap.IsList l xs) (ht : s.heap.IsTuple t ys)
    (h : ∀ g, ZipOk g (s.heap.objs.size + 4) (s.heap.objs.size + 2) (s.heap.objs.size + 3) s.heap.objs.size (s.heap.objs.size + 1) l t 0 → (∀ c o, s.heap.get? c = some o → g.get? c = some o) → Q (.ref (s.heap.objs.size + 4)) { s with heap := g }) :
    wpAny (model prog w) A (call (.type "zip") [.ref l, .ref t]) Q E s := by
  refine callType_new F.called_zip (by decide) (F.typeCall_zip_2 _ _) (F.newCall_zip_2 _ _) (fun obj => F.args_object_init_3 obj _ _) F.entry_zip_new (zl_new l t xs ys) ⟨hl, ht, ?_⟩
  have n1 : (zlA s.heap l).objs.size = s.heap.objs.size + 1 := Heap.size_push ..
  have n2 : (zlB s.heap l t).objs.size = s.heap.objs.size + 2 := by rw [Heap.size_push, n1]
  have n3 : (zlC s.heap l t).objs.size = s.heap.objs.size + 3 := by rw [Heap.size_push, n2]
  have n4 : (zlD s.heap l t).objs.size = s.heap.objs.size + 4 := by rw [Heap.size_push, n3]
  have k5 : (zlE s.heap l t).get? (zlD s.heap l t).objs.size = some _ := Heap.get?_push_size _ rfl
  have k4 : (zlE s.heap l t).get? (zlC s.heap l t).objs.size = some _ := Heap.get?_push_of_some _ (Heap.get?_push_size _ rfl)
  have k3 : (zlE s.heap l t).get? (zlB s.heap l t).objs.size = some _ := Heap.get?_push_of_some _ (Heap.get?_push_of_some _ (Heap.get?_push_size _ rfl))
  have k2 : (zlE s.heap l t).get? (zlA s.heap l).objs.size = some _ := Heap.get?_push_of_some _ (Heap.get?_push_of_some _ (Heap.get?_push_of_some _ (Heap.get?_push_size _ rfl)))
  have k1 : (zlE s.heap l t).get? s.heap.objs.size = some _ := Heap.get?_push_of_some _ (Heap.get?_push_of_some _ (Heap.get?_push_of_some _ (Heap.get?_push_of_some _ (Heap.get?_push_size _ rfl))))
  rw [n2, n3, n4] at k5
  rw [n1, n2] at k3
  rw [n3] at k4
  rw [n1] at k2
  show _ ∧ _
  rw [n4]
  exact ⟨⟨_, k5, rfl⟩, h _ ⟨k5, k3, ⟨_, _, k4⟩, ⟨_, k1, rfl, rfl⟩, ⟨_, k2, rfl, rfl⟩⟩ fun c o x => Heap.get?_push_of_some _ (Heap.get?_push_of_some _ (Heap.get?_push_of_some _ (Heap.get?_push_of_some _ (Heap.get?_push_of_some _ x))))⟩
end
/-- the pairs of a list and a tuple, as long as the list -/
def Itz (l t : Addr) : It :=
  ⟨fun i H => ∃ xs ys x y, H l = some (.lst xs) ∧ H t = some (.tup ys) ∧ xs[i]? = some x ∧ ys[i]? = some y,
   fun i H v H' => ∃ T x y, H T = none ∧ v = .ref T ∧ H' = upd H T (.tup [x, y]) ∧ (∀ xs, H l = some (.lst xs) → xs[i]? = some x) ∧ ∀ ys, H t = some (.tup ys) → ys[i]? = some y,
   fun i H => ∃ xs, H l = some (.lst xs) ∧ xs.length ≤ i⟩
theorem five_ne (n : Nat) : n + 4 ≠ n + 2 ∧ n + 4 ≠ n + 3 ∧ n + 4 ≠ n ∧ n + 4 ≠ n + 1 ∧ n + 2 ≠ n + 3 ∧ n + 2 ≠ n ∧ n + 2 ≠ n + 1 ∧ n + 3 ≠ n ∧ n + 3 ≠ n + 1 ∧ n ≠ n + 1 := by omega
theorem five_le (n b : Nat) (h : b = n + 4 ∨ b = n + 2 ∨ b = n + 3 ∨ b = n ∨ b = n + 1) : n ≤ b := by omega
theorem zip_ne {H : Hp} {z p q i j l t : Addr} {xs ys : List V} (f : ∀ b ∈ [z, p, q, i, j], H b = none) (d : ZipNe z p q i j l t ∨ (z ≠ p ∧ z ≠ q ∧ z ≠ i ∧ z ≠ j ∧ p ≠ q ∧ p ≠ i ∧ p ≠ j ∧ q ≠ i ∧ q ≠ j ∧ i ≠ j)) (hl : H l = some (.lst xs)) (ht : H t = some (.tup ys)) : ZipNe z p q i j l t := by
  rcases d with d | ⟨a1, a2, a3, a4, a5, a6, a7, a8, a9, a0⟩
  · exact d
  · have nl : ∀ b ∈ [z, p, q, i, j], b ≠ l := fun b hb => (ne_of_none hl (f b hb)).symm
    have nt : ∀ b ∈ [z, p, q, i, j], b ≠ t := fun b hb => (ne_of_none ht (f b hb)).symm
    exact ⟨a1, a2, a3, a4, nl z (by simp), nt z (by simp), a5, a6, a7, a8, a9, nl q (by simp), nt q (by simp), a0, nl i (by simp), nt i (by simp), nl j (by simp), nt j (by simp)⟩
theorem turn_zip {P : Program} {w : World} {K : PySem.W.Frag} {elts : List Expr} {k1 : Nat} {pos : Pos} {z p q i j l t : Addr} (d : z ≠ p ∧ z ≠ q ∧ z ≠ i ∧ z ≠ j ∧ p ≠ q ∧ p ≠ i ∧ p ≠ j ∧ q ≠ i ∧ q ≠ j ∧ i ≠ j) : Turn P w K (.Tuple elts k1 pos) (Itz l t) [z, p, q, i, j] z (fun k h => ZipOk h z p q i j l t k) where
  mem := by simp
  obj := fun k h ⟨h1, h2, ⟨u, v, h3⟩, ⟨o1, h4, _, h4d⟩, ⟨o2, h5, _, h5d⟩⟩ b hb => by
    simp only [List.mem_cons, List.not_mem_nil, or_false] at hb
    rcases hb with rfl | rfl | rfl | rfl | rfl
    · exact ⟨_, h1, fun v z => by cases z⟩
    · exact ⟨_, h2, fun v z => by cases z⟩
    · exact ⟨_, h3, fun v z => by cases z⟩
    · exact ⟨_, h4, fun v z => by rw [h4d] at z; cases z⟩
    · exact ⟨_, h5, fun v z => by rw [h5d] at z; cases z⟩
  keep := fun k h h' ⟨h1, h2, ⟨u, v, h3⟩, h4, h5⟩ kk => ⟨kk z (by simp) _ h1, kk p (by simp) _ h2, ⟨u, v, kk q (by simp) _ h3⟩, h4.at fun o e => kk i (by simp) o e, tupIter_keeps h5 fun o e => kk j (by simp) o e⟩
  item := by
    intro X hP hw hK hc k pins s σ H E I hf st hg
    subst hP hw hK
    obtain ⟨xs, ys, x, y, hl, ht, hx, hy⟩ := hg
    have ff : ∀ b ∈ [z, p, q, i, j], H b = none := fun b hb => (hf b hb).1
    have N := zip_ne ff (.inr d) hl ht
    obtain ⟨_, its, n, r1, _, el⟩ := I.lstM hl
    obtain ⟨its2, r2, pt, _⟩ := I.tuple (SqT.of ht)
    obtain ⟨u, hu, ru⟩ := r1.get hx
    obtain ⟨v, hv, rv⟩ := r2.get hy
    refine zip_lt_item N st (xs := its.toArray) (ys := its2.toArray) ⟨_, el, rfl, n, rfl⟩ pt (by simpa using hu) (by simpa using hv) fun g z1 p1 q1 i1 j1 T1 sz kp => ⟨_, rfl, ?_⟩
    refine wpAny_letOwnedTupleGo_zip z1 fun g2 z2 b2 => ?_
    have zlt : z < s.heap.objs.size := Heap.lt_size st.zp
    have T2 : IsPair g2 s.heap.objs.size u v := (b2.2 _ (Nat.ne_of_gt zlt)).trans T1
    have up : ∀ c o, c ≠ z → g.get? c = some o → g2.get? c = some o := fun c o nc e => (b2.2 c nc).trans e
    have k2 : ∀ b o, b ∉ [z, p, q, i, j] → s.heap.get? b = some o → g2.get? b = some o := fun b o hb e => by
      have m1 : b ≠ z := fun y => hb (by simp [y])
      exact up b o m1 (kp b o m1 (fun y => hb (by simp [y])) (fun y => hb (by simp [y])) (fun y => hb (by simp [y])) e)
    have st2 : ZipOk g2 z p q i j l t (k + 1) := ⟨z2, up _ _ N.zp.symm p1, (by obtain ⟨a, b, e⟩ := q1; exact ⟨a, b, up _ _ N.zq.symm e⟩), i1.at fun o e => up _ o N.zi.symm e, tupIter_keeps j1 fun o e => up _ o N.zj.symm e⟩
    refine ⟨.ref s.heap.objs.size, upd H s.heap.objs.size (.tup [x, y]), I.turnedL (tk := s.toks) hf k2 (Nat.le_refl _) ⟨by show 2 ≤ sizeLine; decide, [u, v], .cons ru (.cons rv .nil), ⟨_, T2, rfl, _, rfl⟩⟩, rfl, ⟨_, x, y, I.hok.fresh (Nat.le_refl _), rfl, rfl, (fun xs' h' => by rw [hl] at h'; cases h'; exact hx), fun ys' h' => by rw [ht] at h'; cases h'; exact hy⟩, st2, fun b hb => ?_⟩
    have lb : b < s.heap.objs.size := by
      obtain ⟨h1, h2, ⟨u', v', h3⟩, ⟨o1, h4, _⟩, ⟨o2, h5, _⟩⟩ := st
      simp only [List.mem_cons, List.not_mem_nil, or_false] at hb
      rcases hb with rfl | rfl | rfl | rfl | rfl
      · exact Heap.lt_size h1
      · exact Heap.lt_size h2
      · exact Heap.lt_size h3
      · exact Heap.lt_size h4
      · exact Heap.lt_size h5
    rw [upd_ne (Nat.ne_of_lt lb)]
    exact ff b hb
  done := by
    intro X hP hw hK hc k pins s σ H E I hf st hg
    subst hP hw hK
    obtain ⟨xs, hl, hx⟩ := hg
    have ff : ∀ b ∈ [z, p, q, i, j], H b = none := fun b hb => (hf b hb).1
    obtain ⟨_, its, n, r1, _, el⟩ := I.lstM hl
    have hlen := r1.length
    obtain ⟨a1, a2, a3, a4, a5, a6, a7, a8, a9, a0⟩ := d
    have nl : ∀ b ∈ [z, p, q, i, j], b ≠ l := fun b hb => (ne_of_none hl (ff b hb)).symm
    obtain ⟨hz, hp, ⟨u, v, hq⟩, h1, h2⟩ := id st
    exact zip_lt_end' (I.ok.hd hc) a3 (nl z (by simp)) st (xs := its.toArray) ⟨_, el, rfl, n, rfl⟩ (by simp; omega) fun g kk => ⟨rfl, I.turnedN (tk := s.toks) hf fun b o hb e => kk b o (fun y => hb (by simp [y])) (fun y => hb (by simp [y])) e⟩
  self := fun _ _ _ _ _ st h => wpAny_pyIter_zip st.zp h
section
variable {X : Cx}
/-- for a, b in zip(list, tuple) -/
def iZip (ta : TA) : TI := fun σ H R => ta σ H fun vs H1 => ∃ l t xs ys, vs = [.ref l, .ref t] ∧ H1 l = some (.lst xs) ∧ H1 t = some (.tup ys) ∧ R (Itz l t) H1
theorem boot_zip : bootBuiltins "zip" = some (.type "zip") := by decide +kernel
theorem pi_zip {a b : Expr} {ta : TA} {p pos tpos : Pos} {elts : List Expr} {k1 : Nat} (hg : Gl X "zip") (hm : X.mg "zip" = none) (ha : PA X [a, b] ta) (hs : starEach [a, b] X.env = [(false, eval a X.env), (false, eval b X.env)] := by rfl) (hs2 : starEach [b] X.env = [(false, eval b X.env)] := by rfl) :
    PI X (.Tuple elts k1 tpos) (.Call (.Name "zip" p) [a, b] [] pos) (iZip ta) := by
  intro pins s σ H R I h
  refine Call_ (ld_blt I hg hm boot_zip (PyProof.Rows.callWith_type1 (thn (ha pos pins s σ H _ I h) fun us s1 ⟨vs, H1, I1, r1, q1⟩ => ?_) (by rw [hs, hs2]) (by rw [hs2]; rfl)))
  obtain ⟨l, t, xs, ys, rfl, hl, ht, q⟩ := q1
  obtain ⟨u, v, rfl, ru, rv⟩ := vals2 r1
  cases ru
  cases rv
  obtain ⟨_, its, n, _, _, el⟩ := I1.lstM hl
  obtain ⟨its2, _, pt, _⟩ := I1.tuple (SqT.of ht)
  refine call_zip_lt (xs := its.toArray) (ys := its2.toArray) ⟨_, el, rfl, n, rfl⟩ (show s1.heap.IsTuple t its2.toArray from pt) fun g Z kp => ?_
  refine wpAny_pyIter_zip Z.zp ?_
  have I2 : Inv X pins σ H1 { s1 with heap := g } := I1.kept (t' := s1.toks) kp
  refine ⟨_, [s1.heap.objs.size + 4, s1.heap.objs.size + 2, s1.heap.objs.size + 3, s1.heap.objs.size, s1.heap.objs.size + 1], _, _, H1, rfl, I2, turn_zip (l := l) (t := t) (five_ne _), Z, fun b hb => ?_, q⟩
  have lb : s1.heap.objs.size ≤ b := by
    simp only [List.mem_cons, List.not_mem_nil, or_false] at hb
    exact five_le _ _ hb
  exact I1.fpOk lb (I1.hok.fresh lb)
end
end L2

set_option maxHeartbeats 4000000
namespace L2
open PySem PySem.Spec PyProof.Rows PySem.W
theorem upd_plain : plainId "dict.update.loop" = true := by decide +kernel
theorem upd_entry : entryFor table "dict.update.loop" = some Builtin.«dict.update.loop» := entryFor_of_tree (by kernel_rfl)
theorem keys_miss : typeLookup (.type "list") "keys" = pure none := am_miss_of_fast (by kernel_rfl)
section
variable {prog : Program} {w : World} {A : Around} {E : Value → Shared → Prop} {s : Shared}
theorem keys_none {a : Addr} {xs : Array Value} {k : Nat} {Q : Option Value → Shared → Prop} (hx : s.heap.get? a = some { cls := .type "list", data := .seq xs k }) (hA : A.handled = none)
    (h : ∀ g tk, (∀ c o, s.heap.get? c = some o → g.get? c = some o) → Q none { s with heap := g, toks := tk }) : wpAny (model prog w) A (getAttr? (.ref a) "keys") Q E s := by
  obtain ⟨hp, g, d, tk, os⟩ := s
  have hT : ∀ tk', (⟨hp, g, d, tk', os⟩ : Shared).TypeIs (.ref a) "list" := fun _ => ⟨_, hx, rfl⟩
  have y1 := sub_AttributeError
  have y3 := F.slot_list_getattribute.lookup
  have y4 := F.slot_list_getattribute.bind (.ref a)
  have y5 := am_list_getattr_none
  unfold getAttr? getAttrBy? getAttrBy
  repeat (any_goals (first | assumption | exact hT _ | ((with_reducible show wpAny _ _ (call (Value.builtin "list.__getattribute__") _ _) _ _ _); refine call_meets F.slot_list_getattribute (hT _) am_entry_list_getattribute (F.args_list_getattribute_2 _ _) (meets_getattribute_miss_list a xs k #[] "keys" _ keys_miss (by decide +kernel)) ⟨hx, hA, fun g' tk' e hx' => ?_⟩) | wp_step))
  obtain ⟨tt, uu, hee⟩ := hx'.there
  show wpAny _ _ (getattributeRaised _ _ _ _ _ _ _) _ _ _
  unfold getattributeRaised
  repeat (any_goals (first | assumption | wp_step))
  exact h _ _ hx'.keeps
end
end L2

set_option maxHeartbeats 4000000
namespace L2
open PySem PySem.Spec PyProof.Rows PySem.W
section
variable {prog : Program} {w : World} {A : Around} {E : Value → Shared → Prop}
/-- the pairs that a list holds -/
def TPs (prog : Program) (w : World) (h : Heap) (d it : Addr) (items : Array Value) (es : List (Key × Value)) : Prop := ∀ (i : Nat) (k : Key) (u : Value), es[i]? = some (k, u) → ∃ (t : Addr) (kv : Value), items[i]? = some (Value.ref t) ∧ t ≠ d ∧ t ≠ it ∧ IsTup h t #[kv, u] ∧ (mixKind prog w).is k kv = true
theorem TPs.keeps {h g : Heap} {d it : Addr} {items : Array Value} {es : List (Key × Value)} (x : TPs prog w h d it items es) (e : ∀ c o, c ≠ d → c ≠ it → h.get? c = some o → g.get? c = some o) : TPs prog w g d it items es := fun i k u hi => by
  obtain ⟨t, kv, h1, h2, h3, h4, h5⟩ := x i k u hi
  exact ⟨t, kv, h1, h2, h3, isTup_keeps h4 fun o z => e t o h2 h3 z, h5⟩
theorem upd_loop {d it l : Addr} {items : Array Value} {es : List (Key × Value)} (hh : A.handled = none) (dl : d ≠ l) (di : d ≠ it) (li : l ≠ it) (le : items.size = es.length) (ls : es.length ≤ 1000) {R : Result → Shared → Prop} :
    ∀ (m i : Nat) (kvs : List (Key × Value)) (s : Shared), es.length - i = m → i ≤ es.length → kvs = es.take i → (es.map (·.1)).Nodup → s.heap.IsListIter it l i → s.heap.IsList l items → TPs prog w s.heap d it items es → s.heap.DictOf (mixKind prog w) d kvs →
      (∀ g tk, g.DictOf (mixKind prog w) d es → (∀ c o, c ≠ d → c ≠ it → s.heap.get? c = some o → g.get? c = some o) → R (.ok (.ret .none)) { s with heap := g, toks := tk }) →
      wpAny (model prog w) A.in1 (Builtin.«dict.update.loop» ⟨[.ref d, .ref it, rawInt i, .none], []⟩) (fun fin s' => match fin with | .done f => R (.ok f) s' | .again c' => c'.quiet = true ∧ codeAny (model prog w) A c' R s') (fun e s' => R (.error e) s') s := by
  intro m
  induction m with
  | zero =>
    intro i kvs s hm hi hk nd hit hl tp hd hR
    have ei : i = es.length := by omega
    show wpAny _ _ (pyNext (.ref it) >>= _) _ _ _
    refine wpAny_bind (wpAny_pyNext_list_end hh hit hl (by rw [Array.getElem?_eq_none]; omega) fun g eb => ?_)
    refine wpAny_bind (wpAny_pure (wpAny_pure ?_))
    have e2 : kvs = es := by rw [hk, ei, List.take_of_length_le (Nat.le_refl _)]
    subst e2
    exact hR g s.toks (hd.extBut eb di) fun c o _ n e => eb c o n e
  | succ m ih =>
    intro i kvs s hm hi hk nd hit hl tp hd hR
    have hlt : i < es.length := by omega
    obtain ⟨⟨k, u⟩, hu⟩ : ∃ p, es[i]? = some p := ⟨es[i], List.getElem?_eq_getElem hlt⟩
    obtain ⟨t, kv, t1, t2, t3, t4, t5⟩ := tp i k u hu
    show wpAny _ _ (pyNext (.ref it) >>= _) _ _ _
    refine wpAny_bind (wpAny_pyNext_list_item hit hl t1 fun g1 it1 b1 => ?_)
    have d1 : g1.DictOf (mixKind prog w) d kvs := hd.sameBut b1 di
    have t41 : IsTup g1 t #[kv, u] := isTup_keeps t4 fun o z => (b1.2 t t3).trans z
    obtain ⟨ot, g2, g3, n2, g4⟩ := id t41
    refine wpAny_bind ?_
    refine wpAny_holding (wpAny_bind (wpAny_tryCatch ?_))
    unfold Builtin.Dict.pairItems
    refine wpAny_bind (wpAny_typeOf (T := "tuple") ⟨ot, g2, g3⟩ ?_)
    rw [if_pos (by decide)]
    refine wpAny_bind (wpAny_seqItems g2 g4 (wpAny_pure ?_))
    show wpAny _ _ (holding [kv, u] (dictSet d kv u)) _ _ _
    have hn : k ∉ kvs.map (·.1) := fun z => by
      rw [hk] at z
      obtain ⟨e, he, ek⟩ := List.mem_map.mp z
      obtain ⟨j, hj, ej⟩ := List.getElem_of_mem he
      rw [List.length_take] at hj
      have := List.pairwise_iff_getElem.mp nd j i (by rw [List.length_map]; omega) (by rw [List.length_map]; omega) (by omega)
      rw [List.getElem_map, List.getElem_map] at this
      apply this
      have e1 : es[j]'(by omega) = e := by rw [← ej, List.getElem_take]
      have e2 : es[i] = (k, u) := Option.some.inj ((List.getElem?_eq_getElem hlt).symm.trans hu)
      rw [e1, e2]
      exact ek
    have lk : kvs.length ≤ sizeLine := by
      have sl : sizeLine = 16777216 := sizeLine_eq
      rw [hk, List.length_take]
      omega
    refine wpAny_holding (wpAny_dictSet_pairs t5 d1 (fun g5 d5 b5 => ?_) lk)
    have e5 : stored kvs k u = es.take (i + 1) := by
      unfold stored
      rw [if_neg (fun z => by
        obtain ⟨e, he, ek⟩ := List.any_eq_true.mp z
        exact hn (List.mem_map.mpr ⟨e, he, of_decide_eq_true ek⟩)), hk, List.take_add_one, hu]
      rfl
    rw [e5] at d5
    refine wpAny_pure ⟨plainId_quiet upd_plain _, codeAny_builtin upd_entry ?_⟩
    rw [Around.under_plainId upd_plain _]
    have kp : ∀ c o, c ≠ d → c ≠ it → s.heap.get? c = some o → g5.get? c = some o := fun c o n1 n2 e => (b5.2 c n1).trans ((b1.2 c n2).trans e)
    have ri : rawInt ((i : Int) + 1) = rawInt (((i + 1 : Nat) : Nat) : Int) := by push_cast; rfl
    show wpAny _ _ (Builtin.«dict.update.loop» ⟨[.ref d, .ref it, rawInt ((i : Int) + 1), .none], []⟩) _ _ _
    rw [ri]
    refine ih (i + 1) _ _ (by omega) hlt rfl nd (it1.at fun o e => (b5.2 it di.symm).trans e) (hl.at fun o e => kp l o dl.symm li e) (tp.keeps kp) d5 fun g tk h1 h2 => ?_
    exact hR g tk h1 fun c o n1 n2 e => h2 c o n1 n2 (kp c o n1 n2 e)
end
end L2

set_option maxHeartbeats 4000000
namespace L2
open PySem PySem.Spec PyProof.Rows PySem.W
section
variable {X : Cx}
/-- a list item that is a key and its value -/
def PairE (H : Hp) (v : V) (e : Key × V) : Prop := ∃ b, v = .ref b ∧ H b = some (.tup [kV e.1, e.2])
theorem pairs_vals {pins : List (Addr × Obj)} {σ : St} {H : Hp} {s : Shared} (I : Inv X pins σ H s) : ∀ {xs : List V} {es : List (Key × V)} {its : List Value}, Paired (PairE H) xs es → Vals xs its →
    ∃ vs : List (Key × Value), KV es vs ∧ ∀ (i : Nat) (k : Key) (u : Value), vs[i]? = some (k, u) → ∃ (t : Addr) (kv : Value), its[i]? = some (Value.ref t) ∧ (∃ zs, H t = some (.tup zs)) ∧ IsTup s.heap t #[kv, u] ∧ (mixKind X.prog X.w).is k kv = true
  | _, _, _, .nil, .nil => ⟨[], .nil, fun i k u h => by simp at h⟩
  | _, _, _, .cons (b := e) ⟨b, z1, z2⟩ t, .cons r r' => by
    subst z1
    obtain ⟨vs, h1, h2⟩ := pairs_vals I t r'
    obtain ⟨its2, r2, pt, _⟩ := I.tuple (SqT.of z2)
    obtain ⟨kv, u, rfl, rk, ru⟩ := vals2 r2
    refine ⟨(e.1, u) :: vs, .cons ⟨rfl, ru⟩ h1, fun i k u' h => ?_⟩
    cases i with
    | zero =>
      simp at h
      obtain ⟨rfl, rfl⟩ := h
      exact ⟨b, kv, by rw [List.getElem?_cons_zero]; exact congrArg some (show _ = Value.ref b from r), ⟨_, z2⟩, pt, kV_is rk⟩
    | succ i =>
      obtain ⟨t, kv, y1, y2, y3, y4⟩ := h2 i k u' (by simpa using h)
      exact ⟨t, kv, by simpa using y1, y2, y3, y4⟩
/-- dict([(k, v), ..]), unlike keys -/
def rDictP : List V → Hp → VK → Prop := fun vs H Q => ∃ (l : Addr) (xs : List V) (es : List (Key × V)), vs = [.ref l] ∧ H l = some (.lst xs) ∧ Paired (PairE H) xs es ∧ (es.map (·.1)).Nodup ∧ es.length ≤ 1000 ∧ ∀ d, H d = none → Q (.ref d) (upd H d (.dK es))
theorem call_dictP (hc : X.calm = true) : CallR X (.type "dict") rDictP := by
  intro pins s σ H vs us Q I r h
  obtain ⟨l, xs, es, rfl, hl, hp, nd, le, q⟩ := h
  obtain ⟨u, rfl, ru⟩ := vals1 r
  cases ru
  obtain ⟨z0, its, n, r1, lx, el⟩ := I.lstM hl
  obtain ⟨vs, kv, hv⟩ := pairs_vals I hp r1
  have lv := kv.length
  have lp := hp.length
  have ndv : (vs.map (·.1)).Nodup := by rw [← kv.keys]; exact nd
  have hh := I.ok.hd hc
  refine callType_codes (Q₁ := fun obj s₁ => obj = .ref s.heap.objs.size ∧ s₁ = { s with heap := s.heap.push { cls := .type "dict", data := .dict #[] } }) F.kt_called_dict (F.kt_typeCall_dict_1 _) F.entry_dict_init (kt_code_dict_new _ ⟨rfl, rfl⟩) ?_
  rintro obj s₁ ⟨rfl, rfl⟩
  have hnew : (s.heap.push { cls := .type "dict", data := .dict #[] }).DictOf (mixKind X.prog X.w) s.heap.objs.size [] := Heap.DictOf.new s.heap
  refine ⟨hnew.typeIs, F.args_dict_init_2 _ _, ?_⟩
  have el1 : (s.heap.push { cls := .type "dict", data := .dict #[] }).get? l = some { cls := .type "list", data := .seq its.toArray n } := Heap.get?_push_of_some _ el
  unfold Builtin.«dict.__init__»
  refine wpAny_bind ?_
  unfold Builtin.Dict.selfAndRest
  refine wpAny_bind (wpAny_notOrdered_dict hnew.typeIs ?_)
  show wpAny _ _ (pure (s.heap.objs.size, [Value.ref l])) _ _ _
  refine wpAny_pure ?_
  show wpAny _ _ (Builtin.Dict.updateFrom "dict.__init__" s.heap.objs.size (Value.ref l) [] .none) _ _ _
  unfold Builtin.Dict.updateFrom
  refine wpAny_bind (wpAny_typeOf (T := "list") ⟨_, el1, rfl⟩ ?_)
  rw [if_pos (by decide)]
  refine wpAny_bind (keys_none el1 hh fun g1 tk1 kp1 => ?_)
  rw [if_pos (by rfl)]
  refine wpAny_bind (wpAny_rule ?_)
  have lg : g1.IsList l its.toArray := ⟨_, kp1 _ _ el1, rfl, n, rfl⟩
  refine wpAny_bind (wpAny_pyIter_list lg ?_)
  refine wpAny_pure ⟨plainId_quiet upd_plain _, codeAny_builtin upd_entry ?_⟩
  rw [Around.under_plainId upd_plain _]
  have dn : s.heap.objs.size < g1.objs.size := Heap.lt_size (kp1 _ _ (Heap.get?_push_size _ rfl))
  have ll : l < s.heap.objs.size := Heap.lt_size el
  have le' : its.toArray.size = vs.length := by
    rw [List.size_toArray]
    omega
  have kp2 : ∀ c o, s.heap.get? c = some o → (g1.push { cls := .type "list_iterator", data := .fields #[.ref l, .int 0 0] }).get? c = some o := fun c o e => Heap.get?_push_of_some _ (kp1 _ _ (Heap.get?_push_of_some _ e))
  have d1 : (g1.push { cls := .type "list_iterator", data := .fields #[.ref l, .int 0 0] }).DictOf (mixKind X.prog X.w) s.heap.objs.size [] := by
    obtain ⟨o, es', ep, h1, h2⟩ := hnew
    exact ⟨o, es', ep, Heap.get?_push_of_some _ (kp1 _ _ h1), h2⟩
  refine upd_loop (prog := X.prog) (w := X.w) (A := X.A.in1) (d := s.heap.objs.size) (it := g1.objs.size) (l := l) (items := its.toArray) (es := vs) hh (Nat.ne_of_gt ll) (Nat.ne_of_lt dn) (Nat.ne_of_lt (Nat.lt_trans ll dn)) le' (by omega) _ 0 [] _ rfl (Nat.zero_le _) rfl ndv ⟨_, Heap.get?_push_size _ rfl, rfl, rfl⟩ ⟨_, kp2 _ _ el, rfl, n, rfl⟩ (fun i k u hi => ?_) d1 fun g tk h1 h2 => ?_
  · obtain ⟨t, kv', y1, ⟨zs, y2⟩, y3, y4⟩ := hv i k u hi
    have tl : t < s.heap.objs.size := by
      obtain ⟨o, z, _⟩ := y3
      exact Heap.lt_size z
    exact ⟨t, kv', by simpa using y1, Nat.ne_of_lt tl, Nat.ne_of_lt (Nat.lt_trans tl dn), isTup_keeps y3 fun o e => kp2 _ _ e, y4⟩
  · refine ⟨rfl, .ref s.heap.objs.size, _, I.laid (o := .dK es) (t' := tk) (fun b o e => ?_) (Nat.le_refl _) ?_, rfl, q _ (I.hok.fresh (Nat.le_refl _))⟩
    · have bl := Heap.lt_size e
      exact h2 b o (Nat.ne_of_lt bl) (Nat.ne_of_lt (Nat.lt_trans bl dn)) (kp2 _ _ e)
    · have sl : sizeLine = 16777216 := sizeLine_eq
      refine ⟨by omega, ?_, vs, kv, h1⟩
      exact beq_eq_false_iff_ne.mpr (Nat.ne_of_gt (I.big))
end
end L2

namespace Lm
abbrev Ps := List (Int × Int)
/-- the places of stretches -/
def mem (ps : Ps) (x : Int) : Prop := ∃ p ∈ ps, p.1 ≤ x ∧ x < p.2
theorem mem_nil {x : Int} : mem [] x ↔ False := by simp [mem]
theorem mem_cons {p : Int × Int} {t : Ps} {x : Int} : mem (p :: t) x ↔ (p.1 ≤ x ∧ x < p.2) ∨ mem t x := by simp [mem]
theorem mem_app {s t : Ps} {x : Int} : mem (s ++ t) x ↔ mem s x ∨ mem t x := by
  induction s with
  | nil => simp [mem_nil]
  | cons p s ih => rw [List.cons_append, mem_cons, mem_cons, ih, or_assoc]
/-- a work, and one in its short form -/
def Wk : Ps → Prop
  | [] => True
  | p :: t => p.1 < p.2 ∧ (∀ q ∈ t, p.2 ≤ q.1) ∧ Wk t
def Sh : Ps → Prop
  | [] => True
  | p :: t => p.1 < p.2 ∧ (∀ q ∈ t, p.2 < q.1) ∧ Sh t
theorem Sh.wk : ∀ {t : Ps}, Sh t → Wk t
  | [], _ => trivial
  | _ :: _, ⟨h1, h2, h3⟩ => ⟨h1, fun q hq => Int.le_of_lt (h2 q hq), Sh.wk h3⟩
theorem Sh.lt : ∀ {t : Ps}, Sh t → ∀ q ∈ t, q.1 < q.2
  | _ :: _, ⟨h1, h2, h3⟩, q, hq => by
    rcases List.mem_cons.mp hq with rfl | hq
    · exact h1
    · exact Sh.lt h3 q hq
theorem Wk.lt : ∀ {t : Ps}, Wk t → ∀ q ∈ t, q.1 < q.2
  | _ :: _, ⟨h1, h2, h3⟩, q, hq => by
    rcases List.mem_cons.mp hq with rfl | hq
    · exact h1
    · exact Wk.lt h3 q hq
theorem mem_ge {t : Ps} {b x : Int} (h : ∀ q ∈ t, b ≤ q.1) (hx : mem t x) : b ≤ x := by
  obtain ⟨p, hp, z, _⟩ := hx
  have := h p hp
  omega
theorem sh_first {p : Int × Int} {t : Ps} (h : Sh (p :: t)) {x : Int} (hx : mem (p :: t) x) : p.1 ≤ x := by
  rcases mem_cons.mp hx with z | z
  · exact z.1
  · have := mem_ge (b := p.2) (fun q hq => Int.le_of_lt (h.2.1 q hq)) z
    have := h.1
    omega
theorem sh_rest {p : Int × Int} {t : Ps} (h : Sh (p :: t)) {x : Int} : mem t x ↔ mem (p :: t) x ∧ p.2 ≤ x := by
  constructor
  · intro z
    exact ⟨mem_cons.mpr (.inr z), mem_ge (fun q hq => Int.le_of_lt (h.2.1 q hq)) z⟩
  · rintro ⟨z, w⟩
    rcases mem_cons.mp z with z | z
    · omega
    · exact z
theorem sh_end {p : Int × Int} {t : Ps} (h : Sh (p :: t)) : ¬ mem (p :: t) p.2 := by
  intro z
  rcases mem_cons.mp z with z | z
  · omega
  · obtain ⟨q, hq, z1, _⟩ := z
    have := h.2.1 q hq
    omega
/-- one short form for the same places -/
theorem sh_same : ∀ {s t : Ps}, Sh s → Sh t → (∀ x, mem s x ↔ mem t x) → s = t
  | [], [], _, _, _ => rfl
  | [], q :: t, _, ht, e => by
    have := (e q.1).mpr (mem_cons.mpr (.inl ⟨Int.le_refl _, ht.1⟩))
    exact (mem_nil.mp this).elim
  | p :: s, [], hs, _, e => by
    have := (e p.1).mp (mem_cons.mpr (.inl ⟨Int.le_refl _, hs.1⟩))
    exact (mem_nil.mp this).elim
  | p :: s, q :: t, hs, ht, e => by
    have l1 : q.1 ≤ p.1 := sh_first ht ((e p.1).mp (mem_cons.mpr (.inl ⟨Int.le_refl _, hs.1⟩)))
    have l2 : p.1 ≤ q.1 := sh_first hs ((e q.1).mpr (mem_cons.mpr (.inl ⟨Int.le_refl _, ht.1⟩)))
    have h1 : ¬ p.2 < q.2 := fun z => sh_end hs ((e p.2).mpr (mem_cons.mpr (.inl ⟨by have := hs.1; omega, z⟩)))
    have h2 : ¬ q.2 < p.2 := fun z => sh_end ht ((e q.2).mp (mem_cons.mpr (.inl ⟨by have := ht.1; omega, z⟩)))
    have pq : p = q := by
      apply Prod.ext
      · omega
      · omega
    subst pq
    have : s = t := sh_same hs.2.2 ht.2.2 fun x => by rw [sh_rest hs, sh_rest ht, e x]
    rw [this]
theorem sh_app : ∀ {s t : Ps}, Sh s → Sh t → (∀ p ∈ s, ∀ q ∈ t, p.2 < q.1) → Sh (s ++ t)
  | [], _, _, ht, _ => ht
  | p :: s, t, hs, ht, h => by
    refine ⟨hs.1, fun q hq => ?_, sh_app hs.2.2 ht fun a ha b hb => h a (List.mem_cons_of_mem _ ha) b hb⟩
    rcases List.mem_append.mp hq with hq | hq
    · exact hs.2.1 q hq
    · exact h p (List.mem_cons_self ..) q hq

/-! ### merging -/
def mg : Int × Int → Ps → Ps
  | c, [] => [c]
  | c, p :: t => if p.1 ≤ c.2 then mg (c.1, if p.2 > c.2 then p.2 else c.2) t else c :: mg p t
def merged : Ps → Ps
  | [] => []
  | p :: t => mg p t
/-- rising by their lows -/
def Lo : Ps → Prop
  | [] => True
  | p :: t => p.1 < p.2 ∧ (∀ q ∈ t, p.1 ≤ q.1) ∧ Lo t
theorem Wk.lo : ∀ {t : Ps}, Wk t → Lo t
  | [], _ => trivial
  | _ :: _, ⟨h1, h2, h3⟩ => ⟨h1, fun q hq => by have := h2 q hq; omega, Wk.lo h3⟩
theorem mg_ok : ∀ {t : Ps} {c : Int × Int}, c.1 < c.2 → (∀ q ∈ t, c.1 ≤ q.1) → Lo t → Sh (mg c t) ∧ (∀ p ∈ mg c t, c.1 ≤ p.1) ∧ (∀ x, mem (mg c t) x ↔ (c.1 ≤ x ∧ x < c.2) ∨ mem t x) ∧ (mg c t).length ≤ t.length + 1
  | [], c, h, _, _ => by
    refine ⟨⟨h, by simp, trivial⟩, fun p hp => ?_, fun x => ?_, Nat.le_refl _⟩
    · rw [List.mem_singleton.mp hp]
      exact Int.le_refl _
    · show mem [c] x ↔ _
      rw [mem_cons]
  | p :: t, c, h, hq, hl => by
    have hp := hq p (List.mem_cons_self ..)
    have hpp := hl.1
    by_cases z : p.1 ≤ c.2
    · have e : mg c (p :: t) = mg (c.1, if p.2 > c.2 then p.2 else c.2) t := by
        show (if p.1 ≤ c.2 then _ else _) = _
        rw [if_pos z]
      rw [e]
      have hm : c.1 < (if p.2 > c.2 then p.2 else c.2) := by split <;> omega
      obtain ⟨i1, i2, i3, i4⟩ := mg_ok (t := t) (c := (c.1, if p.2 > c.2 then p.2 else c.2)) hm (fun q hq' => by have := hl.2.1 q hq'; show c.1 ≤ q.1; omega) hl.2.2
      refine ⟨i1, i2, fun x => ?_, by rw [List.length_cons]; omega⟩
      rw [i3 x, mem_cons]
      show (c.1 ≤ x ∧ x < (if p.2 > c.2 then p.2 else c.2)) ∨ mem t x ↔ _
      by_cases m : mem t x
      · simp [m]
      · simp only [m, or_false]
        split <;> omega
    · have e : mg c (p :: t) = c :: mg p t := by
        show (if p.1 ≤ c.2 then _ else _) = _
        rw [if_neg z]
      rw [e]
      obtain ⟨i1, i2, i3, i4⟩ := mg_ok (t := t) (c := p) hpp hl.2.1 hl.2.2
      refine ⟨⟨h, fun q hq' => by have := i2 q hq'; omega, i1⟩, fun q hq' => ?_, fun x => ?_, by rw [List.length_cons, List.length_cons]; omega⟩
      · rcases List.mem_cons.mp hq' with rfl | hq'
        · exact Int.le_refl _
        · have := i2 q hq'
          omega
      · rw [mem_cons, mem_cons, i3 x]
theorem merged_ok : ∀ {t : Ps}, Lo t → Sh (merged t) ∧ (∀ x, mem (merged t) x ↔ mem t x) ∧ (merged t).length ≤ t.length
  | [], _ => ⟨trivial, fun x => Iff.rfl, Nat.le_refl _⟩
  | p :: t, h => by
    obtain ⟨i1, i2, i3, i4⟩ := mg_ok h.1 h.2.1 h.2.2
    exact ⟨i1, fun x => by rw [show merged (p :: t) = mg p t from rfl, i3 x, mem_cons], i4⟩

/-! ### without -/
def cut (at_ high : Int) : Ps → Ps
  | [] => if at_ < high then [(at_, high)] else []
  | g :: gs => if g.1 < high then (if at_ < g.1 then [(at_, g.1)] else []) ++ cut g.2 high gs else if at_ < high then [(at_, high)] else []
def skip (low : Int) : Ps → Ps
  | [] => []
  | g :: gs => if g.2 ≤ low then skip low gs else g :: gs
def wo : Ps → Ps → Ps
  | [], _ => []
  | p :: t, gs => cut p.1 p.2 (skip p.1 gs) ++ wo t (skip p.1 gs)
theorem one_ok {a b : Int} : Sh (if a < b then [(a, b)] else []) ∧ (∀ p ∈ (if a < b then [(a, b)] else []), a ≤ p.1 ∧ p.2 ≤ b) ∧ (∀ x, mem (if a < b then [(a, b)] else []) x ↔ a ≤ x ∧ x < b) ∧ (if a < b then [(a, b)] else ([] : Ps)).length ≤ 1 := by
  by_cases h : a < b
  · rw [if_pos h]
    refine ⟨⟨h, by simp, trivial⟩, fun p hp => ?_, fun x => ?_, Nat.le_refl _⟩
    · rw [List.mem_singleton.mp hp]
      exact ⟨Int.le_refl _, Int.le_refl _⟩
    · rw [mem_cons, mem_nil, or_false]
  · rw [if_neg h]
    refine ⟨trivial, by simp, fun x => ?_, Nat.zero_le _⟩
    rw [mem_nil]
    exact ⟨False.elim, fun z => by omega⟩
theorem cut_ok : ∀ {gs : Ps} {a b : Int}, Sh gs → (∀ g ∈ gs, a < g.2) → Sh (cut a b gs) ∧ (∀ p ∈ cut a b gs, a ≤ p.1 ∧ p.2 ≤ b) ∧ (∀ x, mem (cut a b gs) x ↔ (a ≤ x ∧ x < b) ∧ ¬ mem gs x) ∧ (cut a b gs).length ≤ gs.length + 1
  | [], a, b, _, _ => by
    obtain ⟨i1, i2, i3, i4⟩ := one_ok (a := a) (b := b)
    exact ⟨i1, i2, fun x => by rw [show cut a b [] = (if a < b then [(a, b)] else []) from rfl, i3 x, mem_nil]; simp, i4⟩
  | g :: gs, a, b, hs, hg => by
    have h1 := hs.1
    have h2 := hg g (List.mem_cons_self ..)
    by_cases z : g.1 < b
    · have e : cut a b (g :: gs) = (if a < g.1 then [(a, g.1)] else []) ++ cut g.2 b gs := by
        show (if g.1 < b then _ else _) = _
        rw [if_pos z]
      rw [e]
      obtain ⟨i1, i2, i3, i4⟩ := one_ok (a := a) (b := g.1)
      obtain ⟨j1, j2, j3, j4⟩ := cut_ok (gs := gs) (a := g.2) (b := b) hs.2.2 fun q hq => by
        have := hs.2.1 q hq
        have := Sh.lt hs.2.2 q hq
        omega
      refine ⟨sh_app i1 j1 fun p hp q hq => ?_, fun p hp => ?_, fun x => ?_, ?_⟩
      · have := (i2 p hp).2
        have := (j2 q hq).1
        omega
      · rcases List.mem_append.mp hp with hp | hp
        · have := i2 p hp
          exact ⟨this.1, by omega⟩
        · have := j2 p hp
          exact ⟨by omega, this.2⟩
      · rw [mem_app, i3 x, j3 x, mem_cons]
        have ge : mem gs x → g.2 ≤ x := fun m => mem_ge (fun q hq => Int.le_of_lt (hs.2.1 q hq)) m
        by_cases m : mem gs x
        · have := ge m
          simp only [m, not_true_eq_false, and_false, or_false, or_true, iff_false, false_and]
          omega
        · simp only [m, not_false_eq_true, and_true, or_false]
          omega
      · rw [List.length_append, List.length_cons]
        omega
    · have e : cut a b (g :: gs) = if a < b then [(a, b)] else [] := by
        show (if g.1 < b then _ else _) = _
        rw [if_neg z]
      rw [e]
      obtain ⟨i1, i2, i3, i4⟩ := one_ok (a := a) (b := b)
      refine ⟨i1, i2, fun x => ?_, by rw [List.length_cons]; omega⟩
      rw [i3 x]
      have ge : mem (g :: gs) x → g.1 ≤ x := fun m => sh_first hs m
      constructor
      · intro h
        exact ⟨h, fun m => by have := ge m; omega⟩
      · exact fun h => h.1
theorem skip_ok : ∀ {gs : Ps} {a : Int}, Sh gs → Sh (skip a gs) ∧ (∀ g ∈ skip a gs, a < g.2) ∧ (∀ x, a ≤ x → (mem (skip a gs) x ↔ mem gs x)) ∧ (skip a gs).length ≤ gs.length
  | [], a, _ => ⟨trivial, by simp [skip], fun x _ => Iff.rfl, Nat.le_refl _⟩
  | g :: gs, a, hs => by
    by_cases z : g.2 ≤ a
    · have e : skip a (g :: gs) = skip a gs := by
        show (if g.2 ≤ a then _ else _) = _
        rw [if_pos z]
      rw [e]
      obtain ⟨i1, i2, i3, i4⟩ := skip_ok (gs := gs) (a := a) hs.2.2
      refine ⟨i1, i2, fun x hx => ?_, by rw [List.length_cons]; omega⟩
      rw [i3 x hx, mem_cons]
      constructor
      · exact .inr
      · rintro (h | h)
        · omega
        · exact h
    · have e : skip a (g :: gs) = g :: gs := by
        show (if g.2 ≤ a then _ else _) = _
        rw [if_neg z]
      rw [e]
      refine ⟨hs, fun q hq => ?_, fun x _ => Iff.rfl, Nat.le_refl _⟩
      rcases List.mem_cons.mp hq with rfl | hq
      · omega
      · have := hs.2.1 q hq
        have := Sh.lt hs.2.2 q hq
        omega
theorem wo_ok : ∀ {ks gs : Ps}, Sh ks → Sh gs → Sh (wo ks gs) ∧ (∀ p ∈ wo ks gs, ∃ k ∈ ks, k.1 ≤ p.1) ∧ (∀ x, mem (wo ks gs) x ↔ mem ks x ∧ ¬ mem gs x)
  | [], gs, _, _ => ⟨trivial, by simp [wo], fun x => by rw [show wo [] gs = [] from rfl, mem_nil]; simp⟩
  | p :: t, gs, hk, hg => by
    obtain ⟨s1, s2, s3, s4⟩ := skip_ok (a := p.1) hg
    obtain ⟨i1, i2, i3, i4⟩ := cut_ok (b := p.2) s1 s2
    obtain ⟨j1, j2, j3⟩ := wo_ok (ks := t) (gs := skip p.1 gs) hk.2.2 s1
    have far : ∀ q ∈ wo t (skip p.1 gs), p.2 < q.1 := fun q hq => by
      obtain ⟨k, hk', z⟩ := j2 q hq
      have := hk.2.1 k hk'
      omega
    refine ⟨sh_app i1 j1 fun a ha q hq => ?_, fun q hq => ?_, fun x => ?_⟩
    · have := (i2 a ha).2
      have := far q hq
      omega
    · rcases List.mem_append.mp hq with hq | hq
      · exact ⟨p, List.mem_cons_self .., (i2 q hq).1⟩
      · obtain ⟨k, hk', z⟩ := j2 q hq
        exact ⟨k, List.mem_cons_of_mem _ hk', z⟩
    · show mem (cut p.1 p.2 (skip p.1 gs) ++ wo t (skip p.1 gs)) x ↔ _
      rw [mem_app, i3 x, j3 x, mem_cons]
      have ge : mem t x → p.2 ≤ x := fun m => mem_ge (fun q hq => Int.le_of_lt (hk.2.1 q hq)) m
      have h1 := hk.1
      by_cases hx : p.1 ≤ x
      · rw [s3 x hx]
        constructor
        · rintro (⟨a, b⟩ | ⟨a, b⟩)
          · exact ⟨.inl a, b⟩
          · exact ⟨.inr a, b⟩
        · rintro ⟨a | a, b⟩
          · exact .inl ⟨a, b⟩
          · exact .inr ⟨a, b⟩
      · constructor
        · rintro (⟨a, b⟩ | ⟨a, b⟩)
          · omega
          · have := ge a
            omega
        · rintro ⟨a | a, b⟩
          · omega
          · have := ge a
            omega
/-! ### how many stretches -/
theorem skip_cnt (f : Int × Int → Bool) (a : Int) : ∀ gs : Ps, (skip a gs).countP f ≤ gs.countP f
  | [] => Nat.le_refl _
  | g :: gs => by
    show (if g.2 ≤ a then skip a gs else g :: gs).countP f ≤ _
    split
    · have := skip_cnt f a gs
      rw [List.countP_cons]
      omega
    · exact Nat.le_refl _
theorem cut_len : ∀ {gs : Ps} {a b : Int}, Sh gs → (∀ g ∈ gs, a < g.2) → (cut a b gs).length ≤ 1 + gs.countP fun g => decide (a < g.1 ∧ g.1 < b)
  | [], a, b, _, _ => by
    have := (one_ok (a := a) (b := b)).2.2.2
    show (if a < b then [(a, b)] else ([] : Ps)).length ≤ _
    omega
  | g :: gs, a, b, hs, hg => by
    have h1 := hs.1
    have h2 := hg g (List.mem_cons_self ..)
    rw [List.countP_cons]
    by_cases z : g.1 < b
    · have e : cut a b (g :: gs) = (if a < g.1 then [(a, g.1)] else []) ++ cut g.2 b gs := by
        show (if g.1 < b then _ else _) = _
        rw [if_pos z]
      rw [e, List.length_append]
      have i := cut_len (gs := gs) (a := g.2) (b := b) hs.2.2 fun q hq => by
        have := hs.2.1 q hq
        have := Sh.lt hs.2.2 q hq
        omega
      have m : (gs.countP fun q => decide (g.2 < q.1 ∧ q.1 < b)) ≤ gs.countP fun q => decide (a < q.1 ∧ q.1 < b) := List.countP_mono_left fun q hq hz => by
        have := of_decide_eq_true hz
        exact decide_eq_true ⟨by omega, this.2⟩
      by_cases y : a < g.1
      · rw [if_pos y, decide_eq_true (show a < g.1 ∧ g.1 < b from ⟨y, z⟩)]
        show 1 + _ ≤ 1 + (_ + 1)
        omega
      · rw [if_neg y]
        show 0 + _ ≤ _
        omega
    · have e : cut a b (g :: gs) = if a < b then [(a, b)] else [] := by
        show (if g.1 < b then _ else _) = _
        rw [if_neg z]
      rw [e]
      have := (one_ok (a := a) (b := b)).2.2.2
      omega
theorem cnt_two {α : Type} (f g h : α → Bool) (d : ∀ x, f x = true → g x = true → False) (e : ∀ x, f x = true ∨ g x = true → h x = true) : ∀ l : List α, l.countP f + l.countP g ≤ l.countP h
  | [] => Nat.le_refl _
  | x :: l => by
    have := cnt_two f g h d e l
    rw [List.countP_cons, List.countP_cons, List.countP_cons]
    by_cases a : f x = true
    · by_cases b : g x = true
      · exact (d x a b).elim
      · rw [if_pos a, if_neg b, if_pos (e x (.inl a))]
        omega
    · by_cases b : g x = true
      · rw [if_neg a, if_pos b, if_pos (e x (.inr b))]
        omega
      · rw [if_neg a, if_neg b]
        omega
theorem wo_cnt : ∀ {ks gs : Ps} {L : Int}, Sh ks → Sh gs → (∀ k ∈ ks, L ≤ k.1) → (wo ks gs).length ≤ ks.length + gs.countP fun g => decide (L < g.1)
  | [], gs, L, _, _, _ => Nat.zero_le _
  | p :: t, gs, L, hk, hg, hL => by
    obtain ⟨s1, s2, s3, s4⟩ := skip_ok (a := p.1) hg
    have i := cut_len (b := p.2) s1 s2
    have j := wo_cnt (ks := t) (gs := skip p.1 gs) (L := p.2) hk.2.2 s1 fun k hk' => Int.le_of_lt (hk.2.1 k hk')
    have hp := hL p (List.mem_cons_self ..)
    have c := cnt_two (fun g : Int × Int => decide (p.1 < g.1 ∧ g.1 < p.2)) (fun g => decide (p.2 < g.1)) (fun g => decide (L < g.1)) (fun x a b => by
        have := of_decide_eq_true a
        have := of_decide_eq_true b
        omega) (fun x z => by
        refine decide_eq_true ?_
        have h1 := hk.1
        rcases z with z | z
        · have := of_decide_eq_true z
          omega
        · have := of_decide_eq_true z
          omega) (skip p.1 gs)
    have d := skip_cnt (fun g => decide (L < g.1)) p.1 gs
    show (cut p.1 p.2 (skip p.1 gs) ++ wo t (skip p.1 gs)).length ≤ _
    rw [List.length_append, List.length_cons]
    omega
theorem wo_len {ks gs : Ps} (hk : Sh ks) (hg : Sh gs) : (wo ks gs).length ≤ ks.length + gs.length := by
  match ks, hk with
  | [], _ => exact Nat.zero_le _
  | p :: t, hk =>
    have := wo_cnt (L := p.1) hk hg fun k hk' => by
      rcases List.mem_cons.mp hk' with rfl | hk'
      · exact Int.le_refl _
      · have := hk.2.1 k hk'
        have := hk.1
        omega
    have := List.countP_le_length (p := fun g : Int × Int => decide (p.1 < g.1)) (l := gs)
    omega

/-! ### how many places -/
open Classical in
noncomputable def ind (P : Int → Prop) (x : Int) : Int := if P x then 1 else 0
noncomputable def cnt (P : Int → Prop) (lo : Int) : Nat → Int
  | 0 => 0
  | n + 1 => cnt P lo n + ind P (lo + n)
end Lm

set_option maxHeartbeats 4000000
namespace Ls
open PySem L2 PySem.W

/-! ### the text by places -/
def top (i : Nat) : Stmt := PySem.Challenge.pw_lentwork_k11_results_laid.main.body.getD i (.Pass ⟨0, 0, 0, 0⟩)
abbrev sWhole : Stmt := top 6
abbrev sStretch : Stmt := top 7
abbrev sWork : Stmt := top 8
abbrev sCheck : Stmt := top 9
abbrev sMerged : Stmt := top 10
abbrev sShort : Stmt := top 11
abbrev sWithout : Stmt := top 12
abbrev sNumbers : Stmt := top 14
abbrev sCell : Stmt := top 17
abbrev sTape : Stmt := top 18
abbrev sTake : Stmt := top 19
abbrev sStart : Stmt := top 20
abbrev sMake : Stmt := top 21
abbrev sPlaces : Stmt := top 22
abbrev sStretches : Stmt := top 23
abbrev sLaidW : Stmt := top 24
abbrev sDue : Stmt := top 25
abbrev sStands : Stmt := top 26
abbrev sLaying : Stmt := top 27
abbrev sLaw : Stmt := top 28
abbrev sSInit : Stmt := inClass (top 15) 0
abbrev sSLay : Stmt := inClass (top 15) 1
abbrev sSRes : Stmt := inClass (top 15) 2
abbrev sSAll : Stmt := inClass (top 15) 3
abbrev sSLeft : Stmt := inClass (top 15) 4
abbrev sSHolds : Stmt := inClass (top 15) 5
abbrev sSLaid : Stmt := inClass (top 15) 6
abbrev sSBetween : Stmt := inClass (top 15) 7

theorem len1 {α : Type} {us : List α} (h : us.length = 1) : ∃ a, us = [a] := by
  cases us with
  | nil => cases h
  | cons a t => exact ⟨a, by rw [List.length_eq_zero_iff.mp (Nat.succ.inj h)]⟩
theorem len2 {α : Type} {us : List α} (h : us.length = 2) : ∃ a b, us = [a, b] := by
  cases us with
  | nil => cases h
  | cons a t =>
    obtain ⟨b, rfl⟩ := len1 (Nat.succ.inj h)
    exact ⟨a, b, rfl⟩
theorem len3 {α : Type} {us : List α} (h : us.length = 3) : ∃ a b c, us = [a, b, c] := by
  cases us with
  | nil => cases h
  | cons a t =>
    obtain ⟨b, c, rfl⟩ := len2 (Nat.succ.inj h)
    exact ⟨a, b, c, rfl⟩
/-! ### kinds of things -/
inductive Kn (H : Hp) : V → Prop where
  | non : Kn H .non
  | bl (b : Bool) : Kn H (.bl b)
  | int (i : Int) : Kn H (.int i)
  | str (x : Str) : Kn H (.str x)
  | lst {a : Addr} {xs : List V} (e : H a = some (.lst xs)) : Kn H (.ref a)
  | dK {a : Addr} {kvs : List (Key × V)} (e : H a = some (.dK kvs)) : Kn H (.ref a)
inductive Knd (H : Hp) : V → Prop where
  | kn {x : V} (h : Kn H x) : Knd H x
  | tup {a : Addr} {xs : List V} (e : H a = some (.tup xs)) : Knd H (.ref a)
def wholeB : V → Bool
  | .int _ => true
  | _ => false

/-- isinstance's answers -/
theorem ans_int {K : Frag} {H : Hp} {x : V} (h : Knd H x) : ∃ t, TyOf K H x t ∧ kitOne K t (.type "int") = some (match x with | .int _ => true | .bl _ => true | _ => false) := by
  cases h with
  | kn h =>
    cases h with
    | non => exact ⟨_, .non, by kernel_rfl⟩
    | bl b => exact ⟨_, .bl b, by kernel_rfl⟩
    | int i => exact ⟨_, .int i, by rfl⟩
    | str x => exact ⟨_, .str x, by kernel_rfl⟩
    | lst q => exact ⟨_, .lst q, by kernel_rfl⟩
    | dK q => exact ⟨_, .dK q, by kernel_rfl⟩
  | tup q => exact ⟨_, .tup q, by kernel_rfl⟩
theorem ans_bool {K : Frag} {H : Hp} {x : V} (h : Knd H x) : ∃ t, TyOf K H x t ∧ kitOne K t (.type "bool") = some (match x with | .bl _ => true | _ => false) := by
  cases h with
  | kn h =>
    cases h with
    | non => exact ⟨_, .non, by kernel_rfl⟩
    | bl b => exact ⟨_, .bl b, by rfl⟩
    | int i => exact ⟨_, .int i, by kernel_rfl⟩
    | str x => exact ⟨_, .str x, by kernel_rfl⟩
    | lst q => exact ⟨_, .lst q, by kernel_rfl⟩
    | dK q => exact ⟨_, .dK q, by kernel_rfl⟩
  | tup q => exact ⟨_, .tup q, by kernel_rfl⟩
theorem ans_tupN {K : Frag} {H : Hp} {x : V} (h : Kn H x) : ∃ t, TyOf K H x t ∧ kitOne K t (.type "tuple") = some false := by
  cases h with
  | non => exact ⟨_, .non, by kernel_rfl⟩
  | bl b => exact ⟨_, .bl b, by kernel_rfl⟩
  | int i => exact ⟨_, .int i, by kernel_rfl⟩
  | str x => exact ⟨_, .str x, by kernel_rfl⟩
  | lst q => exact ⟨_, .lst q, by kernel_rfl⟩
  | dK q => exact ⟨_, .dK q, by kernel_rfl⟩
theorem ans_tupT {K : Frag} {H : Hp} {a : Addr} {xs : List V} (q : H a = some (.tup xs)) : ∃ t, TyOf K H (.ref a) t ∧ kitOne K t (.type "tuple") = some true := ⟨_, .tup q, by rfl⟩

/-- the built-in names that the text does not bind -/
structure Gb (mg : Str → Option Value) : Prop where
  isi : mg "isinstance" = none
  int : mg "int" = none
  bool : mg "bool" = none
  tuple : mg "tuple" = none
  len : mg "len" = none
  range : mg "range" = none
  list : mg "list" = none
  max : mg "max" = none
  sum : mg "sum" = none
  sorted : mg "sorted" = none
  any : mg "any" = none
  all : mg "all" = none
  enum : mg "enumerate" = none
  min : mg "min" = none

/-! ### the promises -/
def spWhole : Sp := fun vs H Q _ => ∃ x, vs = [x] ∧ Knd H x ∧ Q (.bl (wholeB x)) H
/-- a thing read as a stretch -/
inductive StrV (H : Hp) : V → Option (Int × Int) → Prop where
  | no {x : V} (h : Kn H x) : StrV H x none
  | len {a : Addr} {xs : List V} (e : H a = some (.tup xs)) (h : xs.length ≠ 2) : StrV H (.ref a) none
  | one {a : Addr} {x y : V} (e : H a = some (.tup [x, y])) (hx : Knd H x) (hy : Knd H y) (h : wholeB x = false ∨ wholeB y = false) : StrV H (.ref a) none
  | turned {a : Addr} {l h : Int} (e : H a = some (.tup [.int l, .int h])) (n : h ≤ l) : StrV H (.ref a) none
  | yes {a : Addr} {l h : Int} (e : H a = some (.tup [.int l, .int h])) (n : l < h) : StrV H (.ref a) (some (l, h))
def spStretch : Sp := fun vs H Q _ => ∃ x o, vs = [x] ∧ StrV H x o ∧ Q (.bl o.isSome) H

section
variable {P : Program} {w : World} {K : PySem.W.Frag} {mg : Str → Option Value} {base : Heap}
theorem boot_isi : bootBuiltins "isinstance" = some (.builtin "isinstance") := by decide +kernel
theorem boot_i : bootBuiltins "int" = some (.type "int") := by decide +kernel
theorem boot_b : bootBuiltins "bool" = some (.type "bool") := by decide +kernel
theorem boot_t : bootBuiltins "tuple" = some (.type "tuple") := by decide +kernel
theorem boot_l : bootBuiltins "list" = some (.type "list") := by decide +kernel
theorem boot_mx : bootBuiltins "max" = some (.builtin "max") := by decide +kernel
theorem boot_any : bootBuiltins "any" = some (.builtin "any") := by decide +kernel
theorem boot_all : bootBuiltins "all" = some (.builtin "all") := by decide +kernel
theorem boot_enum : bootBuiltins "enumerate" = some (.type "enumerate") := by decide +kernel
theorem boot_srt : bootBuiltins "sorted" = some (.builtin "sorted") := by decide +kernel

theorem scWhole : FnScope ["thing"] ["thing"] (defScope sWhole) := ⟨rfl, rfl, rfl, by decide +kernel, rfl, by decide +kernel, by decide +kernel⟩
theorem ok_whole {f : Addr} {fd : FuncData} (F : Fun K "is_whole" "is_whole" sWhole f fd) (G : Gb mg) : FnOk P w K mg base CX0 1 f fd ["thing"] spWhole := by
  refine F.ok scWhole (fun vs H Q E h => ?_) (fun cdv A outer s H vs Q E hr h => ?_)
  · obtain ⟨x, rfl, _⟩ := h
    rfl
  · obtain ⟨x, rfl, hx, q⟩ := h
    refine ⟨_, pss_one (ps_ret (pe_and (pe_callB call_isinst (by rfl) G.isi boot_isi (pa_cons (pv 0) (pa_cons (pe_bltn (v := .ty "int") (by rfl) G.int boot_i rfl) pa_nil)))
      (pe_one (pe_not (pe_callB call_isinst (by rfl) G.isi boot_isi (pa_cons (pv 0) (pa_cons (pe_bltn (v := .ty "bool") (by rfl) G.bool boot_b rfl) pa_nil))))))), ?_⟩
    obtain ⟨t, ty, e⟩ := ans_int (K := K) hx
    obtain ⟨t2, ty2, e2⟩ := ans_bool (K := K) hx
    refine ⟨_, rfl, _, _, _, _, rfl, .ty "int", .inl ⟨t, ty, e⟩, _, rfl, ?_⟩
    refine ite2 (fun hc => ?_) (fun hc => ?_)
    · refine ⟨_, rfl, _, _, _, _, rfl, .ty "bool", .inl ⟨t2, ty2, e2⟩, _, rfl, ?_⟩
      cases x <;> first | exact q | cases hc
    · cases x <;> first | exact q | exact absurd rfl hc

theorem scStretch : FnScope ["thing"] ["thing"] (defScope sStretch) := ⟨rfl, rfl, rfl, by decide +kernel, rfl, by decide +kernel, by decide +kernel⟩
theorem ok_stretch {f fW : Addr} {fd fdW : FuncData} (F : Fun K "is_stretch" "is_stretch" sStretch f fd) (G : Gb mg) (FW : Fun K "is_whole" "is_whole" sWhole fW fdW) (bW : Binds K fdW ["thing"] []) (mW : mg "is_whole" = some (.ref fW)) : FnOk P w K mg base CX0 2 f fd ["thing"] spStretch := by
  have GW : FnOk P w K mg base CX0 1 fW fdW ["thing"] spWhole := ok_whole FW G
  refine F.ok scStretch (fun vs H Q E h => ?_) (fun cdv A outer s H vs Q E hr h => ?_)
  · obtain ⟨x, o, rfl, _⟩ := h
    rfl
  · obtain ⟨x, o, rfl, hx, q⟩ := h
    refine ⟨_, pss_cons (ps_if (PW.pt (pw_or (pt_not (pt_val (pe_callB call_isinst (by rfl) G.isi boot_isi (pa_cons (pv 0) (pa_cons (pe_bltn (v := .ty "tuple") (by rfl) G.tuple boot_t rfl) pa_nil)))))
        (pw_or1 (pt_cmpR op_ne (pe_callB call_len_seq (by rfl) G.len PySem.boot_len (pa_cons (pv 0) pa_nil)) pe_int (nomark _))))) (pss_one (ps_ret pe_bl)) pss_nil)
      (pss_one (ps_ret (pe_and (pe_call GW hr rfl mW FW.kp bW .nil pass0 (pa_cons (pe_ix ix_tup (pv 0) pe_int (fun _ _ => rfl)) pa_nil))
        (pe_and (pe_call GW hr rfl mW FW.kp bW .nil pass0 (pa_cons (pe_ix ix_tup (pv 0) pe_int (fun _ _ => rfl)) pa_nil))
          (pe_one (pe_cmpR op_lt (pe_ix ix_tup (pv 0) pe_int (fun _ _ => rfl)) (pe_ix ix_tup (pv 0) pe_int (fun _ _ => rfl)) (nomark _))))))), ?_⟩
    -- a thing that is a tuple
    have tupA : ∀ {a : Addr} {xs : List V}, x = .ref a → H a = some (.tup xs) → (xs.length ≠ 2 → Q (.bl false) H) → (∀ u v, xs = [u, v] → Knd H u ∧ Knd H v ∧ (wholeB u = false → Q (.bl false) H) ∧ (wholeB v = false → Q (.bl false) H) ∧ ∀ l h, u = .int l → v = .int h → Q (.bl (decide (l < h))) H) →
      (tSeq (tIfS (tOr (tNot (tB (tCB (rIsi K) (tCons (tVar 0) (tCons (tC (.ty "tuple")) tNil))))) (tTest (tOp rNe (tCB (fun xs H Q => ∃ p ys, xs = [.ref p] ∧ (SqL K H p ys ∨ SqT K H p ys) ∧ Q (.int ys.length) H) (tCons (tVar 0) tNil)) (tC (.int 2))))) (tRet (tC (.bl false))) tNext)
        (tRet (tAndV (tCall spWhole [] E0 (tCons (tOp (rIxT K) (tVar 0) (tC (.int 0))) tNil)) (tAndV (tCall spWhole [] E0 (tCons (tOp (rIxT K) (tVar 0) (tC (.int 1))) tNil)) (tOp (rI0 fun i j => .bl (decide (i < j))) (tOp (rIxT K) (tVar 0) (tC (.int 0))) (tOp (rIxT K) (tVar 0) (tC (.int 1))))))))
        { nx := fun _ H' => Q .non H', rt := Q } (start ["thing"] [x]) H := fun {a xs} ex ea q1 q2 => by
      subst ex
      obtain ⟨t, ty, e⟩ := ans_tupT (K := K) ea
      refine ⟨_, rfl, _, _, _, _, rfl, .ty "tuple", .inl ⟨t, ty, e⟩, _, rfl, ?_⟩
      refine iteF ?_
      refine ⟨_, rfl, a, xs, rfl, .inr (SqT.of ea), rfl, _, rfl, ?_⟩
      refine ite2 (fun hc => ?_) (fun hc => ?_)
      · refine q1 fun z => ?_
        rw [z] at hc
        cases hc
      · have z : xs.length = 2 := by
          by_cases z : xs.length = 2
          · exact z
          · refine absurd ?_ hc
            have : decide (V.int (xs.length : Int) = V.int 2) = false := decide_eq_false fun w => z (by injection w with w; omega)
            rw [this]
            rfl
        obtain ⟨u, v, rfl⟩ := len2 z
        obtain ⟨ku, kv, qu, qv, ql⟩ := q2 u v rfl
        refine ⟨_, rfl, a, _, _, _, rfl, rfl, SqT.of ea, atI_nat (j := 0) rfl, _, rfl, ku, _, rfl, ?_⟩
        refine ite2 (fun hu => ?_) (fun hu => qu (by simpa using hu))
        refine ⟨_, rfl, a, _, _, _, rfl, rfl, SqT.of ea, atI_nat (j := 1) rfl, _, rfl, kv, _, rfl, ?_⟩
        refine ite2 (fun hv => ?_) (fun hv => qv (by simpa using hv))
        obtain ⟨l, rfl⟩ : ∃ l, u = .int l := by
          cases u <;> first | exact ⟨_, rfl⟩ | cases hu
        obtain ⟨h, rfl⟩ : ∃ h, v = .int h := by
          cases v <;> first | exact ⟨_, rfl⟩ | cases hv
        exact ⟨_, rfl, a, _, _, _, rfl, rfl, SqT.of ea, atI_nat (j := 0) rfl, _, rfl, a, _, _, _, rfl, rfl, SqT.of ea, atI_nat (j := 1) rfl, _, _, rfl, rfl, ql l h rfl rfl⟩
    cases hx with
    | no h =>
      obtain ⟨t, ty, e⟩ := ans_tupN (K := K) h
      refine ⟨_, rfl, _, _, _, _, rfl, .ty "tuple", .inl ⟨t, ty, e⟩, _, rfl, ?_⟩
      refine iteT ?_
      exact iteT q
    | len ea hl => exact tupA rfl ea (fun _ => q) fun u v z => absurd (by rw [z]; rfl) hl
    | one ea hu hv hw =>
      refine tupA rfl ea (fun z => absurd rfl z) fun u v z => ?_
      cases z
      refine ⟨hu, hv, fun _ => q, fun _ => q, fun l h z1 z2 => ?_⟩
      subst z1
      subst z2
      rcases hw with z | z <;> cases z
    | turned ea n =>
      refine tupA rfl ea (fun z => absurd rfl z) fun u v z => ?_
      cases z
      refine ⟨.kn (.int _), .kn (.int _), fun _ => q, fun _ => q, fun l h z1 z2 => ?_⟩
      cases z1
      cases z2
      rw [decide_eq_false (by omega)]
      exact q
    | yes ea n =>
      refine tupA rfl ea (fun z => absurd rfl z) fun u v z => ?_
      cases z
      refine ⟨.kn (.int _), .kn (.int _), fun z => (nomatch z), fun z => (nomatch z), fun l h z1 z2 => ?_⟩
      cases z1
      cases z2
      rw [decide_eq_true n]
      exact q
end
theorem paired_get {α β : Type} {F : α → β → Prop} : ∀ {xs : List α} {ys : List β} {i : Nat} {x : α}, Paired F xs ys → xs[i]? = some x → ∃ y, ys[i]? = some y ∧ F x y
  | _, _, _, _, .nil, e => by simp at e
  | _, _, 0, _, .cons r _, e => by
    simp at e
    subst e
    exact ⟨_, rfl, r⟩
  | _, _, i + 1, x, .cons _ t, e => by
    obtain ⟨u, h1, h2⟩ := paired_get (i := i) (x := x) t (by simpa using e)
    exact ⟨u, by simpa using h1, h2⟩

/-- what makes stretches a work -/
def WorkP (os : List (Option (Int × Int))) : Prop := (∀ (j : Nat) (o : Option (Int × Int)), os[j]? = some o → o.isSome = true) ∧ ∀ (k : Nat) (l h l' h' : Int), os[k]? = some (some (l, h)) → os[k + 1]? = some (some (l', h')) → h ≤ l'
inductive WorkV (H : Hp) : V → Bool → Prop where
  | no {x : V} (h : Kn H x) : WorkV H x false
  | tup {a : Addr} {xs : List V} {os : List (Option (Int × Int))} {b : Bool} (e : H a = some (.tup xs)) (hl : xs.length ≤ 1000) (h : Paired (StrV H) xs os) (hb : b = true ↔ WorkP os) : WorkV H (.ref a) b
def spWork : Sp := fun vs H Q _ => ∃ x b, vs = [x] ∧ WorkV H x b ∧ Q (.bl b) H

section
variable {P : Program} {w : World} {K : PySem.W.Frag} {mg : Str → Option Value} {base : Heap}
theorem scWork : FnScope ["thing", "stretch", "index"] ["thing"] (defScope sWork) := ⟨rfl, rfl, rfl, by decide +kernel, rfl, by decide +kernel, by decide +kernel⟩
theorem ok_work {f fS fW : Addr} {fd fdS fdW : FuncData} (F : Fun K "is_work" "is_work" sWork f fd) (G : Gb mg) (FW : Fun K "is_whole" "is_whole" sWhole fW fdW) (bW : Binds K fdW ["thing"] []) (mW : mg "is_whole" = some (.ref fW))
    (FS : Fun K "is_stretch" "is_stretch" sStretch fS fdS) (bS : Binds K fdS ["thing"] []) (mS : mg "is_stretch" = some (.ref fS)) : FnOk P w K mg base CX0 3 f fd ["thing"] spWork := by
  have GS : FnOk P w K mg base CX0 2 fS fdS ["thing"] spStretch := ok_stretch FS G FW bW mW
  refine F.ok scWork (fun vs H Q E h => ?_) (fun cdv A outer s H vs Q E hr h => ?_)
  · obtain ⟨x, b, rfl, _⟩ := h
    rfl
  · obtain ⟨x, b, rfl, hx, q⟩ := h
    refine ⟨_, pss_cons (ps_if (pt_not (pt_val (pe_callB call_isinst (by rfl) G.isi boot_isi (pa_cons (pv 0) (pa_cons (pe_bltn (v := .ty "tuple") (by rfl) G.tuple boot_t rfl) pa_nil))))) (pss_one (ps_ret pe_bl)) pss_nil)
      (pss_cons (ps_for PassesOwn.never rfl (pi_tup (pv 0)) (pg_name (i := 1) scWork.nd rfl (Or.inl rfl)) (pss_one (ps_if (pt_not (pt_val (pe_call GS hr rfl mS FS.kp bS .nil pass0 (pa_cons (pv 1) pa_nil)))) (pss_one (ps_ret pe_bl)) pss_nil)))
      (pss_cons (ps_for PassesOwn.never rfl (pi_range2 rfl G.range (pa_cons pe_int (pa_cons (pe_callB call_len_seq (by rfl) G.len PySem.boot_len (pa_cons (pv 0) pa_nil)) pa_nil))) (pg_name (i := 2) scWork.nd rfl (Or.inl rfl))
        (pss_one (ps_if (pt_cmpR op_lt (pe_ix ix_tup (pe_ix ix_tup (pv 0) (pv 2) (fun _ _ => rfl)) pe_int (fun _ _ => rfl)) (pe_ix ix_tup (pe_ix ix_tup (pv 0) (pe_op op_sub (pv 2) pe_int) (fun _ _ => rfl)) pe_int (fun _ _ => rfl)) (nomark _)) (pss_one (ps_ret pe_bl)) pss_nil)))
      (pss_one (ps_ret pe_bl)))), ?_⟩
    cases hx with
    | no h =>
      obtain ⟨t, ty, e⟩ := ans_tupN (K := K) h
      refine ⟨_, rfl, _, _, _, _, rfl, .ty "tuple", .inl ⟨t, ty, e⟩, _, rfl, ?_⟩
      exact iteT q
    | @tup a xs os b ea hl hp hb =>
      obtain ⟨t, ty, e⟩ := ans_tupT (K := K) ea
      refine ⟨_, rfl, _, _, _, _, rfl, .ty "tuple", .inl ⟨t, ty, e⟩, _, rfl, ?_⟩
      refine iteF ?_
      refine ⟨_, rfl, a, rfl, ⟨_, SqT.of ea⟩, for_tup (K := K) (a := a) (xs := xs) (fun i σ H2 => H2 = H ∧ (∃ v, σ = [some (.ref a), v, none]) ∧ ∀ (j : Nat) (o : Option (Int × Int)), j < i → os[j]? = some o → o.isSome = true)
        ⟨rfl, ⟨none, rfl⟩, fun j o hj => absurd hj (Nat.not_lt_zero _)⟩ (fun i σ H2 _ ⟨e2, _⟩ => by subst e2; exact SqT.of ea) ?_ ?_⟩
      · rintro i y σ H2 hi ⟨rfl, ⟨v, rfl⟩, hall⟩
        obtain ⟨o, ho, hs⟩ := paired_get hp hi
        refine ⟨_, rfl, y, o, rfl, hs, _, rfl, ?_⟩
        cases o with
        | none =>
          refine iteT ?_
          have : b = false := by
            cases b with
            | false => rfl
            | true => exact absurd ((hb.mp rfl).1 i none ho) (by simp)
          rw [this] at q
          exact q
        | some p =>
          refine iteF ?_
          refine ⟨rfl, ⟨_, rfl⟩, fun j o' hj hj' => ?_⟩
          by_cases hji : j < i
          · exact hall j o' hji hj'
          · have : j = i := by omega
            subst this
            rw [ho] at hj'
            cases hj'
            rfl
      · rintro σ H2 ⟨rfl, ⟨v, rfl⟩, hall⟩
        have len : os.length = xs.length := hp.length.symm
        have at_ : ∀ (k : Nat), k < xs.length → ∃ (c : Addr) (l h : Int), xs[k]? = some (.ref c) ∧ H2 c = some (.tup [.int l, .int h]) ∧ os[k]? = some (some (l, h)) := fun k hk => by
          have e1 : xs[k]? = some xs[k] := List.getElem?_eq_getElem hk
          obtain ⟨o, ho, hs⟩ := paired_get hp e1
          have hso := hall k o hk ho
          cases o with
          | none => cases hso
          | some p =>
            generalize xs[k] = y at e1 hs
            cases hs with
            | @yes c l h ec n => exact ⟨c, l, h, e1, ec, ho⟩
        have hz : xs.length < 2 ^ 62 := Nat.lt_of_le_of_lt hl (by decide)
        refine ⟨_, rfl, a, xs, rfl, .inr (SqT.of ea), 1, (xs.length : Int), rfl, ⟨by decide, by decide, by omega, by omega⟩, for_range (lo := 1) (n := ((xs.length : Int) - 1).toNat)
          (fun i σ H3 => H3 = H2 ∧ (∃ v u, σ = [some (.ref a), v, u]) ∧ ∀ (k : Nat) (l h l' h' : Int), k < i → os[k]? = some (some (l, h)) → os[k + 1]? = some (some (l', h')) → h ≤ l') ⟨rfl, ⟨_, _, rfl⟩, fun k l h l' h' hk => absurd hk (Nat.not_lt_zero _)⟩ ?_ ?_⟩
        · rintro i σ H3 hi ⟨rfl, ⟨v, u, rfl⟩, hr2⟩
          obtain ⟨c, l, h, x1, x2, x3⟩ := at_ i (by omega)
          obtain ⟨c', l', h', y1, y2, y3⟩ := at_ (i + 1) (by omega)
          have i1 : (1 : Int) + (i : Int) = ((i + 1 : Nat) : Int) := by omega
          have i2 : ((i + 1 : Nat) : Int) - 1 = ((i : Nat) : Int) := by omega
          rw [i1]
          refine ⟨_, rfl, _, rfl, a, xs, _, _, rfl, rfl, SqT.of ea, atI_nat y1, c', _, _, _, rfl, rfl, SqT.of y2, atI_nat (j := 0) rfl, _, rfl, _, rfl, _, _, rfl, rfl, a, xs, _, _, rfl, rfl, SqT.of ea, (by rw [i2]; exact atI_nat x1), c, _, _, _, rfl, rfl, SqT.of x2, atI_nat (j := 1) rfl, _, _, rfl, rfl, _, rfl, ?_⟩
          refine ite2 (fun hc => ?_) (fun hc => ?_)
          · have hc' : l' < h := by simpa using hc
            have : b = false := by
              cases b with
              | false => rfl
              | true =>
                have := (hb.mp rfl).2 i l h l' h' x3 y3
                omega
            rw [this] at q
            exact q
          · have hc' : ¬ l' < h := by simpa using hc
            refine ⟨rfl, ⟨_, _, rfl⟩, fun k l2 h2 l3 h3 hk e1 e2 => ?_⟩
            by_cases hki : k < i
            · exact hr2 k l2 h2 l3 h3 hki e1 e2
            · have : k = i := by omega
              subst this
              rw [x3] at e1
              rw [y3] at e2
              cases e1
              cases e2
              omega
        · rintro σ H3 ⟨rfl, ⟨v, u, rfl⟩, hr2⟩
          have : b = true := hb.mpr ⟨fun j o hj => hall j o (by rw [← len]; exact (List.getElem?_eq_some_iff.mp hj).1) hj, fun k l h l' h' e1 e2 => hr2 k l h l' h' (by
            have := (List.getElem?_eq_some_iff.mp e2).1
            omega) e1 e2⟩
          rw [this] at q
          exact q

/-! ### the works of the law -/
def PairAt (H : Hp) (v : V) (p : Int × Int) : Prop := ∃ b, v = .ref b ∧ H b = some (.tup [.int p.1, .int p.2])
theorem paired_map {α β : Type} {F G : α → β → Prop} (f : ∀ a b, F a b → G a b) : ∀ {xs : List α} {ys : List β}, Paired F xs ys → Paired G xs ys
  | _, _, .nil => .nil
  | _, _, .cons r t => .cons (f _ _ r) (paired_map f t)
theorem paired_snoc {α β : Type} {F : α → β → Prop} {x : α} {y : β} : ∀ {xs : List α} {ys : List β}, Paired F xs ys → F x y → Paired F (xs ++ [x]) (ys ++ [y])
  | _, _, .nil, h => .cons h .nil
  | _, _, .cons r t, h => .cons r (paired_snoc t h)
def PairsAt (H : Hp) (xs : List V) (ps : Lm.Ps) : Prop := Paired (PairAt H) xs ps
theorem PairsAt.same {H H' : Hp} {xs : List V} {ps : Lm.Ps} (e : Same H H') (h : PairsAt H xs ps) : PairsAt H' xs ps := paired_map (fun v q ⟨b, z1, z2⟩ => ⟨b, z1, e _ _ z2⟩) h
def WorkM (H : Hp) (p : Addr) (ps : Lm.Ps) : Prop := ∃ xs, H p = some (.tup xs) ∧ PairsAt H xs ps
theorem WorkM.same {H H' : Hp} {p : Addr} {ps : Lm.Ps} (e : Same H H') (h : WorkM H p ps) : WorkM H' p ps := by
  obtain ⟨xs, h1, h2⟩ := h
  exact ⟨xs, e _ _ h1, h2.same e⟩
theorem pairs_str {H : Hp} : ∀ {xs : List V} {ps : Lm.Ps}, PairsAt H xs ps → (∀ q ∈ ps, q.1 < q.2) → Paired (StrV H) xs (ps.map some)
  | _, _, .nil, _ => .nil
  | _, q :: ps, .cons ⟨b, e1, e2⟩ t, h => by
    subst e1
    exact .cons (.yes e2 (h q (List.mem_cons_self ..))) (pairs_str t fun r hr => h r (List.mem_cons_of_mem _ hr))
theorem wk_next : ∀ {ps : Lm.Ps}, Lm.Wk ps → ∀ (k : Nat) (l h l' h' : Int), ps[k]? = some (l, h) → ps[k + 1]? = some (l', h') → h ≤ l'
  | p :: t, ⟨h1, h2, h3⟩, 0, l, h, l', h', e1, e2 => by
    cases e1
    exact h2 _ (List.mem_of_getElem? (i := 0) (by simpa using e2))
  | p :: t, ⟨h1, h2, h3⟩, k + 1, l, h, l', h', e1, e2 => wk_next h3 k l h l' h' (by simpa using e1) (by simpa using e2)
theorem WorkM.workV {H : Hp} {p : Addr} {ps : Lm.Ps} (h : WorkM H p ps) (wk : Lm.Wk ps) (hl : ps.length ≤ 1000) : WorkV H (.ref p) true := by
  obtain ⟨xs, h1, h2⟩ := h
  refine .tup h1 (by rw [h2.length]; exact hl) (pairs_str h2 wk.lt) ⟨fun _ => ⟨fun j o e => ?_, fun k l h l' h' e1 e2 => ?_⟩, fun _ => rfl⟩
  · rw [List.getElem?_map] at e
    cases z : ps[j]? with
    | none => rw [z] at e; cases e
    | some q => rw [z] at e; cases e; rfl
  · rw [List.getElem?_map] at e1 e2
    cases z1 : ps[k]? with
    | none => rw [z1] at e1; cases e1
    | some q1 =>
      cases z2 : ps[k + 1]? with
      | none => rw [z2] at e2; cases e2
      | some q2 =>
        rw [z1] at e1
        rw [z2] at e2
        cases e1
        cases e2
        exact wk_next wk k l h l' h' z1 z2
def spCheck : Sp := fun vs H Q _ => ∃ (p : Addr) (ps : Lm.Ps), vs = [.ref p] ∧ WorkM H p ps ∧ Lm.Wk ps ∧ ps.length ≤ 1000 ∧ Q .non H
theorem scCheck : FnScope ["work"] ["work"] (defScope sCheck) := ⟨rfl, rfl, rfl, by decide +kernel, rfl, by decide +kernel, by decide +kernel⟩
theorem ok_check {f fK : Addr} {fd fdK : FuncData} (F : Fun K "check_work" "check_work" sCheck f fd) (GK : FnOk P w K mg base CX0 3 fK fdK ["thing"] spWork) (kp : keepIn K (.ref fK) = true) (bK : Binds K fdK ["thing"] []) (mK : mg "is_work" = some (.ref fK)) :
    FnOk P w K mg base CX0 4 f fd ["work"] spCheck := by
  refine F.ok scCheck (fun vs H Q E h => ?_) (fun cdv A outer s H vs Q E hr h => ?_)
  · obtain ⟨p, ps, rfl, _⟩ := h
    rfl
  · obtain ⟨p, ps, rfl, hw, wk, hl, q⟩ := h
    refine ⟨_, pss_one (ps_if (pt_not (pt_val (pe_call GK hr rfl mK kp bK .nil pass0 (pa_cons (pv 0) pa_nil)))) (pss_one ps_never) pss_nil), ?_⟩
    exact ⟨_, rfl, _, true, rfl, hw.workV wk hl, _, rfl, iteF q⟩
end
end Ls

set_option maxHeartbeats 4000000
namespace Ls
open PySem L2 PySem.W

def spMerged (K : Frag) : Sp := fun vs H Q _ => ∃ (p : Addr) (xs : List V) (ps : Lm.Ps), vs = [.ref p] ∧ (SqL K H p xs ∨ H p = some (.tup xs)) ∧ PairsAt H xs ps ∧ ps.length ≤ 1000 ∧ ∀ r H', Same H H' → WorkM H' r (Lm.merged ps) → Q (.ref r) H'
def spShort : Sp := fun vs H Q _ => ∃ (p : Addr) (ps : Lm.Ps), vs = [.ref p] ∧ WorkM H p ps ∧ Lm.Wk ps ∧ ps.length ≤ 1000 ∧ ∀ r H', Same H H' → WorkM H' r (Lm.merged ps) → Q (.ref r) H'
theorem paired_last {α β : Type} {F : α → β → Prop} : ∀ {xs : List α} {ys : List β} {y : β}, Paired F xs (ys ++ [y]) → ∃ us u, xs = us ++ [u] ∧ Paired F us ys ∧ F u y
  | _, [], y, .cons r .nil => ⟨[], _, rfl, .nil, r⟩
  | x :: xs, b :: ys, y, .cons r t => by
    obtain ⟨us, u, e, p, f⟩ := paired_last (ys := ys) t
    exact ⟨x :: us, u, by rw [e]; rfl, .cons r p, f⟩
theorem set_last {α : Type} (us : List α) (u v : α) : (us ++ [u]).set us.length v = us ++ [v] := by
  induction us with
  | nil => rfl
  | cons a us ih =>
    show a :: (us ++ [u]).set us.length v = a :: (us ++ [v])
    rw [ih]
theorem ixN_last {n : Nat} : ixN (n + 1) (-1) = some n := by
  unfold ixN
  rw [if_neg (by decide), if_pos (by omega)]
  congr 1
  omega
/-- what is found ahead of the rest -/
def Found (qs ps : Lm.Ps) (i : Nat) : Prop := (qs = [] ∧ i = 0) ∨ ∃ done c, qs = done ++ [c] ∧ done ++ Lm.mg c (ps.drop i) = Lm.merged ps
theorem for_seq {K : PySem.W.Frag} {a : Addr} {xs : List V} {g : TG} {tb : TS} {D : Ends} {σ : St} {H : Hp} (Pv : Nat → St → Hp → Prop) (h0 : Pv 0 σ H)
    (hk : (∀ i σ H, i ≤ xs.length → Pv i σ H → SqL K H a xs) ∨ (∀ i σ H, i ≤ xs.length → Pv i σ H → SqT K H a xs))
    (hs : ∀ i x σ H, xs[i]? = some x → Pv i σ H → g x σ H fun σ2 H2 => tb { D with nx := Pv (i + 1), ct := Pv (i + 1), bk := D.nx } σ2 H2) (hd : ∀ σ H, Pv xs.length σ H → D.nx σ H) :
    ((∃ xs, SqL K H a xs) ∧ ∃ W : Nat → Nat → St → Hp → Prop, (∃ m, W 0 m σ H) ∧ ∀ i m σ H, W i m σ H →
      ((Itl K a).stop i H ∧ D.nx σ H) ∨ ((Itl K a).go i H ∧ ∃ N : St → Hp → Prop, (∀ σ' H', N σ' H' → ∃ m', m' < m ∧ W (i + 1) m' σ' H') ∧ ∀ x H', (Itl K a).yld i H x H' → g x σ H' fun σ2 H2 => tb { D with nx := N, ct := N, bk := D.nx } σ2 H2)) ∨
    ((∃ xs, SqT K H a xs) ∧ ∃ W : Nat → Nat → St → Hp → Prop, (∃ m, W 0 m σ H) ∧ ∀ i m σ H, W i m σ H →
      ((Itt K a).stop i H ∧ D.nx σ H) ∨ ((Itt K a).go i H ∧ ∃ N : St → Hp → Prop, (∀ σ' H', N σ' H' → ∃ m', m' < m ∧ W (i + 1) m' σ' H') ∧ ∀ x H', (Itt K a).yld i H x H' → g x σ H' fun σ2 H2 => tb { D with nx := N, ct := N, bk := D.nx } σ2 H2)) :=
  hk.elim (fun k => .inl ⟨⟨xs, k 0 σ H (Nat.zero_le _) h0⟩, for_list Pv h0 k hs hd⟩) fun k => .inr ⟨⟨xs, k 0 σ H (Nat.zero_le _) h0⟩, for_tup Pv h0 k hs hd⟩
section
variable {P : Program} {w : World} {K : PySem.W.Frag} {mg : Str → Option Value} {base : Heap}
theorem scMerged : FnScope ["stretches", "whole", "low", "high"] ["stretches"] (defScope sMerged) := ⟨rfl, rfl, rfl, by decide +kernel, rfl, by decide +kernel, by decide +kernel⟩
theorem ok_merged {f : Addr} {fd : FuncData} (F : Fun K "merged" "merged" sMerged f fd) (G : Gb mg) : FnOk P w K mg base CX0 1 f fd ["stretches"] (spMerged K) := by
  refine F.ok scMerged (fun vs H Q E h => ?_) (fun cdv A outer s H vs Q E hr h => ?_)
  · obtain ⟨p, xs, ps, rfl, _⟩ := h
    rfl
  · obtain ⟨p, xs, ps, rfl, hp, pr, hl, q⟩ := h
    refine ⟨_, (pss_cons (ps_set (i := 1) scMerged.nd rfl (Or.inl rfl) (pe_lst pa_nil)) (pss_cons (ps_for PassesOwn.never rfl (pi_seq (pv 0)) (pg_tup rfl (pgs_cons (pg_name (i := 2) scMerged.nd rfl (Or.inl rfl)) (pgs_cons (pg_name (i := 3) scMerged.nd rfl (Or.inl rfl)) pgs_nil))) (pss_one (ps_if (PW.pt (pw_and (pt_truth (pv 1) (fun _ => rfl)) (pw_and1 (pt_cmpR op_le (pv 2) (pe_ix ix_tup (pe_ix ix_list (pv 1) (pe_un un_neg pe_int) (fun _ _ => rfl)) pe_int (fun _ _ => rfl)) (nomark _))))) (pss_one (ps_asg (pe_tup (pa_cons (pe_ix ix_tup (pe_ix ix_list (pv 1) (pe_un un_neg pe_int) (fun _ _ => rfl)) pe_int (fun _ _ => rfl)) (pa_cons (pe_callB (call_max2 rfl) (by rfl) G.max boot_mx (pa_cons (pe_ix ix_tup (pe_ix ix_list (pv 1) (pe_un un_neg pe_int) (fun _ _ => rfl)) pe_int (fun _ _ => rfl)) (pa_cons (pv 3) pa_nil))) pa_nil))) (pg_sub (pv 1) (pe_un un_neg pe_int) set_list))) (pss_one (ps_expr (pe_bm PySem.F.plainAttrs_list PySem.F.slot_list_append PySem.F.type_list_append mt_append (pv 1) (pa_cons (pe_tup (pa_cons (pv 2) (pa_cons (pv 3) pa_nil))) pa_nil))))))) (pss_one (ps_ret (pe_callTy call_tuple_of (by rfl) G.tuple boot_t (pa_cons (pv 1) pa_nil)))))), ?_⟩
    have sl : sizeLine = 16777216 := sizeLine_eq
    have lx : xs.length = ps.length := pr.length
    refine ⟨Nat.zero_le _, fun l hn => ?_⟩
    have hk : (∀ {H2 : Hp}, Same H H2 → SqL K H2 p xs) ∨ (∀ {H2 : Hp}, Same H H2 → SqT K H2 p xs) := hp.elim (fun z => .inl fun e => e.seq z) fun z => .inr fun e => SqT.of (e _ _ z)
    refine ⟨_, rfl, p, rfl, for_seq (K := K) (a := p) (xs := xs) (fun i σ H2 => Same H H2 ∧ ∃ ws qs u v, H2 l = some (.lst ws) ∧ PairsAt H2 ws qs ∧ Found qs ps i ∧ qs.length ≤ i ∧ σ = [some (.ref p), some (.ref l), u, v])
      ⟨same_upd hn, [], [], _, _, upd_same, .nil, .inl ⟨rfl, rfl⟩, Nat.le_refl _, rfl⟩ (hk.elim (fun z => .inl fun i σ H2 _ ⟨e, _⟩ => z e) fun z => .inr fun i σ H2 _ ⟨e, _⟩ => z e) ?_ ?_⟩
    · rintro i x σ H2 hi ⟨sm, ws, qs, u, v, hL, pq, fo, ql, rfl⟩
      obtain ⟨y, hy, b', rfl, hb'⟩ := paired_get pr hi
      have il : i < xs.length := (List.getElem?_eq_some_iff.mp hi).1
      have dr : ps.drop i = y :: ps.drop (i + 1) := by
        rw [List.drop_eq_getElem_cons (by omega)]
        congr 1
        exact Option.some.inj ((List.getElem?_eq_getElem (by omega)).symm.trans hy)
      have wl : ws.length = qs.length := pq.length
      refine ⟨b', _, rfl, SqT.of (sm _ _ hb'), rfl, _, _, rfl, _, _, rfl, rfl, ?_⟩
      have put : ∀ H3 (o : HO), Same H2 H3 → Same H (upd H3 l o) := fun H3 o e b z hz => by
        rw [upd_ne (ne_of_none hz hn)]
        exact e _ _ (sm _ _ hz)
      have keep : ∀ {H3 : Hp} {o : HO} {us : List V} {rs : Lm.Ps}, Same H2 H3 → PairsAt H2 us rs → PairsAt (upd H3 l o) us rs := fun {H3 o us rs} e h => paired_map (fun v q ⟨b, z1, z2⟩ => ⟨b, z1, by
        rw [upd_ne (ne_of z2 hL (by intro z; cases z))]
        exact e _ _ z2⟩) h
      have app : Found (qs ++ [y]) ps (i + 1) → ∀ D : Ends, (∀ H3 ws qs, Same H H3 → H3 l = some (.lst ws) → PairsAt H3 ws qs → Found qs ps (i + 1) → qs.length ≤ i + 1 → D.nx [some (.ref p), some (.ref l), some (.int y.1), some (.int y.2)] H3) →
          (tDrop (tBM K "list" rAppend (tVar 1) (tCons (tTup (tCons (tVar 2) (tCons (tVar 3) tNil))) tNil))) D [some (.ref p), some (.ref l), some (.int y.1), some (.int y.2)] H2 := fun fo D hN => by
        refine ⟨_, rfl, .inl ⟨rfl, _, SqL.of hL⟩, _, rfl, _, rfl, by show 2 ≤ sizeLine; decide, fun t ht => ?_⟩
        have nt : l ≠ t := ne_of_none hL ht
        refine ⟨l, _, _, rfl, rfl, by rw [upd_ne nt]; exact hL, by omega, ?_⟩
        refine hN _ _ (qs ++ [y]) (put _ _ (same_upd ht)) upd_same (paired_snoc (keep (same_upd ht) pq) ⟨t, rfl, ?_⟩) fo (by rw [List.length_append]; show qs.length + 1 ≤ i + 1; omega)
        rw [upd_ne nt.symm]
        exact upd_same
      refine ⟨_, rfl, _, .inl ⟨ws, SqL.of hL, rfl⟩, ?_⟩
      rcases fo with ⟨rfl, rfl⟩ | ⟨done, c, rfl, fo⟩
      · cases pq
        refine iteF ?_
        exact app (.inr ⟨[], y, rfl, by rw [List.nil_append]; cases ps with | nil => cases hy | cons a ps => (cases hy; rfl)⟩) _ fun H3 ws qs e1 e2 e3 e4 e5 => ⟨e1, ws, qs, _, _, e2, e3, e4, e5, rfl⟩
      · obtain ⟨us, u', rfl, pu, cb, rfl, hcb⟩ := paired_last pq
        have ne : (!(us ++ [V.ref cb]).isEmpty) = true := by
          cases us <;> rfl
        rw [ne]
        refine iteT ?_
        rw [dr] at fo
        refine ⟨_, rfl, _, rfl, _, rfl, l, _, _, _, rfl, rfl, SqL.of hL, atI_last _ _, cb, _, _, _, rfl, rfl, SqT.of hcb, atI_nat (j := 1) rfl, _, _, rfl, rfl, _, rfl, ?_⟩
        refine ite2 (fun hc => ?_) (fun hc => ?_)
        · have hc' : y.1 ≤ c.2 := of_decide_eq_true hc
          have fo2 : done ++ Lm.mg (c.1, if y.2 > c.2 then y.2 else c.2) (ps.drop (i + 1)) = Lm.merged ps := by
            rw [← fo]
            congr 1
            show _ = (if y.1 ≤ c.2 then _ else _)
            rw [if_pos hc']
          refine ⟨_, rfl, _, rfl, l, _, _, _, rfl, rfl, SqL.of hL, atI_last _ _, cb, _, _, _, rfl, rfl, SqT.of hcb, atI_nat (j := 0) rfl, ?_⟩
          refine ⟨_, rfl, _, rfl, l, _, _, _, rfl, rfl, SqL.of hL, atI_last _ _, cb, _, _, _, rfl, rfl, SqT.of hcb, atI_nat (j := 1) rfl, _, rfl, _, _, rfl, by show 2 ≤ sizeLine; decide, fun t ht => ?_⟩
          have nt : l ≠ t := ne_of_none hL ht
          refine ⟨_, rfl, _, rfl, l, _, _, us.length, rfl, rfl, by rw [upd_ne nt]; exact hL, by rw [List.length_append]; exact ixN_last, ?_⟩
          refine ⟨put _ _ (same_upd ht), us ++ [.ref t], done ++ [(c.1, if y.2 > c.2 then y.2 else c.2)], _, _, ?_, ?_, .inr ⟨done, _, rfl, fo2⟩, ?_, rfl⟩
          · rw [set_last]
            exact upd_same
          · refine paired_snoc (keep (same_upd ht) pu) ⟨t, rfl, ?_⟩
            rw [upd_ne nt.symm]
            exact upd_same
          · rw [List.length_append] at ql ⊢
            show done.length + 1 ≤ i + 1
            have : done.length + 1 ≤ i := ql
            omega
        · have hc' : ¬ y.1 ≤ c.2 := fun z => hc (decide_eq_true z)
          refine app (.inr ⟨done ++ [c], y, rfl, ?_⟩) _ fun H3 ws qs e1 e2 e3 e4 e5 => ⟨e1, ws, qs, _, _, e2, e3, e4, e5, rfl⟩
          rw [← fo, List.append_assoc]
          congr 1
          show _ = (if y.1 ≤ c.2 then _ else _)
          rw [if_neg hc']
          rfl
    · rintro σ H2 ⟨sm, ws, qs, u, v, hL, pq, fo, ql, rfl⟩
      have eq : qs = Lm.merged ps := by
        have dn : ps.drop xs.length = [] := List.drop_of_length_le (by omega)
        rcases fo with ⟨rfl, h0⟩ | ⟨done, c, rfl, fo⟩
        · cases ps with
          | nil => rfl
          | cons a t => rw [lx] at h0; cases h0
        · rw [← fo, dn]
          rfl
      subst eq
      refine ⟨_, rfl, l, _, rfl, .inl ⟨SqL.of hL, fun r hr' => ?_⟩⟩
      exact q r _ (sm.trans (same_upd hr')) ⟨ws, upd_same, pq.same (same_upd hr')⟩
theorem scShort : FnScope ["work"] ["work"] (defScope sShort) := ⟨rfl, rfl, rfl, by decide +kernel, rfl, by decide +kernel, by decide +kernel⟩
theorem ok_short {f fC fM : Addr} {fd fdC fdM : FuncData} (F : Fun K "short_form" "short_form" sShort f fd) (GC : FnOk P w K mg base CX0 4 fC fdC ["work"] spCheck) (kC : keepIn K (.ref fC) = true) (bC : Binds K fdC ["work"] []) (mC : mg "check_work" = some (.ref fC))
    (GM : FnOk P w K mg base CX0 4 fM fdM ["stretches"] (spMerged K)) (kM : keepIn K (.ref fM) = true) (bM : Binds K fdM ["stretches"] []) (mM : mg "merged" = some (.ref fM)) : FnOk P w K mg base CX0 5 f fd ["work"] spShort := by
  refine F.ok scShort (fun vs H Q E h => ?_) (fun cdv A outer s H vs Q E hr h => ?_)
  · obtain ⟨p, ps, rfl, _⟩ := h
    rfl
  · obtain ⟨p, ps, rfl, hw, wk, hl, q⟩ := h
    refine ⟨_, pss_cons (ps_expr (pe_call GC hr rfl mC kC bC .nil pass0 (pa_cons (pv 0) pa_nil))) (pss_one (ps_ret (pe_call GM hr rfl mM kM bM .nil pass0 (pa_cons (pv 0) pa_nil)))), ?_⟩
    obtain ⟨xs, h1, h2⟩ := id hw
    exact ⟨_, rfl, p, ps, rfl, hw, wk, hl, _, rfl, p, xs, ps, rfl, .inr h1, h2, hl, q⟩
end
end Ls

set_option maxHeartbeats 4000000
namespace Ls
open PySem L2 PySem.W

def spWithout : Sp := fun vs H Q _ => ∃ (p q : Addr) (a b : Lm.Ps), vs = [.ref p, .ref q] ∧ WorkM H p a ∧ WorkM H q b ∧ Lm.Wk a ∧ Lm.Wk b ∧ a.length ≤ 1000 ∧ b.length ≤ 1000 ∧ ∀ r H', Same H H' → WorkM H' r (Lm.wo (Lm.merged a) (Lm.merged b)) → Q (.ref r) H'
theorem pair_ref {H : Hp} {xs : List V} {ps : Lm.Ps} (h : PairsAt H xs ps) {i : Nat} (hi : i < ps.length) : ∃ b, xs[i]? = some (.ref b) ∧ H b = some (.tup [.int ps[i].1, .int ps[i].2]) := by
  have hx : i < xs.length := by rw [h.length]; exact hi
  obtain ⟨y, hy, b, e1, e2⟩ := paired_get h (List.getElem?_eq_getElem hx)
  have : y = ps[i] := Option.some.inj (hy.symm.trans (List.getElem?_eq_getElem hi))
  subst this
  exact ⟨b, by rw [List.getElem?_eq_getElem hx, e1], e2⟩
section
variable {P : Program} {w : World} {K : PySem.W.Frag} {mg : Str → Option Value} {base : Heap}
theorem scWithout : FnScope ["one", "other", "kept", "gone", "rest", "first", "low", "high", "at", "index"] ["one", "other"] (defScope sWithout) := ⟨rfl, rfl, rfl, by decide +kernel, rfl, by decide +kernel, by decide +kernel⟩
theorem ok_without {f fS : Addr} {fd fdS : FuncData} (F : Fun K "without" "without" sWithout f fd) (G : Gb mg) (GS : FnOk P w K mg base CX0 5 fS fdS ["work"] spShort) (kS : keepIn K (.ref fS) = true) (bS : Binds K fdS ["work"] []) (mS : mg "short_form" = some (.ref fS)) :
    FnOk P w K mg base CX0 6 f fd ["one", "other"] spWithout := by
  refine F.ok scWithout (fun vs H Q E h => ?_) (fun cdv A outer s H vs Q E hr h => ?_)
  · obtain ⟨p, q, a, b, rfl, _⟩ := h
    rfl
  · obtain ⟨p, q, a, b, rfl, ha, hb, wa, wb, la, lb, fin⟩ := h
    refine ⟨_, (pss_cons (ps_set (i := 2) scWithout.nd rfl (Or.inl rfl) (pe_call GS hr rfl mS kS bS .nil pass0 (pa_cons (pv 0) pa_nil))) (pss_cons (ps_set (i := 3) scWithout.nd rfl (Or.inl rfl) (pe_call GS hr rfl mS kS bS .nil pass0 (pa_cons (pv 1) pa_nil))) (pss_cons (ps_set (i := 4) scWithout.nd rfl (Or.inl rfl) (pe_lst pa_nil)) (pss_cons (ps_set (i := 5) scWithout.nd rfl (Or.inl rfl) pe_int) (pss_cons (ps_for PassesOwn.never rfl (pi_tup (pv 2)) (pg_tup rfl (pgs_cons (pg_name (i := 6) scWithout.nd rfl (Or.inl rfl)) (pgs_cons (pg_name (i := 7) scWithout.nd rfl (Or.inl rfl)) pgs_nil))) (pss_cons (ps_while PassesOwn.never (PW.pt (pw_and (pt_cmpR op_lt (pv 5) (pe_callB call_len_seq (by rfl) G.len PySem.boot_len (pa_cons (pv 3) pa_nil)) (nomark _)) (pw_and1 (pt_cmpR op_le (pe_ix ix_tup (pe_ix ix_tup (pv 3) (pv 5) (fun _ _ => rfl)) pe_int (fun _ _ => rfl)) (pv 6) (nomark _))))) (pss_one (ps_aug (i := 5) scWithout.nd rfl (Or.inl rfl) pe_int ip_add))) (pss_cons (ps_set (i := 8) scWithout.nd rfl (Or.inl rfl) (pv 6)) (pss_cons (ps_set (i := 9) scWithout.nd rfl (Or.inl rfl) (pv 5)) (pss_cons (ps_while PassesOwn.never (PW.pt (pw_and (pt_cmpR op_lt (pv 9) (pe_callB call_len_seq (by rfl) G.len PySem.boot_len (pa_cons (pv 3) pa_nil)) (nomark _)) (pw_and1 (pt_cmpR op_lt (pe_ix ix_tup (pe_ix ix_tup (pv 3) (pv 9) (fun _ _ => rfl)) pe_int (fun _ _ => rfl)) (pv 7) (nomark _))))) (pss_cons (ps_if (pt_cmpR op_lt (pv 8) (pe_ix ix_tup (pe_ix ix_tup (pv 3) (pv 9) (fun _ _ => rfl)) pe_int (fun _ _ => rfl)) (nomark _)) (pss_one (ps_expr (pe_bm PySem.F.plainAttrs_list PySem.F.slot_list_append PySem.F.type_list_append mt_append (pv 4) (pa_cons (pe_tup (pa_cons (pv 8) (pa_cons (pe_ix ix_tup (pe_ix ix_tup (pv 3) (pv 9) (fun _ _ => rfl)) pe_int (fun _ _ => rfl)) pa_nil))) pa_nil)))) pss_nil) (pss_cons (ps_set (i := 8) scWithout.nd rfl (Or.inl rfl) (pe_ix ix_tup (pe_ix ix_tup (pv 3) (pv 9) (fun _ _ => rfl)) pe_int (fun _ _ => rfl))) (pss_one (ps_aug (i := 9) scWithout.nd rfl (Or.inl rfl) pe_int ip_add))))) (pss_one (ps_if (pt_cmpR op_lt (pv 8) (pv 7) (nomark _)) (pss_one (ps_expr (pe_bm PySem.F.plainAttrs_list PySem.F.slot_list_append PySem.F.type_list_append mt_append (pv 4) (pa_cons (pe_tup (pa_cons (pv 8) (pa_cons (pv 7) pa_nil))) pa_nil)))) pss_nil))))))) (pss_one (ps_ret (pe_callTy call_tuple_of (by rfl) G.tuple boot_t (pa_cons (pv 4) pa_nil))))))))), ?_⟩
    have sl : sizeLine = 16777216 := sizeLine_eq
    refine ⟨_, rfl, p, a, rfl, ha, wa, la, fun kp H1 s1 hk => ?_⟩
    refine ⟨_, rfl, q, b, rfl, hb.same s1, wb, lb, fun gn H0 s2 hg => ?_⟩
    obtain ⟨sk, mk, lk⟩ := Lm.merged_ok wa.lo
    obtain ⟨sg, mg', lg⟩ := Lm.merged_ok wb.lo
    generalize Lm.merged a = ks at hk sk lk fin
    generalize Lm.merged b = gs at hg sg lg fin
    obtain ⟨kx, hk1, hk2⟩ := hk.same s2
    obtain ⟨gx, hg1, hg2⟩ := hg
    have s0 := s1.trans s2
    have wl := Lm.wo_len sk sg
    have lkx : kx.length = ks.length := hk2.length
    have lgx : gx.length = gs.length := hg2.length
    refine ⟨Nat.zero_le _, fun l hn => ?_⟩
    refine ⟨_, rfl, kp, rfl, ⟨_, SqT.of (same_upd hn _ _ hk1)⟩, for_tup (K := K) (a := kp) (xs := kx) (fun i σ H2 => Same H0 H2 ∧ ∃ ws rs fi u1 u2 u3 u4, H2 l = some (.lst ws) ∧ PairsAt H2 ws rs ∧ rs ++ Lm.wo (ks.drop i) (gs.drop fi) = Lm.wo ks gs ∧ fi ≤ gs.length ∧ σ = [some (.ref p), some (.ref q), some (.ref kp), some (.ref gn), some (.ref l), some (.int (fi : Nat)), u1, u2, u3, u4])
      ⟨same_upd hn, [], [], 0, _, _, _, _, upd_same, .nil, rfl, Nat.zero_le _, rfl⟩ (fun i σ H2 _ ⟨e, _⟩ => SqT.of (e _ _ hk1)) ?_ ?_⟩
    · rintro i x σ H2 hi ⟨sm, ws, rs, fi, u1, u2, u3, u4, hL, pq, eq, fl, rfl⟩
      obtain ⟨y, hy, b', rfl, hb'⟩ := paired_get hk2 hi
      have il : i < kx.length := (List.getElem?_eq_some_iff.mp hi).1
      have dr : ks.drop i = y :: ks.drop (i + 1) := by
        rw [List.drop_eq_getElem_cons (by omega)]
        congr 1
        exact Option.some.inj ((List.getElem?_eq_getElem (by omega)).symm.trans hy)
      refine ⟨b', _, rfl, SqT.of (sm _ _ hb'), rfl, _, _, rfl, _, _, rfl, rfl, ?_⟩
      have gat : ∀ {H3 : Hp} {k : Nat}, Same H0 H3 → k < gs.length → ∃ gb, atI gx (k : Int) = some (.ref gb) ∧ H3 gb = some (.tup [.int (gs.getD k (0, 0)).1, .int (gs.getD k (0, 0)).2]) := fun {H3 k} e hk => by
        obtain ⟨gb, e1, e2⟩ := pair_ref hg2 hk
        refine ⟨gb, atI_nat e1, ?_⟩
        rw [List.getD_eq_getElem?_getD, List.getElem?_eq_getElem hk]
        exact e _ _ e2
      have gdr : ∀ {k : Nat}, k < gs.length → gs.drop k = gs.getD k (0, 0) :: gs.drop (k + 1) := fun {k} hk => by
        rw [List.drop_eq_getElem_cons hk, List.getD_eq_getElem?_getD, List.getElem?_eq_getElem hk]
        rfl
      have hg3 : ∀ {H3 : Hp}, Same H0 H3 → SqT K H3 gn gx := fun e => SqT.of (e _ _ hg1)
      rw [dr] at eq
      have eq0 : rs ++ (Lm.cut y.1 y.2 (Lm.skip y.1 (gs.drop fi)) ++ Lm.wo (ks.drop (i + 1)) (Lm.skip y.1 (gs.drop fi))) = Lm.wo ks gs := eq
      have put : ∀ {H3 H4 : Hp} {o : HO}, Same H0 H3 → Same H3 H4 → Same H0 (upd H4 l o) := fun {H3 H4 o} e1 e2 b z hz => by
        rw [upd_ne (ne_of_none hz hn)]
        exact e2 _ _ (e1 _ _ hz)
      have keep : ∀ {H3 H4 : Hp} {o : HO} {us vs : List V} {rs : Lm.Ps}, H3 l = some (.lst vs) → Same H3 H4 → PairsAt H3 us rs → PairsAt (upd H4 l o) us rs := fun {H3 H4 o us vs rs} hL e h => paired_map (fun v q ⟨b, z1, z2⟩ => ⟨b, z1, by
        rw [upd_ne (ne_of z2 hL (by intro z; cases z))]
        exact e _ _ z2⟩) h
      -- the first loop
      refine while_by (fun σ H3 => H3 = H2 ∧ ∃ f : Nat, f ≤ gs.length ∧ Lm.skip y.1 (gs.drop f) = Lm.skip y.1 (gs.drop fi) ∧ σ = [some (.ref p), some (.ref q), some (.ref kp), some (.ref gn), some (.ref l), some (.int (f : Nat)), some (.int y.1), some (.int y.2), u3, u4])
        (fun σ _ => match σ with | [_, _, _, _, _, some (.int f), _, _, _, _] => gs.length - f.toNat | _ => 0) ⟨rfl, fi, fl, rfl, rfl⟩ ?_ ?_
      · rintro σ H3 ⟨rfl, f, hf, es, rfl⟩
        refine ⟨_, rfl, _, rfl, gn, gx, rfl, .inr (hg3 sm), _, _, rfl, rfl, _, rfl, ?_⟩
        refine ite2 (fun h1 => ?_) (fun h1 => iteF ?_)
        have f1 : f < gs.length := by
          have := of_decide_eq_true h1
          omega
        obtain ⟨gb, g1, g2⟩ := gat sm f1
        refine ⟨_, rfl, _, rfl, gn, gx, _, _, rfl, rfl, hg3 sm, g1, gb, _, _, _, rfl, rfl, SqT.of g2, atI_nat (j := 1) rfl, _, rfl, _, _, rfl, rfl, _, rfl, ?_⟩
        refine ite2 (fun h2 => ?_) (fun h2 => ?_)
        · have h2' : (gs.getD f (0, 0)).2 ≤ y.1 := of_decide_eq_true h2
          refine ⟨_, rfl, _, _, rfl, rfl, ⟨rfl, f + 1, f1, ?_, by rfl⟩, ?_⟩
          · rw [← es, gdr f1]
            show _ = (if (gs.getD f (0, 0)).2 ≤ y.1 then _ else _)
            rw [if_pos h2']
          · show gs.length - ((f : Int) + 1).toNat < gs.length - (f : Int).toNat
            omega
        have ef : Lm.skip y.1 (gs.drop f) = gs.drop f := by
          have h2' : ¬ (gs.getD f (0, 0)).2 ≤ y.1 := fun z => h2 (decide_eq_true z)
          rw [gdr f1]
          show (if (gs.getD f (0, 0)).2 ≤ y.1 then _ else _) = _
          rw [if_neg h2']
        rotate_left
        have ef : Lm.skip y.1 (gs.drop f) = gs.drop f := by
          have h1' : ¬ (f : Int) < (gx.length : Int) := fun z => h1 (decide_eq_true z)
          rw [List.drop_of_length_le (by omega)]
          rfl
        all_goals
          rw [← es, ef] at eq0
          refine ⟨_, rfl, _, rfl, ?_⟩
          refine while_by (fun σ H3 => Same H0 H3 ∧ ∃ (ws : List V) (rs : Lm.Ps) (at_ : Int) (ix : Nat), ix ≤ gs.length ∧ H3 l = some (.lst ws) ∧ PairsAt H3 ws rs ∧ rs ++ (Lm.cut at_ y.2 (gs.drop ix) ++ Lm.wo (ks.drop (i + 1)) (gs.drop f)) = Lm.wo ks gs ∧
              σ = [some (.ref p), some (.ref q), some (.ref kp), some (.ref gn), some (.ref l), some (.int (f : Nat)), some (.int y.1), some (.int y.2), some (.int at_), some (.int (ix : Nat))])
            (fun σ _ => match σ with | [_, _, _, _, _, _, _, _, _, some (.int f)] => gs.length - f.toNat | _ => 0) ⟨sm, ws, rs, y.1, f, hf, hL, pq, eq0, rfl⟩ ?_ ?_
          · rintro σ H4 ⟨sm4, ws4, rs4, at_, jx, hj, hL4, pq4, eq4, rfl⟩
            have wl4 : ws4.length = rs4.length := pq4.length
            have bound : rs4.length ≤ 2000 := by
              have := congrArg List.length eq4
              rw [List.length_append] at this
              omega
            refine ⟨_, rfl, _, rfl, gn, gx, rfl, .inr (hg3 sm4), _, _, rfl, rfl, _, rfl, ?_⟩
            refine ite2 (fun h3 => ?_) (fun h3 => iteF ?_)
            have j1 : jx < gs.length := by
              have := of_decide_eq_true h3
              omega
            obtain ⟨gb, g1, g2⟩ := gat sm4 j1
            refine ⟨_, rfl, _, rfl, gn, gx, _, _, rfl, rfl, hg3 sm4, g1, gb, _, _, _, rfl, rfl, SqT.of g2, atI_nat (j := 0) rfl, _, rfl, _, _, rfl, rfl, _, rfl, ?_⟩
            refine ite2 (fun h4 => ?_) (fun h4 => ?_)
            · have h4' : (gs.getD jx (0, 0)).1 < y.2 := of_decide_eq_true h4
              have ec : Lm.cut at_ y.2 (gs.drop jx) = (if at_ < (gs.getD jx (0, 0)).1 then [(at_, (gs.getD jx (0, 0)).1)] else []) ++ Lm.cut (gs.getD jx (0, 0)).2 y.2 (gs.drop (jx + 1)) := by
                rw [gdr j1]
                show (if (gs.getD jx (0, 0)).1 < y.2 then _ else _) = _
                rw [if_pos h4']
              rw [ec] at eq4
              have ms : gs.length - ((jx : Int) + 1).toNat < gs.length - (jx : Int).toNat := by omega
              refine ⟨_, rfl, _, rfl, _, rfl, gn, gx, _, _, rfl, rfl, hg3 sm4, g1, gb, _, _, _, rfl, rfl, SqT.of g2, atI_nat (j := 0) rfl, _, _, rfl, rfl, _, rfl, ?_⟩
              refine ite2 (fun h5 => ?_) (fun h5 => ?_)
              · rw [if_pos (of_decide_eq_true h5)] at eq4
                refine ⟨_, rfl, .inl ⟨rfl, _, SqL.of hL4⟩, _, rfl, _, rfl, _, rfl, gn, gx, _, _, rfl, rfl, hg3 sm4, g1, gb, _, _, _, rfl, rfl, SqT.of g2, atI_nat (j := 0) rfl, by show 2 ≤ sizeLine; decide, fun t ht => ?_⟩
                have nt : l ≠ t := ne_of_none hL4 ht
                refine ⟨l, _, _, rfl, rfl, by rw [upd_ne nt]; exact hL4, by omega, ?_⟩
                have sm5 := put (o := .lst (ws4 ++ [.ref t])) sm4 (same_upd (o := .tup [.int at_, .int (gs.getD jx (0, 0)).1]) ht)
                have pq5 : PairsAt (upd (upd H4 t (.tup [.int at_, .int (gs.getD jx (0, 0)).1])) l (.lst (ws4 ++ [.ref t]))) (ws4 ++ [.ref t]) (rs4 ++ [(at_, (gs.getD jx (0, 0)).1)]) := paired_snoc (keep hL4 (same_upd ht) pq4) ⟨t, rfl, by rw [upd_ne nt.symm]; exact upd_same⟩
                have g5 : ∀ bb ys, H4 bb = some (.tup ys) → (upd (upd H4 t (.tup [.int at_, .int (gs.getD jx (0, 0)).1])) l (.lst (ws4 ++ [.ref t]))) bb = some (.tup ys) := fun bb ys z => by
                  rw [upd_ne (ne_of z hL4 (by intro z; cases z)), upd_ne (ne_of_none z ht)]
                  exact z
                refine ⟨_, rfl, _, rfl, gn, gx, _, _, rfl, rfl, hg3 sm5, g1, gb, _, _, _, rfl, rfl, SqT.of (g5 _ _ g2), atI_nat (j := 1) rfl, ?_⟩
                exact ⟨_, rfl, _, _, rfl, rfl, ⟨sm5, _, _, _, jx + 1, j1, upd_same, pq5, by rw [← eq4]; simp, rfl⟩, ms⟩
              · rw [if_neg (fun z => h5 (decide_eq_true z))] at eq4
                refine ⟨_, rfl, _, rfl, gn, gx, _, _, rfl, rfl, hg3 sm4, g1, gb, _, _, _, rfl, rfl, SqT.of g2, atI_nat (j := 1) rfl, ?_⟩
                exact ⟨_, rfl, _, _, rfl, rfl, ⟨sm4, _, _, _, jx + 1, j1, hL4, pq4, eq4, rfl⟩, ms⟩
            have ec : Lm.cut at_ y.2 (gs.drop jx) = if at_ < y.2 then [(at_, y.2)] else [] := by
              rw [gdr j1]
              show (if (gs.getD jx (0, 0)).1 < y.2 then _ else _) = _
              rw [if_neg (fun z => h4 (decide_eq_true z))]
            rotate_left
            have ec : Lm.cut at_ y.2 (gs.drop jx) = if at_ < y.2 then [(at_, y.2)] else [] := by
              have h3' : ¬ (jx : Int) < (gx.length : Int) := fun z => h3 (decide_eq_true z)
              rw [List.drop_of_length_le (by omega)]
              rfl
            all_goals
              rw [ec] at eq4
              refine ⟨_, rfl, _, rfl, _, _, rfl, rfl, _, rfl, ?_⟩
              refine ite2 (fun h6 => ?_) (fun h6 => ?_)
              · rw [if_pos (of_decide_eq_true h6)] at eq4
                refine ⟨_, rfl, .inl ⟨rfl, _, SqL.of hL4⟩, _, rfl, _, rfl, by show 2 ≤ sizeLine; decide, fun t ht => ?_⟩
                have nt : l ≠ t := ne_of_none hL4 ht
                refine ⟨l, _, _, rfl, rfl, by rw [upd_ne nt]; exact hL4, by omega, ?_⟩
                refine ⟨put sm4 (same_upd ht), ws4 ++ [.ref t], rs4 ++ [(at_, y.2)], f, _, _, _, _, upd_same, paired_snoc (keep hL4 (same_upd ht) pq4) ⟨t, rfl, by rw [upd_ne nt.symm]; exact upd_same⟩, by rw [← eq4]; simp, hf, rfl⟩
              · rw [if_neg (fun z => h6 (decide_eq_true z))] at eq4
                exact ⟨sm4, ws4, rs4, f, _, _, _, _, hL4, pq4, eq4, hf, rfl⟩
          · rintro σ H2 Q1 Q2 hq ⟨v, e1, v2, f1, pp, ys, f2, f3, i', j', e2, e3, k, e4, h⟩
            refine ⟨v, e1, v2, f1, pp, ys, f2, f3, i', j', e2, e3, k, e4, ?_⟩
            cases k with
            | false => exact iteF (hq _ _ (by simpa using h))
            | true =>
              rw [if_pos rfl] at h
              obtain ⟨a1, a2, a3, a4, p1, x1, i1, v1, b1, b2, b3, b4, p2, x2, i2, v2', c1, c2, c3, c4, d1, d2, i3, j3, g2, g3, k3, g4, h⟩ := h
              exact iteT ⟨a1, a2, a3, a4, p1, x1, i1, v1, b1, b2, b3, b4, p2, x2, i2, v2', c1, c2, c3, c4, d1, d2, i3, j3, g2, g3, k3, g4, hq _ _ h⟩
      · rintro σ H2 Q1 Q2 hq ⟨v, e1, v2, f1, pp, ys, f2, f3, i', j', e2, e3, k, e4, h⟩
        refine ⟨v, e1, v2, f1, pp, ys, f2, f3, i', j', e2, e3, k, e4, ?_⟩
        cases k with
        | false => exact iteF (hq _ _ (by simpa using h))
        | true =>
          rw [if_pos rfl] at h
          obtain ⟨a1, a2, a3, a4, p1, x1, i1, v1, b1, b2, b3, b4, p2, x2, i2, v2', c1, c2, c3, c4, d1, d2, i3, j3, g2, g3, k3, g4, h⟩ := h
          exact iteT ⟨a1, a2, a3, a4, p1, x1, i1, v1, b1, b2, b3, b4, p2, x2, i2, v2', c1, c2, c3, c4, d1, d2, i3, j3, g2, g3, k3, g4, hq _ _ h⟩
    · rintro σ H2 ⟨sm, ws, rs, fi, u1, u2, u3, u4, hL, pq, eq, fl, rfl⟩
      have dn : ks.drop kx.length = [] := List.drop_of_length_le (by omega)
      rw [dn] at eq
      have eq : rs ++ [] = Lm.wo ks gs := eq
      rw [List.append_nil] at eq
      subst eq
      refine ⟨_, rfl, l, _, rfl, .inl ⟨SqL.of hL, fun r hr' => ?_⟩⟩
      exact fin r _ (s0.trans (sm.trans (same_upd hr'))) ⟨ws, upd_same, pq.same (same_upd hr')⟩
end
end Ls

set_option maxHeartbeats 4000000
namespace L2
open PySem PySem.Spec PyProof.Rows
theorem Takes.of {X : Cx} {NB : List Str} {n : Nat} {js : List Nat} {scope : Scope} {cl : List (Str × Addr)} (clo : closureFor scope X.env = pure cl) (hsub : ∀ p ∈ cl, X.env.cells.lookup p.1 = some p.2)
    (hhas : ∀ p ∈ (relabel scope X.env).names, (p.2 = .cell ∨ p.2 = .free) → (cl.lookup p.1).isSome = true) (len : NB.length = n + js.length) (nam : ∀ k j, js[k]? = some j → NB[n + k]? = X.N[j]?)
    (ck : ∀ x ∈ NB.drop n, ((relabel scope X.env).names.lookup x = some .cell ∨ (relabel scope X.env).names.lookup x = some .free) ∧ (X.env.kindOf x = some .cell ∨ X.env.kindOf x = some .free) ∧ (cl.lookup x).isSome = true) : Takes X NB n js scope cl :=
  ⟨clo, fun x c q => hsub (x, c) (PySem.mem_of_lookup q), fun x q => q.elim (fun z => hhas (x, _) (PySem.mem_of_lookup z) (.inl rfl)) fun z => hhas (x, _) (PySem.mem_of_lookup z) (.inr rfl), len, nam, fun x _ hx => ck x hx⟩
theorem all_nil {α : Type} {P : α → Prop} : ∀ x ∈ ([] : List α), P x := fun x hx => absurd hx (by simp)
theorem all_cons {α : Type} {P : α → Prop} {a : α} {l : List α} (h : P a) (t : ∀ x ∈ l, P x) : ∀ x ∈ a :: l, P x := fun x hx => by
  rcases List.mem_cons.mp hx with rfl | hx
  · exact h
  · exact t x hx
end L2
namespace Ls
open PySem L2 PySem.W
theorem gName_in {i : Nat} {v : V} {σ : St} {H : Hp} {Q : St → Hp → Prop} (h : Q (σ.set i (some v)) H) : gName i v σ H Q := h
theorem tYes_in {σ : St} {H : Hp} {Q : Bool → Hp → Prop} (h : Q true H) : tYes σ H Q := h
def pairD (p : Int × Int) : PyData := .tuple [.int p.1, .int p.2]
def workD (ps : List (Int × Int)) : PyData := .tuple (ps.map pairD)
theorem rdv_pair {K : Frag} {H : Hp} {v : V} {p : Int × Int} (h : PairAt H v p) : RdV K H v (pairD p) := by
  obtain ⟨b, rfl, q⟩ := h
  exact .tup (SqT.of q) (.cons (.int _) (.cons (.int _) .nil))
theorem rdvs_pairs {K : Frag} {H : Hp} : ∀ {xs : List V} {ps : List (Int × Int)}, Paired (PairAt H) xs ps → RdVs K H xs (ps.map pairD)
  | _, _, .nil => .nil
  | _, _, .cons r t => .cons (rdv_pair r) (rdvs_pairs t)
def Gd (n : Nat) (d : PyData) : Prop := d.canLay0 = true ∧ d.depth ≤ n
theorem canAll : ∀ {ds : List PyData}, (∀ d ∈ ds, d.canLay0 = true) → PyData.canLayAll0 ds = true
  | [], _ => by rw [PyData.canLayAll0]
  | d :: ds, h => by
    rw [PyData.canLayAll0, h d (List.mem_cons_self), canAll fun e he => h e (List.mem_cons_of_mem _ he)]
    rfl
theorem depAll {n : Nat} : ∀ {ds : List PyData}, (∀ d ∈ ds, d.depth ≤ n) → PyData.depthAll ds ≤ n
  | [], _ => by rw [PyData.depthAll]; exact Nat.zero_le _
  | d :: ds, h => by
    rw [PyData.depthAll]
    exact Nat.max_le.mpr ⟨h d List.mem_cons_self, depAll fun e he => h e (List.mem_cons_of_mem _ he)⟩
theorem Gd.tup {n : Nat} {ds : List PyData} (h : ∀ d ∈ ds, Gd n d) : Gd (n + 1) (.tuple ds) := by
  refine ⟨?_, ?_⟩
  · rw [PyData.canLay0]
    exact canAll fun d hd => (h d hd).1
  · rw [PyData.depth]
    exact Nat.succ_le_succ (depAll fun d hd => (h d hd).2)
theorem Gd.lst {n : Nat} {ds : List PyData} (h : ∀ d ∈ ds, Gd n d) : Gd (n + 1) (.list ds) := by
  refine ⟨?_, ?_⟩
  · rw [PyData.canLay0]
    exact canAll fun d hd => (h d hd).1
  · rw [PyData.depth]
    exact Nat.succ_le_succ (depAll fun d hd => (h d hd).2)
theorem Gd.int {n : Nat} (i : Int) : Gd n (.int i) := ⟨by rw [PyData.canLay0], by rw [PyData.depth]; exact Nat.zero_le _⟩
theorem Gd.mono {n m : Nat} {d : PyData} (h : Gd n d) (e : n ≤ m) : Gd m d := ⟨h.1, Nat.le_trans h.2 e⟩
theorem Gd.shaped {n : Nat} {d : PyData} (h : Gd n d) (e : n ≤ 64) : SeqAt.shaped d = true := by
  unfold SeqAt.shaped
  rw [h.1, decide_eq_true (Nat.le_trans h.2 e)]
  rfl
theorem gd_nil {n : Nat} : ∀ d ∈ ([] : List PyData), Gd n d := fun d h => absurd h (by simp)
theorem gd_cons {n : Nat} {d : PyData} {ds : List PyData} (h : Gd n d) (hs : ∀ e ∈ ds, Gd n e) : ∀ e ∈ d :: ds, Gd n e := fun e he => by
  rcases List.mem_cons.mp he with z | z
  · rw [z]; exact h
  · exact hs e z
theorem Gd.pair (p : Int × Int) : Gd 1 (pairD p) := Gd.tup (gd_cons (Gd.int _) (gd_cons (Gd.int _) gd_nil))
theorem gd_pairs {n : Nat} (ps : List (Int × Int)) : ∀ d ∈ ps.map pairD, Gd (n + 1) d := fun d hd => by
  obtain ⟨p, _, rfl⟩ := List.mem_map.mp hd
  exact (Gd.pair p).mono (by omega)
theorem eqv_pair (p : Int × Int) : PyData.eqv (pairD p) (pairD p) = true := by
  unfold pairD
  simp [PyData.eqv, PyData.eqvAll]
theorem eqvAll_pairs : ∀ ps : List (Int × Int), PyData.eqvAll (ps.map pairD) (ps.map pairD) = true
  | [] => by simp [PyData.eqvAll]
  | p :: ps => by
    rw [List.map_cons, PyData.eqvAll, eqv_pair, eqvAll_pairs ps]
    rfl
theorem eqv_work (ps : List (Int × Int)) : PyData.eqv (workD ps) (workD ps) = true := by
  unfold workD
  rw [PyData.eqv]
  exact eqvAll_pairs ps
theorem eqv_work_nil (ps : List (Int × Int)) : PyData.eqv (workD ps) (.tuple []) = decide (ps = []) := by
  unfold workD
  rw [PyData.eqv]
  cases ps with
  | nil => simp [PyData.eqvAll]
  | cons p ps => simp [PyData.eqvAll]

/-! ### what is spoilt -/

theorem work_rdv {K : Frag} {H : Hp} {p : Addr} {ps : Lm.Ps} (h : WorkM H p ps) : RdV K H (.ref p) (workD ps) := by
  obtain ⟨xs, h1, h2⟩ := h
  exact .tup (SqT.of h1) (rdvs_pairs h2)
theorem work_shaped (ps : Lm.Ps) : SeqAt.shaped (workD ps) = true := (Gd.tup (gd_pairs (n := 0) ps)).shaped (by decide)
/-- a work in its short form with just these places -/
def Told (H : Hp) (Q : VK) (n : Nat) (M : Int → Prop) : Prop := ∀ (r : Addr) (d : Lm.Ps) (H' : Hp), Same H H' → WorkM H' r d → Lm.Sh d → (∀ x, Lm.mem d x ↔ M x) → d.length ≤ n → Q (.ref r) H'
def spDiff : Sp := fun vs H Q _ => ∃ (p q : Addr) (a b : Lm.Ps), vs = [.ref p, .ref q] ∧ WorkM H p a ∧ WorkM H q b ∧ Lm.Wk a ∧ Lm.Wk b ∧ a.length ≤ 1000 ∧ b.length ≤ 1000 ∧ Told H Q (a.length + b.length) fun x => Lm.mem a x ∧ ¬ Lm.mem b x
def spSt : Sp := fun vs H Q _ => ∃ (p : Addr) (a : Lm.Ps), vs = [.ref p] ∧ WorkM H p a ∧ Lm.Wk a ∧ a.length ≤ 1000 ∧ Told H Q a.length fun x => Lm.mem a x
section
variable {P : Program} {w : World} {K : PySem.W.Frag} {mg : Str → Option Value} {base : Heap}
theorem diff_of {f : Addr} {fd : FuncData} {k : Nat} (h : FnOk P w K mg base CX0 k f fd ["one", "other"] spWithout) : FnOk P w K mg base CX0 k f fd ["one", "other"] spDiff := by
  refine h.imp fun vs H Q E ⟨p, q, a, b, e, ha, hb, wa, wb, la, lb, t⟩ => ⟨p, q, a, b, e, ha, hb, wa, wb, la, lb, fun r H' s hr => ?_⟩
  obtain ⟨s1, m1, l1⟩ := Lm.merged_ok wa.lo
  obtain ⟨s2, m2, l2⟩ := Lm.merged_ok wb.lo
  obtain ⟨i1, i2, i3⟩ := Lm.wo_ok s1 s2
  have l3 := Lm.wo_len s1 s2
  exact t r _ H' s hr i1 (fun x => by rw [i3 x, m1 x, m2 x]) (by omega)
theorem st_of {f : Addr} {fd : FuncData} {k : Nat} (h : FnOk P w K mg base CX0 k f fd ["work"] spShort) : FnOk P w K mg base CX0 k f fd ["work"] spSt := by
  refine h.imp fun vs H Q E ⟨p, a, e, ha, wa, la, t⟩ => ⟨p, a, e, ha, wa, la, fun r H' s hr => ?_⟩
  obtain ⟨s1, m1, l1⟩ := Lm.merged_ok wa.lo
  exact t r _ H' s hr s1 m1 l1
end
end Ls

set_option maxHeartbeats 4000000
namespace Ls
open PySem L2 PySem.W
/-! ### a sheet -/
def flds (pw d : Addr) : List (Str × V) := putF "results" (.ref d) (putF "work" (.ref pw) [])
theorem wr : ¬ ("work" : Str) = "results" := by decide +kernel
theorem flds_work (pw d : Addr) : (flds pw d).lookup ("work" : Str) = some (.ref pw) := by
  unfold flds
  rw [lookup_putF, if_neg wr, lookup_putF, if_pos rfl]
theorem flds_res (pw d : Addr) : (flds pw d).lookup ("results" : Str) = some (.ref d) := by
  unfold flds
  rw [lookup_putF, if_pos rfl]
theorem flds_no (pw d : Addr) {m : Str} (h1 : ¬ m = "results") (h2 : ¬ m = "work") : (flds pw d).lookup m = none := by
  unfold flds
  rw [lookup_putF, if_neg h1, lookup_putF, if_neg h2]
  all_goals rfl
structure SheetAt (C : Addr) (H : Hp) (p pw d : Addr) (ws : Lm.Ps) (kvs : List (Key × V)) : Prop where
  ob : ∃ dx, H p = some (.ins C dx (flds pw d))
  wk : WorkM H pw ws
  dc : H d = some (.dK kvs)
theorem SheetAt.same {C : Addr} {H H' : Hp} {p pw d : Addr} {ws : Lm.Ps} {kvs : List (Key × V)} (e : Same H H') (h : SheetAt C H p pw d ws kvs) : SheetAt C H' p pw d ws kvs := by
  obtain ⟨⟨dx, h1⟩, h2, h3⟩ := h
  exact ⟨⟨dx, e _ _ h1⟩, h2.same e, e _ _ h3⟩
structure Cl (K : PySem.W.Frag) (mg : Str → Option Value) (C : Addr) : Prop where
  cl : Cls K C
  nW : NoAttr K C "work"
  nR : NoAttr K C "results"
  mgC : mg "Sheet" = some (.ref C)
def spInit (C : Addr) : Sp := fun vs H Q _ => ∃ (p dx q : Addr) (a : Lm.Ps), vs = [.ref p, .ref q] ∧ H p = some (.ins C dx []) ∧ WorkM H q a ∧ Lm.Wk a ∧ a.length ≤ 1000 ∧
  ∀ (pw d : Addr) (ws : Lm.Ps) (H' : Hp), H d = none → SheetAt C H' p pw d ws [] → Lm.Sh ws → (∀ x, Lm.mem ws x ↔ Lm.mem a x) → ws.length ≤ a.length → (∀ b o, H b = some o → b ≠ p → H' b = some o) → Q .non H'
def spNums : Sp := fun vs H Q _ => ∃ (p : Addr) (ns : List Int), vs = [.ref p] ∧ H p = some (.tup (ns.map V.int)) ∧ ns.length ≤ 1000 ∧ ∀ H', Same H H' → Q (.bl true) H'
def spHolds (C : Addr) : Sp := fun vs H Q _ => ∃ (p pw d : Addr) (ws : Lm.Ps) (kvs : List (Key × V)) (i j : Int), vs = [.ref p, .int i, .int j] ∧ SheetAt C H p pw d ws kvs ∧ ws.length ≤ 1000 ∧ ∀ H', Same H H' → Q (.bl (ws.any fun q => decide (q.1 ≤ i) && decide (j ≤ q.2))) H'
/-- the places that are laid, in their short form -/
def spLaid (C : Addr) : Sp := fun vs H Q _ => ∃ (p pw d : Addr) (ws : Lm.Ps) (kvs : List (Key × V)) (ns : List Int), vs = [.ref p] ∧ SheetAt C H p pw d ws kvs ∧ kvs.map (·.1) = ns.map Sum.inl ∧ ns.Nodup ∧ ns.length < 64 ∧ Told H Q ns.length fun x => x ∈ ns
section
variable {P : Program} {w : World} {K : PySem.W.Frag} {mg : Str → Option Value} {base : Heap}
theorem scInit : FnScope ["self", "work"] ["self", "work"] (defScope sSInit) := ⟨rfl, rfl, rfl, by decide +kernel, rfl, by decide +kernel, by decide +kernel⟩
theorem ok_init {f fS C : Addr} {fd fdS : FuncData} (F : Fun K "__init__" "Sheet.__init__" sSInit f fd) (T : Cl K mg C) (GS : FnOk P w K mg base CX0 5 fS fdS ["work"] spSt) (kS : keepIn K (.ref fS) = true) (bS : Binds K fdS ["work"] []) (mS : mg "short_form" = some (.ref fS)) :
    FnOk P w K mg base CX0 6 f fd ["self", "work"] (spInit C) := by
  refine F.ok scInit (fun vs H Q E h => ?_) (fun cdv A outer s H vs Q E hr h => ?_)
  · obtain ⟨p, dx, q, a, rfl, _⟩ := h
    rfl
  · obtain ⟨p, dx, q, a, rfl, hp, ha, wa, la, t⟩ := h
    refine ⟨_, pss_cons (ps_fld (pv 0) (pe_call GS hr rfl mS kS bS .nil pass0 (pa_cons (pv 1) pa_nil)) rfl) (pss_one (ps_fld (pv 0) pe_dnewK rfl)), ?_⟩
    refine ⟨_, rfl, q, a, rfl, ha, wa, la, fun r ws H1 s1 hw sh mm ll => ?_⟩
    refine ⟨_, rfl, p, C, dx, [], rfl, s1 _ _ hp, T.cl, T.nW, (by show 0 < 1000; decide), ?_⟩
    intro d hd
    have hp1 : H1 p = some (.ins C dx []) := s1 _ _ hp
    have npd : p ≠ d := fun z => by
      subst z
      rw [upd_same] at hd
      cases hd
    have hd1 : H1 d = none := by rw [upd_ne npd.symm] at hd; exact hd
    have hd0 : H d = none := s1.free hd1
    refine ⟨_, rfl, p, C, dx, _, rfl, (by rw [upd_ne npd]; exact upd_same), T.cl, T.nR, (by show 1 < 1000; decide), ?_⟩
    have hk : ∀ b o, H1 b = some o → b ≠ p → (upd (upd (upd H1 p (.ins C dx (putF "work" (.ref r) []))) d (.dK [])) p (.ins C dx (putF "results" (.ref d) (putF "work" (.ref r) [])))) b = some o := fun b o e hb => by
      rw [upd_ne hb, upd_ne (ne_of_none e hd1), upd_ne hb]
      exact e
    refine t r d ws _ hd0 ⟨⟨dx, upd_same⟩, ?_, by rw [upd_ne npd.symm, upd_same]⟩ sh mm ll fun b o e hb => hk b o (s1 _ _ e) hb
    obtain ⟨xs, x1, x2⟩ := hw
    exact ⟨xs, hk _ _ x1 (fun z => by subst z; rw [hp1] at x1; cases x1), paired_map (fun v q ⟨b, z1, z2⟩ => ⟨b, z1, hk _ _ z2 (fun z => by subst z; rw [hp1] at z2; cases z2)⟩) x2⟩
theorem scNumbers : FnScope ["thing"] ["thing"] (defScope sNumbers) := ⟨rfl, rfl, rfl, by decide +kernel, rfl, by decide +kernel, by decide +kernel⟩
theorem ndN : (["number"] : List Str).Nodup := by decide +kernel
theorem ok_numbers {f fW : Addr} {fd fdW : FuncData} (F : Fun K "is_numbers" "is_numbers" sNumbers f fd) (G : Gb mg) (GW : FnOk P w K mg base CX0 1 fW fdW ["thing"] spWhole) (kW : keepIn K (.ref fW) = true) (bW : Binds K fdW ["thing"] []) (mW : mg "is_whole" = some (.ref fW)) : FnOk P w K mg base CX0 2 f fd ["thing"] spNums := by
  refine F.ok scNumbers (fun vs H Q E h => ?_) (fun cdv A outer s H vs Q E hr h => ?_)
  · obtain ⟨p, ns, rfl, _⟩ := h
    rfl
  · obtain ⟨p, ns, rfl, hp, ln, t⟩ := h
    refine ⟨_, pss_one (ps_ret (pe_and (pe_callB call_isinst (by rfl) G.isi boot_isi (pa_cons (pv 0) (pa_cons (pe_bltn (v := .ty "tuple") (by rfl) G.tuple boot_t rfl) pa_nil)))
      (pe_one (pe_callB (call_all rfl) (by rfl) G.all boot_all (pa_cons (pe_comp (NB := ["number"]) (g := gName 0) rfl (by decide +kernel) (by decide +kernel) (by decide +kernel) rfl (pi_tup (pv 0)) (fun C s H fp pn => pg_name (i := 0) ndN rfl (Or.inl rfl) (.inr rfl)) (fun C s H fp pn => pts_nil)
        (fun C s H fp pn => pe_call GW hr rfl mW kW bW .nil pass0 (pa_cons (pv 0) pa_nil))) pa_nil))))), ?_⟩
    have sl : sizeLine = 16777216 := sizeLine_eq
    obtain ⟨ty, hty, e⟩ := ans_tupT (K := K) hp
    refine ⟨_, rfl, _, _, _, _, rfl, .ty "tuple", .inl ⟨ty, hty, e⟩, _, rfl, ?_⟩
    refine iteT ?_
    refine ⟨_, rfl, p, rfl, ⟨_, SqT.of hp⟩, fun acc hacc => ?_⟩
    have lm : (ns.map V.int).length = ns.length := List.length_map ..
    refine ⟨fun i m ys H' => m = ns.length - i ∧ i ≤ ns.length ∧ ys = (List.replicate i true).map V.bl ∧ Same H H' ∧ H' acc = some (.lst ys), ⟨_, rfl, Nat.zero_le _, rfl, same_upd hacc, upd_same⟩, ?_⟩
    rintro i m ys H' ⟨rfl, hi, rfl, sm, hA⟩
    refine ⟨hA, ?_⟩
    by_cases hlt : i < ns.length
    · refine .inr ⟨⟨_, _, SqT.of (sm _ _ hp), List.getElem?_eq_getElem (by omega)⟩, ?_⟩
      rintro y H'' ⟨rfl, hy⟩
      have ey := hy _ (SqT.of (sm _ _ hp))
      have ez : y = V.int ns[i] := by
        rw [List.getElem?_map, List.getElem?_eq_getElem hlt] at ey
        exact (Option.some.inj ey).symm
      subst ez
      refine gName_in ?_
      refine tYes_in ?_
      refine iteT ?_
      refine ⟨_, rfl, _, rfl, .kn (.int _), hA, by rw [List.length_map, List.length_replicate]; omega, _, ?_, rfl, hlt, ?_, fun b o z => ?_, upd_same⟩
      · omega
      · rw [List.replicate_succ', List.map_append]
        rfl
      · rw [upd_ne (ne_of_none z hacc)]
        exact sm _ _ z
    · refine .inl ⟨⟨_, SqT.of (sm _ _ hp), by omega⟩, ?_⟩
      refine ⟨acc, _, rfl, SqL.of hA, ?_⟩
      have ea : (List.replicate i true).all id = true := by simp
      rw [ea]
      exact t _ sm
end
end Ls

set_option maxHeartbeats 4000000
namespace Ls
open PySem L2 PySem.W
section
variable {P : Program} {w : World} {K : PySem.W.Frag} {mg : Str → Option Value} {base : Heap}
theorem scHolds : FnScope ["self", "first", "behind"] ["self", "first", "behind"] (defScope sSHolds) := ⟨rfl, rfl, rfl, by decide +kernel, rfl, by decide +kernel, by decide +kernel⟩
theorem ndH : (["low", "high", "behind", "first"] : List Str).Nodup := by decide +kernel
theorem any_map {α β : Type} (f : α → Bool) (l : List α) : ((l.map f).any id) = l.any f := by
  induction l with
  | nil => rfl
  | cons a l ih => rw [List.map_cons, List.any_cons, List.any_cons, ih]; rfl
theorem ok_holds {f C : Addr} {fd : FuncData} (F : Fun K "holds_row" "Sheet.holds_row" sSHolds f fd) (G : Gb mg) (T : Cl K mg C) : FnOk P w K mg base CX0 1 f fd ["self", "first", "behind"] (spHolds C) := by
  refine F.ok scHolds (fun vs H Q E h => ?_) (fun cdv A outer s H vs Q E hr h => ?_)
  · obtain ⟨p, pw, d, ws, kvs, i, j, rfl, _⟩ := h
    rfl
  · obtain ⟨p, pw, d, ws, kvs, i₀, j₀, rfl, S, lw, t⟩ := h
    refine ⟨_, (pss_one (ps_ret (pe_callB (call_any rfl) (by rfl) G.any boot_any (pa_cons (pe_compF (NB := ["low", "high", "behind", "first"]) (n := 2) (js := [2, 1]) (g := gTup K 2 (gCons (gName 0) (gCons (gName 1) gNil))) (cl := [("first", s.heap.objs.size + 1), ("behind", s.heap.objs.size + 1 + 1)]) rfl (by decide +kernel) (by decide +kernel) rfl
        (Takes.of rfl (all_cons rfl (all_cons rfl all_nil)) (all_cons (fun z => nomatch z) (all_cons (fun z => nomatch z) (all_cons (fun z => nomatch z) (all_cons (fun _ => rfl) (all_cons (fun _ => rfl) all_nil))))) rfl
          (fun k j h => match k, j, h with | 0, _, rfl => rfl | 1, _, rfl => rfl | k + 2, _, h => absurd h (by simp)) (all_cons ⟨.inl rfl, .inl rfl, rfl⟩ (all_cons ⟨.inl rfl, .inl rfl, rfl⟩ all_nil)))
        (pi_tup (pe_fld (pv 0) rfl)) (fun C s H fp pn => pg_tup (n := 2) rfl (pgs_cons (pg_name (i := 0) ndH rfl (Or.inl rfl) (.inr rfl)) (pgs_cons (pg_name (i := 1) ndH rfl (Or.inl rfl) (.inr rfl)) pgs_nil))) (fun C s H fp pn => pts_nil)
        (fun C s H fp pn => pe_and (pe_cmpR op_le (pv 0) (pv 3) (nomark _)) (pe_one (pe_cmpR op_le (pv 2) (pv 1) (nomark _))))) pa_nil)))), ?_⟩
    have sl : sizeLine = 16777216 := sizeLine_eq
    obtain ⟨⟨dx, h1⟩, hw, hd⟩ := id S
    obtain ⟨xs, x1, x2⟩ := id hw
    have lx : xs.length = ws.length := x2.length
    refine ⟨_, rfl, p, C, dx, _, _, rfl, h1, T.cl, T.nW, flds_work _ _, pw, rfl, ⟨_, SqT.of x1⟩, fun acc hacc => ?_⟩
    refine ⟨fun i m ys H' => m = xs.length - i ∧ i ≤ xs.length ∧ ys = ((ws.take i).map fun q => decide (q.1 ≤ i₀) && decide (j₀ ≤ q.2)).map V.bl ∧ Same H H' ∧ H' acc = some (.lst ys), ⟨_, rfl, Nat.zero_le _, rfl, same_upd hacc, upd_same⟩, ?_⟩
    rintro i m ys H' ⟨rfl, hi, rfl, sm, hA⟩
    refine ⟨hA, ?_⟩
    by_cases hlt : i < xs.length
    · refine .inr ⟨⟨xs, _, SqT.of (sm _ _ x1), List.getElem?_eq_getElem hlt⟩, ?_⟩
      rintro y H'' ⟨rfl, hy⟩
      have ey := hy xs (SqT.of (sm _ _ x1))
      obtain ⟨q, hq, b', rfl, hb'⟩ := paired_get x2 ey
      have fin : ∀ b : Bool, b = (decide (q.1 ≤ i₀) && decide (j₀ ≤ q.2)) → ((ws.take i).map fun q => decide (q.1 ≤ i₀) && decide (j₀ ≤ q.2)).map V.bl ++ [V.bl b] = ((ws.take (i + 1)).map fun q => decide (q.1 ≤ i₀) && decide (j₀ ≤ q.2)).map V.bl := fun b hb => by
        rw [List.take_add_one, hq, hb]
        simp
      refine ⟨b', _, rfl, SqT.of (sm _ _ hb'), rfl, _, _, rfl, _, _, rfl, rfl, rfl, ?_⟩
      refine tYes_in ?_
      refine iteT ?_
      refine ⟨_, rfl, _, rfl, _, _, rfl, rfl, _, rfl, ?_⟩
      refine ite2 (fun hc => ?_) (fun hc => ?_)
      · have hc' : q.1 ≤ i₀ := by simpa using hc
        refine ⟨_, rfl, _, rfl, _, _, rfl, rfl, hA, by rw [List.length_map, List.length_map, List.length_take]; omega, _, ?_, rfl, hlt, fin _ (by rw [decide_eq_true hc']; rfl), fun b o z => ?_, upd_same⟩
        · omega
        · rw [upd_ne (ne_of_none z hacc)]
          exact sm _ _ z
      · have hc' : ¬ q.1 ≤ i₀ := by simpa using hc
        refine ⟨hA, by rw [List.length_map, List.length_map, List.length_take]; omega, _, ?_, rfl, hlt, fin _ (by rw [decide_eq_false hc']; rfl), fun b o z => ?_, upd_same⟩
        · omega
        · rw [upd_ne (ne_of_none z hacc)]
          exact sm _ _ z
    · refine .inl ⟨⟨xs, SqT.of (sm _ _ x1), by omega⟩, ?_⟩
      have ei : ws.take i = ws := List.take_of_length_le (by omega)
      rw [ei] at hA
      refine ⟨acc, _, rfl, SqL.of hA, ?_⟩
      rw [any_map (β := Int)]
      exact t _ sm
end
end Ls

set_option maxHeartbeats 4000000
namespace Ls
open PySem L2 PySem.W
def ones (ns : List Int) : Lm.Ps := ns.map fun n => (n, n + 1)
theorem mem_ones {ns : List Int} {x : Int} : Lm.mem (ones ns) x ↔ x ∈ ns := by
  constructor
  · rintro ⟨p, hp, h1, h2⟩
    obtain ⟨n, hn, rfl⟩ := List.mem_map.mp hp
    have : x = n := by
      have h1' : n ≤ x := h1
      have h2' : x < n + 1 := h2
      omega
    rw [this]
    exact hn
  · intro h
    exact ⟨(x, x + 1), List.mem_map.mpr ⟨x, h, rfl⟩, Int.le_refl _, by show x < x + 1; omega⟩
theorem wk_ones : ∀ {ns : List Int}, ns.Nodup → ns.Pairwise (· ≤ ·) → Lm.Wk (ones ns)
  | [], _, _ => trivial
  | n :: ns, nd, pw => by
    obtain ⟨p1, p2⟩ := List.pairwise_cons.mp pw
    obtain ⟨d1, d2⟩ := List.nodup_cons.mp nd
    refine ⟨by show n < n + 1; omega, fun q hq => ?_, wk_ones d2 p2⟩
    obtain ⟨k, hk, rfl⟩ := List.mem_map.mp hq
    have h1 := p1 k hk
    have h2 : n ≠ k := fun z => d1 (by rw [z]; exact hk)
    show n + 1 ≤ k
    omega
theorem ndP : (["place"] : List Str).Nodup := by decide +kernel
def spLeft (C : Addr) : Sp := fun vs H Q _ => ∃ (p pw d : Addr) (ws : Lm.Ps) (kvs : List (Key × V)) (ns : List Int), vs = [.ref p] ∧ SheetAt C H p pw d ws kvs ∧ Lm.Sh ws ∧ ws.length ≤ 64 ∧ kvs.map (·.1) = ns.map Sum.inl ∧ ns.Nodup ∧ ns.length < 64 ∧ Told H Q (ws.length + ns.length) fun x => Lm.mem ws x ∧ ¬ x ∈ ns
section
variable {P : Program} {w : World} {K : PySem.W.Frag} {mg : Str → Option Value} {base : Heap}
theorem scLaid : FnScope ["self"] ["self"] (defScope sSLaid) := ⟨rfl, rfl, rfl, by decide +kernel, rfl, by decide +kernel, by decide +kernel⟩
theorem ok_laid {f fS C : Addr} {fd fdS : FuncData} (F : Fun K "laid_work" "Sheet.laid_work" sSLaid f fd) (G : Gb mg) (T : Cl K mg C) (GS : FnOk P w K mg base CX0 5 fS fdS ["work"] spSt) (kS : keepIn K (.ref fS) = true) (bS : Binds K fdS ["work"] []) (mS : mg "short_form" = some (.ref fS)) :
    FnOk P w K mg base CX0 6 f fd ["self"] (spLaid C) := by
  refine F.ok scLaid (fun vs H Q E h => ?_) (fun cdv A outer s H vs Q E hr h => ?_)
  · obtain ⟨p, pw, d, ws, kvs, ns, rfl, _⟩ := h
    rfl
  · obtain ⟨p, pw, d, ws, kvs, ns, rfl, S, hk, nd, l64, t⟩ := h
    refine ⟨_, (pss_one (ps_ret (pe_call GS hr rfl mS kS bS .nil pass0 (pa_cons (pe_callTy call_tuple_of (by rfl) G.tuple boot_t (pa_cons (pe_comp (NB := ["place"]) (g := gName 0) rfl (by decide +kernel) (by decide +kernel) (by decide +kernel) rfl
        (pi_list (pe_callB (call_sortedD rfl) (by rfl) G.sorted boot_srt (pa_cons (pe_fld (pv 0) rfl) pa_nil))) (fun C s H fp pn => pg_name (i := 0) ndP rfl (Or.inl rfl) (.inr rfl)) (fun C s H fp pn => pts_nil)
        (fun C s H fp pn => pe_tup (pa_cons (pv 0) (pa_cons (pe_op op_add (pv 0) pe_int) pa_nil)))) pa_nil)) pa_nil)))), ?_⟩
    have sl : sizeLine = 16777216 := sizeLine_eq
    obtain ⟨⟨dx, h1⟩, hw, hd⟩ := id S
    refine ⟨_, rfl, p, C, dx, _, _, rfl, h1, T.cl, T.nR, flds_res _ _, d, kvs, ns, rfl, hd, hk, l64, fun l ns' hl pm pw' => ?_⟩
    have s0 : Same H (upd H l (.lst (ns'.map V.int))) := same_upd hl
    have e0 : (upd H l (.lst (ns'.map V.int))) l = some (.lst (ns'.map V.int)) := upd_same
    generalize upd H l (.lst (ns'.map V.int)) = H1 at s0 e0 ⊢
    have ln : ns'.length = ns.length := pm.length_eq
    have lm : (ns'.map V.int).length = ns'.length := List.length_map ..
    refine ⟨l, rfl, ⟨_, SqL.of e0⟩, fun acc hacc => ?_⟩
    have nla : l ≠ acc := ne_of_none e0 hacc
    refine ⟨fun i m ys H' => m = ns'.length - i ∧ i ≤ ns'.length ∧ PairsAt H' ys (ones (ns'.take i)) ∧ Same H1 H' ∧ H' acc = some (.lst ys), ⟨_, rfl, Nat.zero_le _, .nil, same_upd hacc, upd_same⟩, ?_⟩
    rintro i m ys H' ⟨rfl, hi, hP, sm, hA⟩
    refine ⟨hA, ?_⟩
    have ly : ys.length = i := by
      have := hP.length
      unfold ones at this
      rw [List.length_map, List.length_take] at this
      omega
    by_cases hlt : i < ns'.length
    · refine .inr ⟨⟨_, _, SqL.of (sm _ _ e0), List.getElem?_eq_getElem (by omega)⟩, ?_⟩
      rintro y H'' ⟨rfl, hy⟩
      have ey := hy _ (SqL.of (sm _ _ e0))
      have ez : y = V.int ns'[i] := by
        rw [List.getElem?_map, List.getElem?_eq_getElem hlt] at ey
        exact (Option.some.inj ey).symm
      subst ez
      refine gName_in ?_
      refine tYes_in ?_
      refine iteT ?_
      refine ⟨_, rfl, _, rfl, _, _, rfl, rfl, by show 2 ≤ sizeLine; decide, fun t' ht => ?_⟩
      have nt : acc ≠ t' := ne_of_none hA ht
      refine ⟨by rw [upd_ne nt]; exact hA, by omega, _, ?_, rfl, hlt, ?_, fun b o z => ?_, upd_same⟩
      · omega
      · unfold ones
        rw [List.take_add_one, List.getElem?_eq_getElem hlt, List.map_append]
        exact paired_snoc (paired_map (fun v q ⟨b, z1, z2⟩ => ⟨b, z1, by rw [upd_ne (ne_of z2 hA (by intro z; cases z)), upd_ne (ne_of_none z2 ht)]; exact z2⟩) hP) ⟨t', rfl, by rw [upd_ne nt.symm]; exact upd_same⟩
      · rw [upd_ne (ne_of_none z hacc), upd_ne (ne_of_none (sm _ _ z) ht)]
        exact sm _ _ z
    · refine .inl ⟨⟨_, SqL.of (sm _ _ e0), by omega⟩, ?_⟩
      have ei : ns'.take i = ns' := List.take_of_length_le (by omega)
      rw [ei] at hP
      refine ⟨acc, _, rfl, .inl ⟨SqL.of hA, fun r hr' => ?_⟩⟩
      have lo : (ones ns').length = ns.length := by unfold ones; rw [List.length_map]; exact ln
      have sA : Same H (upd H' r (.tup ys)) := s0.trans (sm.trans (same_upd hr'))
      refine ⟨r, ones ns', rfl, ⟨ys, upd_same, hP.same (same_upd hr')⟩, wk_ones (pm.nodup_iff.mpr nd) pw', by omega, fun r2 d2 H2 s2 hr2 sd md ld => ?_⟩
      exact t r2 d2 H2 (sA.trans s2) hr2 sd (fun x => (md x).trans (mem_ones.trans pm.mem_iff)) (by omega)
theorem scLeft : FnScope ["self"] ["self"] (defScope sSLeft) := ⟨rfl, rfl, rfl, by decide +kernel, rfl, by decide +kernel, by decide +kernel⟩
theorem ok_left {f fW fL C : Addr} {fd fdW fdL : FuncData} (F : Fun K "left_work" "Sheet.left_work" sSLeft f fd) (T : Cl K mg C) (GW : FnOk P w K mg base CX0 6 fW fdW ["one", "other"] spDiff) (kW : keepIn K (.ref fW) = true) (bW : Binds K fdW ["one", "other"] []) (mW : mg "without" = some (.ref fW))
    (GL : FnOk P w K mg base CX0 6 fL fdL ["self"] (spLaid C)) (bL : Binds K fdL ["self"] []) (mL : Meth K C "laid_work" fL) : FnOk P w K mg base CX0 7 f fd ["self"] (spLeft C) := by
  refine F.ok scLeft (fun vs H Q E h => ?_) (fun cdv A outer s H vs Q E hr h => ?_)
  · obtain ⟨p, pw, d, ws, kvs, ns, rfl, _⟩ := h
    rfl
  · obtain ⟨p, pw, d, ws, kvs, ns, rfl, S, sh, lw, hk, nd, l64, t⟩ := h
    refine ⟨_, (pss_one (ps_ret (pe_call GW hr rfl mW kW bW .nil pass0 (pa_cons (pe_fld (pv 0) rfl) (pa_cons (pe_meth0 (pv 0) T.cl mL GL hr bL .nil pass0) pa_nil))))), ?_⟩
    obtain ⟨⟨dx, h1⟩, hw, hd⟩ := id S
    refine ⟨_, rfl, p, C, dx, _, _, rfl, h1, T.cl, T.nW, flds_work _ _, _, rfl, p, dx, _, rfl, h1, flds_no _ _ (by decide +kernel) (by decide +kernel), p, pw, d, ws, kvs, ns, rfl, S, hk, nd, l64, fun r d1 H1 s1 hr1 sd md ld => ?_⟩
    refine ⟨pw, r, ws, d1, rfl, hw.same s1, hr1, sh.wk, sd.wk, by omega, by omega, fun r2 d2 H2 s2 hr2 sd2 md2 ld2 => ?_⟩
    exact t r2 d2 H2 (s1.trans s2) hr2 sd2 (fun x => (md2 x).trans (and_congr Iff.rfl (not_congr (md x)))) (by omega)
end
end Ls

set_option maxHeartbeats 4000000
namespace Ls
open PySem L2 PySem.W
def row (vf : Int → Int) (l : Int) (n : Nat) : List V := ((List.range n).map fun (i : Nat) => vf (l + (i : Int))).map V.int
theorem row_len (vf : Int → Int) (l : Int) (n : Nat) : (row vf l n).length = n := by
  unfold row
  rw [List.length_map, List.length_map, List.length_range]
theorem row_succ (vf : Int → Int) (l : Int) (n : Nat) : row vf l (n + 1) = row vf l n ++ [V.int (vf (l + (n : Int)))] := by
  unfold row
  rw [List.range_succ, List.map_append, List.map_append]
  rfl
theorem cover : ∀ (n : Nat) (l : Int) (ns : List Int), (∀ i : Nat, i < n → l + (i : Int) ∈ ns) → n ≤ ns.length
  | 0, _, _, _ => Nat.zero_le _
  | n + 1, l, ns, h => by
    have hm := h n (by omega)
    have h1 := cover n l (ns.erase (l + (n : Int))) fun i hi => (List.mem_erase_of_ne (by omega)).mpr (h i (by omega))
    rw [List.length_erase_of_mem hm] at h1
    have := List.length_pos_of_mem hm
    omega
/-- what is told of one stretch -/
def ItemAt (vf : Int → Int) (H : Hp) (v : V) (q : Int × Int) : Prop := ∃ b c, v = .ref b ∧ H b = some (.tup [.int q.1, .ref c]) ∧ H c = some (.tup (row vf q.1 (q.2 - q.1).toNat))
theorem ItemAt.same {vf : Int → Int} {H H' : Hp} {v : V} {q : Int × Int} (e : Same H H') (h : ItemAt vf H v q) : ItemAt vf H' v q := by
  obtain ⟨b, c, z1, z2, z3⟩ := h
  exact ⟨b, c, z1, e _ _ z2, e _ _ z3⟩
/-- the numbers that are laid -/
structure Holds (vf : Int → Int) (kvs : List (Key × V)) (ns : List Int) : Prop where
  key : kvs.map (·.1) = ns.map Sum.inl
  nd : ns.Nodup
  len : ns.length < 64
  val : ∀ x ∈ ns, valV kvs (Sum.inl x : Key) = some (.int (vf x))
  lo : ∀ x ∈ ns, -(2 ^ 61) ≤ x ∧ x < 2 ^ 61
def spBetween (vf : Int → Int) (C : Addr) : Sp := fun vs H Q _ => ∃ (p pw d : Addr) (ws : Lm.Ps) (kvs : List (Key × V)) (l h : Int), vs = [.ref p, .int l, .int h] ∧ SheetAt C H p pw d ws kvs ∧ (∀ x, l ≤ x → x < h → valV kvs (Sum.inl x : Key) = some (.int (vf x))) ∧
  -(2 ^ 62) ≤ l ∧ l < h ∧ h < 2 ^ 62 ∧ h - l ≤ 1000 ∧ ∀ r H', Same H H' → H' r = some (.tup (row vf l (h - l).toNat)) → Q (.ref r) H'
def spAll (vf : Int → Int) (C : Addr) : Sp := fun vs H Q _ => ∃ (p pw d : Addr) (ws : Lm.Ps) (kvs : List (Key × V)) (ns : List Int), vs = [.ref p] ∧ SheetAt C H p pw d ws kvs ∧ Holds vf kvs ns ∧
  ∀ (r : Addr) (ds : Lm.Ps) (xs : List V) (H' : Hp), Same H H' → H r = none → H' r = some (.lst xs) → Paired (ItemAt vf H') xs ds → Lm.Sh ds → (∀ x, Lm.mem ds x ↔ x ∈ ns) → ds.length ≤ ns.length → Q (.ref r) H'
section
variable {P : Program} {w : World} {K : PySem.W.Frag} {mg : Str → Option Value} {base : Heap}
theorem scBetween : FnScope ["self", "low", "high"] ["self", "low", "high"] (defScope sSBetween) := ⟨rfl, rfl, rfl, by decide +kernel, rfl, by decide +kernel, by decide +kernel⟩
theorem ndPS : (["place", "self"] : List Str).Nodup := by decide +kernel
theorem ok_between {f C : Addr} {fd : FuncData} (vf : Int → Int) (F : Fun K "numbers_between" "Sheet.numbers_between" sSBetween f fd) (G : Gb mg) (T : Cl K mg C) : FnOk P w K mg base CX0 1 f fd ["self", "low", "high"] (spBetween vf C) := by
  refine F.ok scBetween (fun vs H Q E h => ?_) (fun cdv A outer s H vs Q E hr h => ?_)
  · obtain ⟨p, pw, d, ws, kvs, l, h, rfl, _⟩ := h
    rfl
  · obtain ⟨p, pw, d, ws, kvs, lo, hi, rfl, S, hv, b1, b2, b3, b4, t⟩ := h
    have hu := hu_of hr
    refine ⟨_, (pss_one (ps_ret (pe_callTy call_tuple_of (by rfl) G.tuple boot_t (pa_cons (pe_compF (NB := ["place", "self"]) (n := 1) (js := [0]) (g := gName 0) (te := tDGet (tFld K (tVar 1) "results") (tVar 0)) (cl := [("self", s.heap.objs.size + 1)]) rfl (by decide +kernel) (by decide +kernel) rfl
        (Takes.of rfl (all_cons rfl all_nil) (all_cons (fun z => nomatch z) (all_cons (fun z => nomatch z) (all_cons (fun _ => rfl) all_nil))) rfl
          (fun k j h => match k, j, h with | 0, _, rfl => rfl | k + 1, _, h => absurd h (by simp)) (all_cons ⟨.inl rfl, .inl rfl, rfl⟩ all_nil))
        (pi_range2 rfl G.range (pa_cons (pv 1) (pa_cons (pv 2) pa_nil))) (fun C s H fp pn => pg_name (i := 0) ndPS rfl (Or.inl rfl) (.inr rfl)) (fun C s H fp pn => pts_nil)
        (fun C s H fp pn => pe_dget (by exact hu) (pe_fld (pv 1) rfl) (pv 0) (fun _ _ => rfl))) pa_nil)))), ?_⟩
    have sl : sizeLine = 16777216 := sizeLine_eq
    obtain ⟨⟨dx, h1⟩, hw, hd⟩ := id S
    refine ⟨_, rfl, _, rfl, lo, hi, rfl, ⟨b1, by omega, by omega, b3⟩, fun acc hacc => ?_⟩
    refine ⟨fun i m ys H' => m = (hi - lo).toNat - i ∧ i ≤ (hi - lo).toNat ∧ ys = row vf lo i ∧ Same H H' ∧ H' acc = some (.lst ys), ⟨_, rfl, Nat.zero_le _, rfl, same_upd hacc, upd_same⟩, ?_⟩
    rintro i m ys H' ⟨rfl, hi', rfl, sm, hA⟩
    refine ⟨hA, ?_⟩
    by_cases hlt : i < (hi - lo).toNat
    · refine .inr ⟨hlt, ?_⟩
      rintro y H'' ⟨rfl, rfl⟩
      refine gName_in ?_
      refine ⟨rfl, ?_⟩
      refine tYes_in ?_
      refine iteT ?_
      have ev := hv (lo + i) (by omega) (by omega)
      have dg : DGet H'' d (.int (lo + i)) (some (.int (vf (lo + i)))) := by
        have := DGet.k (k := (Sum.inl (lo + i) : Key)) (sm _ _ hd)
        rw [ev] at this
        exact this
      refine ⟨_, rfl, p, C, dx, _, _, rfl, sm _ _ h1, T.cl, T.nR, flds_res _ _, _, rfl, d, _, rfl, dg, hA, by rw [row_len]; omega, _, ?_, rfl, hlt, ?_, fun b o z => ?_, upd_same⟩
      · omega
      · rw [row_succ]
      · rw [upd_ne (ne_of_none z hacc)]
        exact sm _ _ z
    · refine .inl ⟨by show (hi - lo).toNat ≤ i; omega, ?_⟩
      have ei : i = (hi - lo).toNat := by omega
      rw [ei] at hA
      refine ⟨acc, _, rfl, .inl ⟨SqL.of hA, fun r hr' => ?_⟩⟩
      exact t r _ (sm.trans (same_upd hr')) upd_same
theorem scAll : FnScope ["self"] ["self"] (defScope sSAll) := ⟨rfl, rfl, rfl, by decide +kernel, rfl, by decide +kernel, by decide +kernel⟩
theorem ndLS : (["low", "high", "self"] : List Str).Nodup := by decide +kernel
theorem ok_all {f fL fB C : Addr} {fd fdL fdB : FuncData} (vf : Int → Int) (F : Fun K "all_results" "Sheet.all_results" sSAll f fd) (G : Gb mg) (T : Cl K mg C) (GL : FnOk P w K mg base CX0 6 fL fdL ["self"] (spLaid C)) (bL : Binds K fdL ["self"] []) (mL : Meth K C "laid_work" fL)
    (GB : FnOk P w K mg base CX0 1 fB fdB ["self", "low", "high"] (spBetween vf C)) (bB : Binds K fdB ["self", "low", "high"] []) (mB : Meth K C "numbers_between" fB) : FnOk P w K mg base CX0 7 f fd ["self"] (spAll vf C) := by
  refine F.ok scAll (fun vs H Q E h => ?_) (fun cdv A outer s H vs Q E hr h => ?_)
  · obtain ⟨p, pw, d, ws, kvs, ns, rfl, _⟩ := h
    rfl
  · obtain ⟨p, pw, d, ws, kvs, ns, rfl, S, hh, t⟩ := h
    have hr1 : Room 1 _ := hr.mono (by decide)
    refine ⟨_, (pss_one (ps_ret (pe_compF (NB := ["low", "high", "self"]) (n := 2) (js := [0]) (g := gTup K 2 (gCons (gName 0) (gCons (gName 1) gNil))) (cl := [("self", s.heap.objs.size + 1)]) rfl (by decide +kernel) (by decide +kernel) rfl
        (Takes.of rfl (all_cons rfl all_nil) (all_cons (fun z => nomatch z) (all_cons (fun z => nomatch z) (all_cons (fun z => nomatch z) (all_cons (fun _ => rfl) all_nil)))) rfl
          (fun k j h => match k, j, h with | 0, _, rfl => rfl | k + 1, _, h => absurd h (by simp)) (all_cons ⟨.inl rfl, .inl rfl, rfl⟩ all_nil))
        (pi_tup (pe_meth0 (pv 0) T.cl mL GL hr bL .nil pass0)) (fun C s H fp pn => pg_tup (n := 2) rfl (pgs_cons (pg_name (i := 0) ndLS rfl (Or.inl rfl) (.inr rfl)) (pgs_cons (pg_name (i := 1) ndLS rfl (Or.inl rfl) (.inr rfl)) pgs_nil))) (fun C s H fp pn => pts_nil)
        (fun C s H fp pn => pe_tup (pa_cons (pv 0) (pa_cons (pe_meth (pv 2) T.cl mB GB hr1 bB .nil pass0 (pa_cons (pv 0) (pa_cons (pv 1) pa_nil))) pa_nil)))))), ?_⟩
    have sl : sizeLine = 16777216 := sizeLine_eq
    obtain ⟨⟨dx, h1⟩, hw, hd⟩ := id S
    refine ⟨_, rfl, p, dx, _, rfl, h1, flds_no _ _ (by decide +kernel) (by decide +kernel), p, pw, d, ws, kvs, ns, rfl, S, hh.key, hh.nd, hh.len, fun r ds H1 s1 hr1' sd md ld => ?_⟩
    obtain ⟨xs, x1, x2⟩ := id hr1'
    have hlen := hh.len
    have lx : xs.length = ds.length := x2.length
    refine ⟨r, rfl, ⟨_, SqT.of x1⟩, fun acc hacc => ?_⟩
    have hacc0 : H acc = none := s1.free hacc
    refine ⟨fun i m ys H' => m = xs.length - i ∧ i ≤ xs.length ∧ Paired (ItemAt vf H') ys (ds.take i) ∧ Same H1 H' ∧ H' acc = some (.lst ys), ⟨_, rfl, Nat.zero_le _, .nil, same_upd hacc, upd_same⟩, ?_⟩
    rintro i m ys H' ⟨rfl, hi, hP, sm, hA⟩
    refine ⟨hA, ?_⟩
    have ly : ys.length = i := by
      have := hP.length
      rw [List.length_take] at this
      omega
    by_cases hlt : i < xs.length
    · refine .inr ⟨⟨xs, _, SqT.of (sm _ _ x1), List.getElem?_eq_getElem hlt⟩, ?_⟩
      rintro y H'' ⟨rfl, hy⟩
      have ey := hy xs (SqT.of (sm _ _ x1))
      obtain ⟨q, hq, b', rfl, hb'⟩ := paired_get x2 ey
      have hqm : q ∈ ds := List.mem_of_getElem? hq
      have qlt : q.1 < q.2 := sd.lt q hqm
      have qns : ∀ x, q.1 ≤ x → x < q.2 → x ∈ ns := fun x z1 z2 => (md x).mp ⟨q, hqm, z1, z2⟩
      have cv := cover (q.2 - q.1).toNat q.1 ns fun i hi => qns _ (by omega) (by omega)
      have q1 := hh.lo _ (qns q.1 (by omega) qlt)
      have q2 := hh.lo _ (qns (q.2 - 1) (by omega) (by omega))
      refine ⟨b', _, rfl, SqT.of (sm _ _ hb'), rfl, _, _, rfl, _, _, rfl, rfl, rfl, ?_⟩
      refine tYes_in ?_
      refine iteT ?_
      have S' := S.same (s1.trans sm)
      refine ⟨_, rfl, _, rfl, p, dx, _, rfl, sm _ _ (s1 _ _ h1), flds_no _ _ (by decide +kernel) (by decide +kernel), _, rfl, _, rfl, p, pw, d, ws, kvs, q.1, q.2, rfl, S', fun x z1 z2 => hh.val x (qns x z1 z2), by omega, qlt, by omega, by omega, fun c H2 s2 hc => ?_⟩
      refine ⟨by show 2 ≤ sizeLine; decide, fun t' ht => ?_⟩
      have hA2 : H2 acc = some (.lst ys) := s2 _ _ hA
      have nt : acc ≠ t' := ne_of_none hA2 ht
      have nc : c ≠ acc := ne_of hc hA2 (by intro z; cases z)
      have st : Same H2 (upd H2 t' (.tup [.int q.1, .ref c])) := same_upd ht
      have keep : ∀ b xs', H2 b = some (.tup xs') → (upd (upd H2 t' (.tup [.int q.1, .ref c])) acc (.lst (ys ++ [.ref t']))) b = some (.tup xs') := fun b xs' e => by
        rw [upd_ne (ne_of e hA2 (by intro z; cases z))]
        exact st _ _ e
      refine ⟨by rw [upd_ne nt]; exact hA2, by omega, _, ?_, rfl, hlt, ?_, fun b o z => ?_, upd_same⟩
      · omega
      · rw [List.take_add_one, hq]
        exact paired_snoc (paired_map (fun v q ⟨b, c, z1, z2, z3⟩ => ⟨b, c, z1, keep _ _ (s2 _ _ z2), keep _ _ (s2 _ _ z3)⟩) hP) ⟨t', c, rfl, by rw [upd_ne nt.symm]; exact upd_same, keep _ _ hc⟩
      · rw [upd_ne (ne_of_none z hacc), upd_ne (ne_of_none (s2 _ _ (sm _ _ z)) ht)]
        exact s2 _ _ (sm _ _ z)
    · refine .inl ⟨⟨xs, SqT.of (sm _ _ x1), by omega⟩, ?_⟩
      have ei : ds.take i = ds := List.take_of_length_le (by omega)
      rw [ei] at hP
      exact t acc ds ys H' (s1.trans sm) hacc0 hA hP sd md ld
end
end Ls

set_option maxHeartbeats 4000000
namespace L2
open PySem PySem.Spec PyProof.Rows
theorem Fun.okE {P : Program} {w : World} {K : PySem.W.Frag} {mg : Str → Option Value} {base : Heap} {x qual : Str} {st : Stmt} {f : Addr} {fd : FuncData} {N ps : List Str} {k : Nat} {sp : Sp} (F : Fun K x qual st f fd) (S : FnScope N ps (defScope st)) (len : ∀ vs H Q E, sp vs H Q E → vs.length = ps.length)
    (hbody : ∀ (cdv : Value) (A : Around) (outer : List Env) (s : Shared) (H : Hp) (vs : List V) (Q : VK) (E : XK), Room k (A.deeper (envOfC qual (defScope st) s.heap.objs.size f cdv)) → sp vs H Q E →
      ∃ t, PSs (cxOf (CXE P w) P w K mg base N qual (defScope st) f cdv A outer s H E) (defBody st) t ∧ t { nx := fun _ H' => Q .non H', rt := Q } (start N vs) H) : FnOk P w K mg base (CXE P w) (k + 1) f fd ps sp := by
  obtain ⟨oc, od, kV, doc, pm, an, cdv, ct, osl, rfl, lk, hcd⟩ := F.ex
  exact fn_of lk hcd S len fun A outer s H vs Q E hr hsp => hbody cdv A outer s H vs Q E hr hsp
theorem for_enum {K : PySem.W.Frag} {a : Addr} {d : Int} {xs : List V} {g : TG} {tb : TS} {D : Ends} {σ : St} {H : Hp} (Pv : Nat → St → Hp → Prop) (h0 : Pv 0 σ H) (hl : ∀ i σ H, i ≤ xs.length → Pv i σ H → SqT K H a xs)
    (hs : ∀ i x σ H t, xs[i]? = some x → Pv i σ H → H t = none → g (.ref t) σ (upd H t (.tup [.int (d + i), x])) fun σ2 H2 => tb { D with nx := Pv (i + 1), ct := Pv (i + 1), bk := D.nx } σ2 H2) (hd : ∀ σ H, Pv xs.length σ H → D.nx σ H) :
    ∃ W : Nat → Nat → St → Hp → Prop, (∃ m, W 0 m σ H) ∧ ∀ i m σ H, W i m σ H →
      ((Ite K a d).stop i H ∧ D.nx σ H) ∨ ((Ite K a d).go i H ∧ ∃ N : St → Hp → Prop, (∀ σ' H', N σ' H' → ∃ m', m' < m ∧ W (i + 1) m' σ' H') ∧ ∀ x H', (Ite K a d).yld i H x H' → g x σ H' fun σ2 H2 => tb { D with nx := N, ct := N, bk := D.nx } σ2 H2) := by
  refine ⟨fun i m σ H => m = xs.length - i ∧ i ≤ xs.length ∧ Pv i σ H, ⟨xs.length, by simp, Nat.zero_le _, h0⟩, ?_⟩
  rintro i m σ H ⟨rfl, hi, p⟩
  have q := hl i σ H hi p
  by_cases hlt : i < xs.length
  · refine .inr ⟨⟨xs, xs[i], q, by simp [hlt]⟩, Pv (i + 1), fun σ' H' p' => ⟨xs.length - (i + 1), by omega, rfl, hlt, p'⟩, fun x H' y => ?_⟩
    obtain ⟨t, v, ht, rfl, rfl, y⟩ := y
    exact hs i v σ _ t (y xs q) p ht
  · have e : i = xs.length := by omega
    subst e
    exact .inl ⟨⟨xs, q, Nat.le_refl _⟩, hd σ H p⟩
end L2
namespace Ls
open PySem L2 PySem.W
def entN (l : Int) (ns : List Int) (i : Nat) : List (Key × V) := (List.range i).map fun (k : Nat) => ((Sum.inl (l + (k : Int)) : Key), V.int (ns.getD k 0))
theorem entN_len (l : Int) (ns : List Int) (i : Nat) : (entN l ns i).length = i := by
  unfold entN
  rw [List.length_map, List.length_range]
theorem entN_succ (l : Int) (ns : List Int) (i : Nat) : entN l ns (i + 1) = entN l ns i ++ [(Sum.inl (l + (i : Int)), V.int (ns.getD i 0))] := by
  unfold entN
  rw [List.range_succ, List.map_append]
  rfl
theorem valV_none {kvs : List (Key × V)} {k : Key} : valV kvs k = none ↔ ∀ e ∈ kvs, e.1 ≠ k := by
  unfold valV
  rw [Option.map_eq_none_iff, List.find?_eq_none]
  constructor
  · intro h e he z
    exact h e he (by rw [z]; simp)
  · intro h e he z
    exact h e he (of_decide_eq_true z)
theorem entN_new {kvs : List (Key × V)} {l : Int} {ns : List Int} {i : Nat} (h : valV kvs (Sum.inl (l + (i : Int)) : Key) = none) : valV (kvs ++ entN l ns i) (Sum.inl (l + (i : Int)) : Key) = none := by
  rw [valV_none] at h ⊢
  intro e he
  rcases List.mem_append.mp he with z | z
  · exact h e z
  · obtain ⟨k, hk, rfl⟩ := List.mem_map.mp z
    intro z
    have := Sum.inl.inj z
    have := List.mem_range.mp hk
    omega
/-- a sheet where only its numbers have changed -/
theorem SheetAt.put {C : Addr} {H H' : Hp} {p pw d : Addr} {ws : Lm.Ps} {kvs kvs' : List (Key × V)} (h : SheetAt C H p pw d ws kvs) (e : H' d = some (.dK kvs')) (k : ∀ b o, H b = some o → b ≠ d → H' b = some o) : SheetAt C H' p pw d ws kvs' := by
  obtain ⟨⟨dx, h1⟩, ⟨xs, x1, x2⟩, h3⟩ := h
  refine ⟨⟨dx, k _ _ h1 (ne_of h1 h3 (by intro z; cases z))⟩, ⟨xs, k _ _ x1 (ne_of x1 h3 (by intro z; cases z)), ?_⟩, e⟩
  exact paired_map (fun v q ⟨b, z1, z2⟩ => ⟨b, z1, k _ _ z2 (ne_of z2 h3 (by intro z; cases z))⟩) x2
/-- the class of the refusal -/
structure Tw (K : Frag) (mg : Str → Option Value) (CT : Addr) : Prop where
  mT : mg "Twice" = some (.ref CT)
  ex : ExcIs K CT
theorem fits_ok {d : Int} (h1 : -(2 ^ 61) ≤ d) (h2 : d ≤ 2 ^ 61) : Builtin.SmallTypes.fitsIndex d = true := by
  unfold Builtin.SmallTypes.fitsIndex
  rw [Bool.and_eq_true]
  exact ⟨decide_eq_true (by omega), decide_eq_true (by omega)⟩
section
variable {P : Program} {w : World} {K : PySem.W.Frag} {mg : Str → Option Value} {base : Heap}
theorem scLay : FnScope ["self", "place", "numbers", "at", "number"] ["self", "place", "numbers"] (defScope sSLay) := ⟨rfl, rfl, rfl, by decide +kernel, rfl, by decide +kernel, by decide +kernel⟩
end
end Ls

set_option maxHeartbeats 4000000
namespace Ls
open PySem L2 PySem.W
def AnyRow (ws : Lm.Ps) (l : Int) (n : Nat) : Prop := ∃ q ∈ ws, q.1 ≤ l ∧ l + n ≤ q.2
/-- the class of the other refusal -/
structure Bp (K : Frag) (mg : Str → Option Value) (CB : Addr) : Prop where
  mB : mg "BadPlace" = some (.ref CB)
  ex : ExcIs K CB
def spLayG (C CB CT : Addr) : Sp := fun vs H Q E => ∃ (p pw d t : Addr) (ws : Lm.Ps) (kvs : List (Key × V)) (l : Int) (ns : List Int), vs = [.ref p, .int l, .ref t] ∧ SheetAt C H p pw d ws kvs ∧ H t = some (.tup (ns.map V.int)) ∧ ws.length ≤ 1000 ∧ ns.length ≤ 1000 ∧ kvs.length ≤ 1000 ∧
  -(2 ^ 61) ≤ l ∧ l + ns.length ≤ 2 ^ 61 ∧
  ((ns = [] ∨ AnyRow ws l ns.length) → (∀ i : Nat, i < ns.length → valV kvs (Sum.inl (l + (i : Int)) : Key) = none) → ∀ H', H' d = some (.dK (kvs ++ entN l ns ns.length)) → (∀ b o, H b = some o → b ≠ d → H' b = some o) → Q .non H') ∧
  ((ns = [] ∨ AnyRow ws l ns.length) → (∃ i : Nat, i < ns.length ∧ valV kvs (Sum.inl (l + (i : Int)) : Key) ≠ none) → ∀ H', Same H H' → E (.ref CT) none H') ∧
  (ns ≠ [] → ¬ AnyRow ws l ns.length → ∀ H', Same H H' → E (.ref CB) none H')
/-- what a sheet tells of one place -/
def spRes (C : Addr) : Sp := fun vs H Q _ => ∃ (p pw d : Addr) (ws : Lm.Ps) (kvs : List (Key × V)) (x : V), vs = [.ref p, x] ∧ SheetAt C H p pw d ws kvs ∧ Knd H x ∧ (wholeB x = false → Q .non H) ∧ (∀ i, x = .int i → Q ((valV kvs (Sum.inl i : Key)).getD .non) H)
section
variable {P : Program} {w : World} {K : PySem.W.Frag} {mg : Str → Option Value} {base : Heap}
theorem scRes : FnScope ["self", "place"] ["self", "place"] (defScope sSRes) := ⟨rfl, rfl, rfl, by decide +kernel, rfl, by decide +kernel, by decide +kernel⟩
theorem ok_res {f C fW : Addr} {fd fdW : FuncData} (F : Fun K "result_at" "Sheet.result_at" sSRes f fd) (T : Cl K mg C)
    (GW : FnOk P w K mg base CX0 1 fW fdW ["thing"] spWhole) (kW : keepIn K (.ref fW) = true) (bW : Binds K fdW ["thing"] []) (mW : mg "is_whole" = some (.ref fW)) : FnOk P w K mg base CX0 2 f fd ["self", "place"] (spRes C) := by
  refine F.ok scRes (fun vs H Q E h => ?_) (fun cdv A outer s H vs Q E hr h => ?_)
  · obtain ⟨p, pw, d, ws, kvs, x, rfl, _⟩ := h
    rfl
  · obtain ⟨p, pw, d, ws, kvs, x, rfl, S, kx, no, yes⟩ := h
    have hu := hu_of hr
    refine ⟨_, pss_cons (ps_if (pt_not (pt_val (pe_call GW hr rfl mW kW bW .nil pass0 (pa_cons (pv 1) pa_nil)))) (pss_one (ps_ret pe_non)) pss_nil) (pss_one (ps_ret (pe_dget1 hu (pe_fld (pv 0) rfl) (pv 1) (by constructor <;> rfl)))), ?_⟩
    obtain ⟨⟨dx, h1⟩, hw, hd⟩ := id S
    refine ⟨_, rfl, _, rfl, kx, _, rfl, ?_⟩
    cases hx : wholeB x with
    | false => exact iteT (no hx)
    | true =>
      refine iteF ?_
      obtain ⟨i, rfl⟩ : ∃ i, x = .int i := by
        cases x <;> first | exact ⟨_, rfl⟩ | cases hx
      exact ⟨_, rfl, p, C, dx, _, _, rfl, h1, T.cl, T.nR, flds_res _ _, d, rfl, .inl ⟨kvs, .inl hd⟩, _, rfl, _, DGet.k (k := Sum.inl i) hd, yes i rfl⟩
theorem ok_layG {f C CB CT fW fN fH : Addr} {fd fdW fdN fdH : FuncData} (F : Fun K "lay" "Sheet.lay" sSLay f fd) (G : Gb mg) (T : Cl K mg C) (TW : Tw K mg CT) (TB : Bp K mg CB)
    (GW : FnOk P w K mg base CX0 1 fW fdW ["thing"] spWhole) (kW : keepIn K (.ref fW) = true) (bW : Binds K fdW ["thing"] []) (mW : mg "is_whole" = some (.ref fW))
    (GN : FnOk P w K mg base CX0 2 fN fdN ["thing"] spNums) (kN : keepIn K (.ref fN) = true) (bN : Binds K fdN ["thing"] []) (mN : mg "is_numbers" = some (.ref fN))
    (GH : FnOk P w K mg base CX0 1 fH fdH ["self", "first", "behind"] (spHolds C)) (bH : Binds K fdH ["self", "first", "behind"] []) (mH : Meth K C "holds_row" fH) : FnOk P w K mg base (CXE P w) 3 f fd ["self", "place", "numbers"] (spLayG C CB CT) := by
  refine F.okE scLay (fun vs H Q E h => ?_) (fun cdv A outer s H vs Q E hr h => ?_)
  · obtain ⟨p, pw, d, t, ws, kvs, l, ns, rfl, _⟩ := h
    rfl
  · obtain ⟨p, pw, d, t, ws, kvs, l, ns, rfl, S, ht, lw, ln, lk, b1, b2, yes, no, bad⟩ := h
    have hu := hu_of hr
    have hr1 : Room 1 _ := hr.mono (by decide)
    refine ⟨_, pss_cons (ps_if (PW.pt (pw_or (pt_not (pt_val (pe_call GW hr1 rfl mW kW bW .nil pass0 (pa_cons (pv 1) pa_nil)))) (pw_or1 (pt_not (pt_val (pe_call GN hr rfl mN kN bN .nil pass0 (pa_cons (pv 2) pa_nil))))))) (pss_one ps_never) pss_nil)
      (pss_cons (ps_if (PW.pt (pw_and (pt_truth (pv 2) (fun _ => rfl)) (pw_and1 (pt_not (pt_val (pe_meth (pv 0) T.cl mH GH hr1 bH .nil pass0 (pa_cons (pv 1) (pa_cons (pe_op op_add (pv 1) (pe_callB call_len_seq (by rfl) G.len PySem.boot_len (pa_cons (pv 2) pa_nil))) pa_nil)))))))) (pss_one (ps_raise rfl TB.ex rfl TB.mB raises_here (pa_cons pe_str pa_nil))) pss_nil)
      (pss_cons (ps_for PassesOwn.leaving rfl (pi_range2 rfl G.range (pa_cons (pv 1) (pa_cons (pe_op op_add (pv 1) (pe_callB call_len_seq (by rfl) G.len PySem.boot_len (pa_cons (pv 2) pa_nil))) pa_nil))) (pg_name (i := 3) scLay.nd rfl (Or.inl rfl))
        (pss_one (ps_if (pt_cmp (pc_din hu (pv 3) (pe_fld (pv 0) rfl))) (pss_one (ps_raise rfl TW.ex rfl TW.mT raises_here (pa_cons pe_str pa_nil))) pss_nil)))
      (pss_one (ps_for PassesOwn.leaving rfl (pi_enum (by rfl) G.enum boot_enum (pa_cons (pv 2) pa_nil) (pk_cons (pv 1) pk_nil)) (pg_tup (n := 2) rfl (pgs_cons (pg_name (i := 3) scLay.nd rfl (Or.inl rfl)) (pgs_cons (pg_name (i := 4) scLay.nd rfl (Or.inl rfl)) pgs_nil)))
        (pss_one (ps_dput hu (pe_fld (pv 0) rfl) (pv 3) (pv 4) rfl)))))), ?_⟩
    have sl : sizeLine = 16777216 := sizeLine_eq
    have lm : (ns.map V.int).length = ns.length := List.length_map ..
    refine ⟨_, rfl, _, rfl, .kn (.int _), _, rfl, iteF ?_⟩
    refine ⟨_, rfl, t, ns, rfl, ht, ln, fun H1 s1 => ⟨_, rfl, iteF ?_⟩⟩
    have S1 := S.same s1
    obtain ⟨⟨dx, h1⟩, hw, hd⟩ := id S1
    have ht1 : H1 t = some (.tup (ns.map V.int)) := s1 _ _ ht
    refine ⟨_, rfl, !(ns.map V.int).isEmpty, .inr (.inl ⟨_, SqT.of ht1, rfl⟩), ?_⟩
    have em : ∀ {b : Bool}, (!(ns.map V.int).isEmpty) = b → (b = true ↔ ns ≠ []) := fun {b} hb => by
      subst hb
      cases ns <;> simp
    refine ite2 (fun hc => ?_) (fun hc => ?_)
    have hne : ns ≠ [] := (em rfl).mp hc
    refine ⟨_, rfl, p, dx, _, rfl, h1, flds_no _ _ (by decide +kernel) (by decide +kernel), _, rfl, _, rfl, _, rfl, t, _, rfl, .inr (SqT.of ht1), _, _, rfl, rfl, p, pw, d, ws, kvs, l, _, rfl, S1, lw, fun H2 s2 => ⟨_, rfl, ?_⟩⟩
    refine ite2 (fun hn => ?_) (fun hn => ?_)
    · refine ⟨by show 1 ≤ sizeLine; decide, bad hne ?_ _ (s1.trans s2)⟩
      rintro ⟨q, hq, q1, q2⟩
      have z : (ws.any fun q => decide (q.1 ≤ l) && decide (l + (((ns.map V.int).length : Nat) : Int) ≤ q.2)) = true := List.any_eq_true.mpr ⟨q, hq, show (decide (q.1 ≤ l) && decide (l + (((ns.map V.int).length : Nat) : Int) ≤ q.2)) = true by rw [decide_eq_true q1, decide_eq_true (by rw [lm]; exact q2)]; rfl⟩
      rw [z] at hn
      cases hn
    have hany : (ws.any fun q => decide (q.1 ≤ l) && decide (l + (((ns.map V.int).length : Nat) : Int) ≤ q.2)) = true := by
      cases z : (ws.any fun q => decide (q.1 ≤ l) && decide (l + (((ns.map V.int).length : Nat) : Int) ≤ q.2)) with
      | true => rfl
      | false => exact absurd (by rw [z]; rfl) hn
    obtain ⟨q, hq, hq2⟩ := List.any_eq_true.mp hany
    rw [Bool.and_eq_true] at hq2
    have q1 := of_decide_eq_true hq2.1
    have q2 := of_decide_eq_true hq2.2
    rw [lm] at q2
    have ar : ns = [] ∨ AnyRow ws l ns.length := .inr ⟨q, hq, q1, q2⟩
    have s02 := s1.trans s2
    rotate_left
    refine iteF ?_
    have ar : ns = [] ∨ AnyRow ws l ns.length := .inl (by
      by_cases z : ns = []
      · exact z
      · exact absurd ((em rfl).mpr z) hc)
    have s02 := s1
    all_goals
      have gt := s02 _ _ ht
      refine ⟨_, rfl, _, rfl, _, rfl, t, _, rfl, .inr (SqT.of gt), _, _, rfl, rfl, l, _, rfl, ⟨by omega, by omega, by rw [lm]; omega, by rw [lm]; omega⟩, for_range (lo := l) (n := (l + (((ns.map V.int).length : Nat) : Int) - l).toNat)
        (fun i σ H3 => Same H H3 ∧ (∃ v, σ = [some (.ref p), some (.int l), some (.ref t), v, none]) ∧ ∀ j : Nat, j < i → valV kvs (Sum.inl (l + (j : Int)) : Key) = none) ⟨s02, ⟨_, rfl⟩, fun j hj => absurd hj (Nat.not_lt_zero _)⟩ ?_ ?_⟩
      · rintro i σ H3 hi ⟨sm, ⟨v, rfl⟩, hall⟩
        rw [lm] at hi
        obtain ⟨⟨dx3, g1⟩, gw, gd⟩ := S.same sm
        refine ⟨_, rfl, _, rfl, p, C, dx3, _, _, rfl, g1, T.cl, T.nR, flds_res _ _, d, _, rfl, DGet.k (k := Sum.inl (l + (i : Int))) gd, _, rfl, ?_⟩
        cases e : valV kvs (Sum.inl (l + (i : Int)) : Key) with
        | some v =>
          refine iteT ?_
          exact ⟨by show 1 ≤ sizeLine; decide, no ar ⟨i, by omega, by rw [e]; simp⟩ _ sm⟩
        | none =>
          refine iteF ?_
          refine ⟨sm, ⟨_, rfl⟩, fun j hj => ?_⟩
          by_cases hji : j < i
          · exact hall j hji
          · have : j = i := by omega
            rw [this]
            exact e
      · rintro σ H3 ⟨sm, ⟨v, rfl⟩, hall⟩
        rw [lm] at hall
        have hall' : ∀ j : Nat, j < ns.length → valV kvs (Sum.inl (l + (j : Int)) : Key) = none := fun j hj => hall j (by omega)
        obtain ⟨⟨dx3, g1⟩, gw, gd⟩ := S.same sm
        have hd0 := S.dc
        obtain ⟨dx0, hp0⟩ := S.ob
        have ntd : t ≠ d := ne_of ht hd0 (by intro z; cases z)
        have npd : p ≠ d := ne_of hp0 hd0 (by intro z; cases z)
        refine ⟨_, rfl, _, rfl, t, l, rfl, rfl, fits_ok b1 (by omega), ⟨_, SqT.of (sm _ _ ht)⟩, for_enum (K := K) (a := t) (d := l) (xs := ns.map V.int)
          (fun i σ H4 => (∃ u v, σ = [some (.ref p), some (.int l), some (.ref t), u, v]) ∧ H4 d = some (.dK (kvs ++ entN l ns i)) ∧ ∀ b o, H b = some o → b ≠ d → H4 b = some o)
          ⟨⟨_, _, rfl⟩, by rw [gd]; simp [entN], fun b o e hb => sm _ _ e⟩ (fun i σ H4 _ ⟨_, _, kk⟩ => SqT.of (kk _ _ ht ntd)) ?_ ?_⟩
        · rintro i x σ H4 t' hi ⟨⟨u, v', rfl⟩, hdd, kk⟩ ht'
          have hil : i < ns.length := by
            have := (List.getElem?_eq_some_iff.mp hi).1
            omega
          have ex : x = V.int (ns.getD i 0) := by
            rw [List.getElem?_map, List.getElem?_eq_getElem hil] at hi
            rw [← Option.some.inj hi, List.getD_eq_getElem?_getD, List.getElem?_eq_getElem hil]
            rfl
          subst ex
          have ndt : d ≠ t' := ne_of_none hdd ht'
          have npt : p ≠ t' := ne_of_none (kk _ _ hp0 npd) ht'
          refine ⟨t', _, rfl, SqT.of upd_same, rfl, _, _, rfl, _, _, rfl, rfl, ?_⟩
          refine ⟨_, rfl, _, rfl, p, C, dx0, _, _, rfl, (by rw [upd_ne npt]; exact kk _ _ hp0 npd), T.cl, T.nR, flds_res _ _, _, rfl, d, _, rfl, DPut.k (k := Sum.inl (l + (i : Int))) (by rw [upd_ne ndt]; exact hdd) (by rw [List.length_append, entN_len]; omega), ?_⟩
          refine ⟨⟨_, _, rfl⟩, ?_, fun b o e hb => ?_⟩
          · rw [upd_same, putK_new _ (entN_new (hall' i hil)), List.append_assoc, ← entN_succ]
          · rw [upd_ne hb, upd_ne (ne_of_none (kk b o e hb) ht')]
            exact kk b o e hb
        · rintro σ H4 ⟨_, hdd, kk⟩
          rw [lm] at hdd
          exact yes ar hall' H4 hdd kk
end
end Ls

set_option maxHeartbeats 4000000
namespace Ls
open PySem L2 PySem.W

/-! ### the tape of draws -/
def Wl (H : Hp) (w : Addr) : Prop := ∃ a b c : Int, H w = some (.lst [.int a, .int b, .int c])
/-- nothing changes but the tape -/
structure Kp (w : Addr) (H H' : Hp) : Prop where
  at_ : ∀ x o, x ≠ w → H x = some o → H' x = some o
  wl : Wl H' w
theorem Kp.refl {w : Addr} {H : Hp} (h : Wl H w) : Kp w H H := ⟨fun _ _ _ e => e, h⟩
theorem Kp.trans {w : Addr} {H H1 H2 : Hp} (a : Kp w H H1) (b : Kp w H1 H2) : Kp w H H2 := ⟨fun x o n e => b.at_ x o n (a.at_ x o n e), b.wl⟩
theorem Wl.ne {w p : Addr} {H : Hp} (h : Wl H w) (n : H p = none) : w ≠ p := by
  obtain ⟨a, b, c, e⟩ := h
  exact ne_of_none e n
theorem Wl.same {w : Addr} {H H' : Hp} (h : Wl H w) (e : Same H H') : Wl H' w := by
  obtain ⟨a, b, c, z⟩ := h
  exact ⟨a, b, c, e _ _ z⟩
theorem Kp.same {w : Addr} {H H1 H2 : Hp} (a : Kp w H H1) (e : Same H1 H2) : Kp w H H2 := ⟨fun x o n z => e _ _ (a.at_ x o n z), a.wl.same e⟩
theorem Kp.tup {w x : Addr} {H H' : Hp} {xs : List V} (k : Kp w H H') (hw : Wl H w) (e : H x = some (.tup xs)) : H' x = some (.tup xs) := by
  obtain ⟨a, b, c, z⟩ := hw
  exact k.at_ x _ (ne_of e z (by intro q; cases q)) e
theorem Kp.upd {w p : Addr} {H H' : Hp} {o : HO} (k : Kp w H H') (n : p ≠ w) (e : H p = none) : Kp w H (upd H' p o) := by
  refine ⟨fun x u nx z => ?_, ?_⟩
  · rw [upd_ne (ne_of_none z e)]
    exact k.at_ x u nx z
  · obtain ⟨a, b, c, z⟩ := k.wl
    exact ⟨a, b, c, by rw [upd_ne n.symm]; exact z⟩
theorem pick {ns : List Int} {i : Int} (h0 : 0 ≤ i) (h1 : i < ns.length) : ∃ z, z ∈ ns ∧ atI (ns.map V.int) i = some (.int z) := by
  obtain ⟨k, rfl⟩ := Int.eq_ofNat_of_zero_le h0
  have hk : k < ns.length := by omega
  exact ⟨ns[k], List.getElem_mem hk, atI_nat (by rw [List.getElem?_map, List.getElem?_eq_getElem hk]; rfl)⟩
def spCell (K : Frag) : Sp := fun vs H Q _ => ∃ (a : Addr) (ns : List Int) (k : Nat), vs = [.ref a, .int k] ∧ SqL K H a (ns.map V.int) ∧ ns.length ≤ 63 ∧ ∀ c, Q (.int c) H
def spTape : Sp := fun vs H Q _ => ∃ (c : Int), vs = [.int c] ∧ ∀ w H', Same H H' → H w = none → Wl H' w → Q (.ref w) H'
def spTake : Sp := fun vs H Q _ => ∃ (w : Addr) (m : Int), vs = [.ref w, .int m] ∧ Wl H w ∧ 0 < m ∧ m < 2 ^ 64 ∧ ∀ r H', Kp w H H' → 0 ≤ r → r < m → Q (.int r) H'
def spStart : Sp := fun vs H Q _ => ∃ (w : Addr), vs = [.ref w] ∧ Wl H w ∧ ∀ r H', Kp w H H' → -200000000000000000 ≤ r → r ≤ 200000000000000000 → Q (.int r) H'
section
variable {P : Program} {w : World} {K : PySem.W.Frag} {mg : Str → Option Value} {base : Heap}
theorem scCell : FnScope ["_law_script", "_law_at"] ["_law_script", "_law_at"] (defScope sCell) := ⟨rfl, rfl, rfl, by decide +kernel, rfl, by decide +kernel, by decide +kernel⟩
theorem ok_cell {f : Addr} {fd : FuncData} (F : Fun K "_law_cell_at" "_law_cell_at" sCell f fd) (G : Gb mg) : FnOk P w K mg base CX0 1 f fd ["_law_script", "_law_at"] (spCell K) := by
  refine F.ok scCell (fun vs H Q E h => ?_) (fun cdv A outer s H vs Q E hr h => ?_)
  · obtain ⟨a, ns, k, rfl, _⟩ := h
    rfl
  · obtain ⟨a, ns, k, rfl, hS, hl, q⟩ := h
    refine ⟨_, pss_cons (ps_if (pt_cmpR op_lt (pv 1) (pe_callB call_len_seq (by rfl) G.len PySem.boot_len (pa_cons (pv 0) pa_nil)) (nomark _)) (pss_one (ps_ret (pe_ix ix_list (pv 0) (pv 1) (fun _ _ => rfl)))) pss_nil) (pss_one (ps_ret pe_int)), ?_⟩
    refine ⟨_, rfl, _, rfl, a, _, rfl, .inl hS, _, _, rfl, rfl, _, rfl, ?_⟩
    refine ite2 (fun hc => ?_) (fun hc => ?_)
    · have := of_decide_eq_true hc
      rw [List.length_map] at this
      have hk : k < ns.length := by omega
      exact ⟨_, rfl, _, rfl, a, _, _, _, rfl, rfl, hS, atI_nat (j := k) (v := V.int ns[k]) (by rw [List.getElem?_map, List.getElem?_eq_getElem hk]; rfl), q _⟩
    · exact q 0
theorem scTape : FnScope ["_law_cell"] ["_law_cell"] (defScope sTape) := ⟨rfl, rfl, rfl, by decide +kernel, rfl, by decide +kernel, by decide +kernel⟩
theorem ok_tape {f : Addr} {fd : FuncData} (F : Fun K "_law_tape" "_law_tape" sTape f fd) (G : Gb mg) : FnOk P w K mg base CX0 1 f fd ["_law_cell"] spTape := by
  refine F.ok scTape (fun vs H Q E h => ?_) (fun cdv A outer s H vs Q E hr h => ?_)
  · obtain ⟨c, rfl, _⟩ := h
    rfl
  · obtain ⟨c, rfl, q⟩ := h
    refine ⟨_, pss_one (ps_ret (pe_lst (pa_cons (pe_callB (call_max2 rfl) (by rfl) G.max boot_mx (pa_cons pe_int (pa_cons (pe_op op_sub (pv 0) (pe_op op_pow pe_int pe_int)) pa_nil))) (pa_cons (pe_op op_mod (pv 0) pe_int) (pa_cons pe_int pa_nil))))), ?_⟩
    have pw18 : CPow 10 18 := ⟨by decide, by decide, by decide⟩
    refine ⟨_, rfl, _, _, rfl, rfl, pw18, _, _, rfl, rfl, _, _, rfl, _, rfl, _, _, rfl, rfl, (by show (0 : Int) < 2147483647; decide), by show 3 ≤ sizeLine; decide, fun l hl => ?_⟩
    exact q l _ (same_upd hl) hl ⟨_, _, _, upd_same⟩
theorem scTake : FnScope ["_law_tape_here", "_law_many", "_law_found", "_law_number"] ["_law_tape_here", "_law_many"] (defScope sTake) := ⟨rfl, rfl, rfl, by decide +kernel, rfl, by decide +kernel, by decide +kernel⟩
theorem ok_take {f : Addr} {fd : FuncData} (F : Fun K "_law_take" "_law_take" sTake f fd) : FnOk P w K mg base CX0 1 f fd ["_law_tape_here", "_law_many"] spTake := by
  refine F.ok scTake (fun vs H Q E h => ?_) (fun cdv A outer s H vs Q E hr h => ?_)
  · obtain ⟨w', m, rfl, _⟩ := h
    rfl
  · obtain ⟨w', m, rfl, ⟨a, b, c, hw⟩, m0, m1, q⟩ := h
    refine ⟨_, pss_cons (ps_if (pt_cmpR op_gt (pe_ix ix_list (pv 0) pe_int (fun _ _ => rfl)) pe_int (nomark _))
        (pss_cons (ps_set (i := 2) scTake.nd rfl (Or.inl rfl) (pe_op op_mod (pe_ix ix_list (pv 0) pe_int (fun _ _ => rfl)) (pv 1)))
        (pss_cons (ps_asg (pe_op op_fdivB (pe_ix ix_list (pv 0) pe_int (fun _ _ => rfl)) (pv 1)) (pg_sub (pv 0) pe_int set_list))
        (pss_one (ps_ret (pv 2))))) pss_nil)
      (pss_cons (ps_asg (pe_op op_add (pe_ix ix_list (pv 0) pe_int (fun _ _ => rfl)) pe_int) (pg_sub (pv 0) pe_int set_list))
      (pss_cons (ps_set (i := 3) scTake.nd rfl (Or.inl rfl) (pe_op op_mod (pe_op op_mul (pe_op op_add (pe_op op_add (pe_ix ix_list (pv 0) pe_int (fun _ _ => rfl)) (pe_op op_mul pe_int (pe_ix ix_list (pv 0) pe_int (fun _ _ => rfl)))) pe_int) pe_int) pe_int))
      (pss_cons (ps_set (i := 3) scTake.nd rfl (Or.inl rfl) (pe_op op_mod (pe_op op_mul (pv 3) (pe_op op_add (pe_op op_fdiv (pv 3) pe_int) pe_int)) pe_int))
      (pss_cons (ps_set (i := 3) scTake.nd rfl (Or.inl rfl) (pe_op op_mod (pe_op op_mul (pv 3) (pe_op op_add (pe_op op_fdiv (pv 3) pe_int) pe_int)) pe_int))
      (pss_one (ps_ret (pe_op op_mod (pe_op op_fdiv (pv 3) pe_int) (pv 1)))))))), ?_⟩
    have keep : ∀ (o : HO) (x : Addr) (u : HO), x ≠ w' → H x = some u → (upd H w' o) x = some u := fun o x u n e => by
      rw [upd_ne n]
      exact e
    have rm : ∀ z : Int, 0 ≤ z % m ∧ z % m < m := fun z => ⟨Int.emod_nonneg _ (by omega), Int.emod_lt_of_pos _ m0⟩
    refine ⟨_, rfl, w', _, _, _, rfl, rfl, SqL.of hw, atI_nat (j := 0) rfl, _, _, rfl, rfl, _, rfl, ?_⟩
    refine ite2 (fun hc => ?_) (fun hc => ?_)
    · refine ⟨_, rfl, w', _, _, _, rfl, rfl, SqL.of hw, atI_nat (j := 0) rfl, _, rfl, _, _, rfl, rfl, m0, ?_⟩
      refine ⟨_, rfl, w', _, _, _, rfl, rfl, SqL.of hw, atI_nat (j := 0) rfl, _, rfl, _, _, rfl, rfl, ⟨m0, m1⟩, ?_⟩
      refine ⟨_, rfl, w', _, _, _, rfl, rfl, hw, rfl, ?_⟩
      exact ⟨_, rfl, q _ _ ⟨keep _, ⟨_, _, _, upd_same⟩⟩ (rm _).1 (rm _).2⟩
    · refine ⟨_, rfl, w', _, _, _, rfl, rfl, SqL.of hw, atI_nat (j := 2) rfl, _, _, rfl, rfl, ?_⟩
      refine ⟨_, rfl, w', _, _, 2, rfl, rfl, hw, rfl, ?_⟩
      have hw2 : (upd H w' (.lst ([V.int a, .int b, .int c].set 2 (.int (c + 1))))) w' = some (.lst [.int a, .int b, .int (c + 1)]) := upd_same
      have kp : Kp w' H (upd H w' (.lst ([V.int a, .int b, .int c].set 2 (.int (c + 1))))) := ⟨keep _, ⟨_, _, _, hw2⟩⟩
      refine ⟨_, rfl, w', _, _, _, rfl, rfl, SqL.of hw2, atI_nat (j := 1) rfl, _, rfl, w', _, _, _, rfl, rfl, SqL.of hw2, atI_nat (j := 2) rfl, _, _, rfl, rfl, .inl ⟨by decide, by decide⟩, _, _, rfl, rfl, _, _, rfl, rfl, _, _, rfl, rfl, .inr ⟨by decide, by decide⟩, _, _, rfl, rfl, (by show (0 : Int) < 2147483647; decide), ?_⟩
      have n1 : 0 ≤ (b + 7919 * (c + 1) + 1) * 48271 % 2147483647 ∧ (b + 7919 * (c + 1) + 1) * 48271 % 2147483647 < 2147483647 := by omega
      generalize (b + 7919 * (c + 1) + 1) * 48271 % 2147483647 = x1 at n1 ⊢
      refine ⟨_, rfl, _, rfl, _, _, rfl, rfl, ⟨by decide, by decide⟩, _, _, rfl, rfl, _, _, rfl, rfl, .inl ⟨by omega, by omega⟩, _, _, rfl, rfl, (by show (0 : Int) < 2147483647; decide), ?_⟩
      have n2 : 0 ≤ x1 * (x1 / 1009 + 69621) % 2147483647 ∧ x1 * (x1 / 1009 + 69621) % 2147483647 < 2147483647 := ⟨Int.emod_nonneg _ (by decide), Int.emod_lt_of_pos _ (by decide)⟩
      generalize x1 * (x1 / 1009 + 69621) % 2147483647 = x2 at n2 ⊢
      refine ⟨_, rfl, _, rfl, _, _, rfl, rfl, ⟨by decide, by decide⟩, _, _, rfl, rfl, _, _, rfl, rfl, .inl ⟨by omega, by omega⟩, _, _, rfl, rfl, (by show (0 : Int) < 2147483399; decide), ?_⟩
      refine ⟨_, rfl, _, _, rfl, rfl, ⟨by decide, by decide⟩, _, rfl, _, _, rfl, rfl, m0, ?_⟩
      exact q _ _ kp (rm _).1 (rm _).2
theorem scStart : FnScope ["_law_tape_here", "_law_near", "_law_far"] ["_law_tape_here"] (defScope sStart) := ⟨rfl, rfl, rfl, by decide +kernel, rfl, by decide +kernel, by decide +kernel⟩
theorem ok_start {f fD : Addr} {fd fdD : FuncData} (F : Fun K "_law_start" "_law_start" sStart f fd) (GD : FnOk P w K mg base CX0 1 fD fdD ["_law_tape_here", "_law_many"] spTake) (kp : keepIn K (.ref fD) = true) (bD : Binds K fdD ["_law_tape_here", "_law_many"] []) (mD : mg "_law_take" = some (.ref fD)) :
    FnOk P w K mg base CX0 2 f fd ["_law_tape_here"] spStart := by
  refine F.ok scStart (fun vs H Q E h => ?_) (fun cdv A outer s H vs Q E hr h => ?_)
  · obtain ⟨w', rfl, _⟩ := h
    rfl
  · obtain ⟨w', rfl, hw, q⟩ := h
    refine ⟨_, pss_cons (ps_set (i := 1) scStart.nd rfl (Or.inl rfl) (pe_op op_sub (pe_call GD hr rfl mD kp bD .nil pass0 (pa_cons (pv 0) (pa_cons pe_int pa_nil))) pe_int))
      (pss_cons (ps_set (i := 2) scStart.nd rfl (Or.inl rfl) (pe_op op_mul (pe_op op_sub (pe_call GD hr rfl mD kp bD .nil pass0 (pa_cons (pv 0) (pa_cons (pe_op op_mul pe_int (pe_op op_pow pe_int pe_int)) pa_nil))) (pe_op op_pow pe_int pe_int)) pe_int))
      (pss_one (ps_ret (pe_ix ix_list (pe_lst (pa_cons pe_int (pa_cons (pv 1) (pa_cons (pv 1) (pa_cons (pv 2) pa_nil))))) (pe_call GD hr rfl mD kp bD .nil pass0 (pa_cons (pv 0) (pa_cons pe_int pa_nil))) (fun _ _ => rfl))))), ?_⟩
    have pw9 : CPow 10 9 := ⟨by decide, by decide, by decide⟩
    have v9 : (10 : Int) ^ (9 : Int).toNat = 1000000000 := by decide
    refine ⟨_, rfl, w', 201, rfl, hw, by decide, by decide, fun r1 H1 k1 a1 b1 => ⟨_, _, rfl, rfl, ?_⟩⟩
    refine ⟨_, rfl, _, _, rfl, rfl, pw9, _, _, rfl, rfl, .inl ⟨by decide, by decide⟩, w', _, rfl, k1.wl, (by rw [v9]; decide), (by rw [v9]; decide), fun r2 H2 k2 a2 b2 => ?_⟩
    refine ⟨_, _, rfl, rfl, pw9, _, _, rfl, rfl, _, _, rfl, rfl, .inr ⟨by decide, by decide⟩, ?_⟩
    rw [v9] at b2 ⊢
    show gName 2 (V.int ((r2 - 1000000000) * 99999999)) _ _ _
    have bf : -200000000000000000 ≤ (r2 - 1000000000) * 99999999 ∧ (r2 - 1000000000) * 99999999 ≤ 200000000000000000 := by omega
    generalize (r2 - 1000000000) * 99999999 = fr at bf ⊢
    refine ⟨_, rfl, _, rfl, _, rfl, by show 4 ≤ sizeLine; decide, fun l hl => ?_⟩
    have e1 : (upd H2 l (.lst [.int 0, .int (r1 - 100), .int (r1 - 100), .int fr])) l = some (.lst [.int 0, .int (r1 - 100), .int (r1 - 100), .int fr]) := upd_same
    have kA : Kp w' H (upd H2 l (.lst [.int 0, .int (r1 - 100), .int (r1 - 100), .int fr])) := (k1.trans k2).same (same_upd hl)
    refine ⟨_, rfl, w', 4, rfl, kA.wl, by decide, by decide, fun r6 H6 k6 a6 b6 => ?_⟩
    obtain ⟨z, mz, ez⟩ := pick (ns := [0, r1 - 100, r1 - 100, fr]) (i := r6) a6 (by show r6 < ((4 : Nat) : Int); omega)
    have ne : l ≠ w' := (k2.wl.ne hl).symm
    simp only [List.mem_cons, List.not_mem_nil, or_false] at mz
    exact ⟨l, _, _, _, rfl, rfl, SqL.of (k6.at_ _ _ ne e1), ez, q _ _ (kA.trans k6) (by omega) (by omega)⟩
end
end Ls

set_option maxHeartbeats 4000000
namespace Ls
open PySem L2 PySem.W
theorem wk_snoc : ∀ {ps : Lm.Ps} {l h : Int}, Lm.Wk ps → (∀ q ∈ ps, q.2 ≤ l) → l < h → Lm.Wk (ps ++ [(l, h)])
  | [], l, h, _, _, lt => ⟨lt, fun q hq => absurd hq (by simp), trivial⟩
  | p :: t, l, h, ⟨h1, h2, h3⟩, b, lt => by
    refine ⟨h1, fun q hq => ?_, wk_snoc h3 (fun q hq => b q (List.mem_cons_of_mem _ hq)) lt⟩
    rcases List.mem_append.mp hq with hq | hq
    · exact h2 q hq
    · cases List.mem_singleton.mp hq
      exact b p List.mem_cons_self
/-- the works that the law makes -/
structure Made (ps : Lm.Ps) : Prop where
  wk : Lm.Wk ps
  len : ps.length ≤ 6
  at_ : ∀ q ∈ ps, -200000000000000000 ≤ q.1 ∧ q.2 ≤ 300000000000000000 ∧ q.2 - q.1 ≤ 9
theorem pairs_kept {w : Addr} {H H' : Hp} {vs : List V} {ps : Lm.Ps} (k : Kp w H H') (hw : Wl H w) (h : PairsAt H vs ps) : PairsAt H' vs ps := paired_map (fun v q ⟨b, z1, z2⟩ => ⟨b, z1, k.tup hw z2⟩) h
def spMake (m wd : Int) : Sp := fun vs H Q _ => ∃ (w : Addr), vs = [.ref w, .int m, .int wd] ∧ Wl H w ∧ ∀ p ps H', Kp w H H' → WorkM H' p ps → Made ps → Q (.ref p) H'
section
variable {P : Program} {w : World} {K : PySem.W.Frag} {mg : Str → Option Value} {base : Heap}
theorem scMake : FnScope ["_law_tape_here", "_law_most", "_law_wide", "_law_found", "_law_at", "_law_k", "_law_low"] ["_law_tape_here", "_law_most", "_law_wide"] (defScope sMake) := ⟨rfl, rfl, rfl, by decide +kernel, rfl, by decide +kernel, by decide +kernel⟩
theorem ok_make {f fD fS : Addr} {fd fdD fdS : FuncData} {m wd : Int} (hm0 : 0 ≤ m) (hm6 : m ≤ 6) (hw1 : 1 ≤ wd) (hw9 : wd ≤ 9) (F : Fun K "_law_work" "_law_work" sMake f fd) (G : Gb mg) (GD : FnOk P w K mg base CX0 1 fD fdD ["_law_tape_here", "_law_many"] spTake) (kp : keepIn K (.ref fD) = true) (bD : Binds K fdD ["_law_tape_here", "_law_many"] []) (mD : mg "_law_take" = some (.ref fD))
    (GS : FnOk P w K mg base CX0 2 fS fdS ["_law_tape_here"] spStart) (kS : keepIn K (.ref fS) = true) (bS : Binds K fdS ["_law_tape_here"] []) (mS : mg "_law_start" = some (.ref fS)) :
    FnOk P w K mg base CX0 3 f fd ["_law_tape_here", "_law_most", "_law_wide"] (spMake m wd) := by
  refine F.ok scMake (fun vs H Q E h => ?_) (fun cdv A outer s H vs Q E hr h => ?_)
  · obtain ⟨w', rfl, _⟩ := h
    rfl
  · obtain ⟨w', rfl, hw, q⟩ := h
    have hr1 : Room 1 _ := hr.mono (by decide)
    refine ⟨_, pss_cons (ps_set (i := 3) scMake.nd rfl (Or.inl rfl) (pe_lst pa_nil))
      (pss_cons (ps_set (i := 4) scMake.nd rfl (Or.inl rfl) (pe_call GS hr rfl mS kS bS .nil pass0 (pa_cons (pv 0) pa_nil)))
      (pss_cons (ps_for PassesOwn.never rfl (pi_range1 rfl G.range (pa_cons (pe_call GD hr1 rfl mD kp bD .nil pass0 (pa_cons (pv 0) (pa_cons (pe_op op_add (pv 1) pe_int) pa_nil))) pa_nil)) (pg_name (i := 5) scMake.nd rfl (Or.inl rfl))
        (pss_cons (ps_set (i := 6) scMake.nd rfl (Or.inl rfl) (pe_op op_add (pv 4) (pe_ix ix_list (pe_lst (pa_cons pe_int (pa_cons pe_int (pa_cons (pe_call GD hr1 rfl mD kp bD .nil pass0 (pa_cons (pv 0) (pa_cons pe_int pa_nil))) (pa_cons (pe_call GD hr1 rfl mD kp bD .nil pass0 (pa_cons (pv 0) (pa_cons pe_int pa_nil))) pa_nil))))) (pe_call GD hr1 rfl mD kp bD .nil pass0 (pa_cons (pv 0) (pa_cons pe_int pa_nil))) (fun _ _ => rfl))))
        (pss_cons (ps_set (i := 4) scMake.nd rfl (Or.inl rfl) (pe_op op_add (pe_op op_add (pv 6) pe_int) (pe_call GD hr1 rfl mD kp bD .nil pass0 (pa_cons (pv 0) (pa_cons (pv 2) pa_nil)))))
        (pss_one (ps_expr (pe_bm PySem.F.plainAttrs_list PySem.F.slot_list_append PySem.F.type_list_append mt_append (pv 3) (pa_cons (pe_tup (pa_cons (pv 6) (pa_cons (pv 4) pa_nil))) pa_nil)))))))
      (pss_one (ps_ret (pe_callTy call_tuple_of (by rfl) G.tuple boot_t (pa_cons (pv 3) pa_nil)))))), ?_⟩
    have sz2 : (2 : Nat) ≤ sizeLine := by decide
    have sz4 : (4 : Nat) ≤ sizeLine := by decide
    have sl : sizeLine = 16777216 := sizeLine_eq
    -- found
    refine ⟨Nat.zero_le _, fun lf Hf => ?_⟩
    have nf : lf ≠ w' := (hw.ne Hf).symm
    have k0 : Kp w' H (upd H lf (.lst [])) := (Kp.refl hw).upd nf Hf
    have ef : (upd H lf (.lst [])) lf = some (.lst []) := upd_same
    generalize upd H lf (.lst []) = H0 at k0 ef ⊢
    -- at
    refine ⟨_, rfl, w', rfl, k0.wl, fun z1 H1 k1 a1 b1 => ?_⟩
    refine ⟨_, rfl, _, rfl, _, _, rfl, rfl, w', _, rfl, k1.wl, (by show (0 : Int) < m + 1; omega), (by show (m + 1 : Int) < 2 ^ 64; omega), fun rn H2 k2 a2 b2 => ?_⟩
    have b2' : rn < m + 1 := b2
    refine ⟨rn, rfl, by omega, by omega, ?_⟩
    refine for_range (lo := 0) (n := rn.toNat) (fun i σ H7 => ∃ (at_ : Int) (vs : List V) (ps : Lm.Ps) (u v : Option V), σ = [some (.ref w'), some (.int m), some (.int wd), some (.ref lf), some (.int at_), u, v] ∧ Kp w' H H7 ∧ H7 lf = some (.lst vs) ∧ PairsAt H7 vs ps ∧ ps.length = i ∧ Lm.Wk ps ∧ (∀ q ∈ ps, -200000000000000000 ≤ q.1 ∧ q.2 ≤ at_ ∧ q.2 - q.1 ≤ 9) ∧ -200000000000000000 ≤ at_ ∧ at_ ≤ 200000000000000000 + 100 * (i : Int))
      ⟨z1, [], [], _, _, rfl, k0.trans (k1.trans k2), (k1.trans k2).at_ _ _ nf ef, .nil, rfl, trivial, (fun q hq => absurd hq (by simp)), a1, by omega⟩ ?_ ?_
    · rintro i σ H7 hi ⟨at_, vs, ps, u, v, rfl, kD, hF, pr, hlen, wk, bd, c1, c2⟩
      refine ⟨_, rfl, _, rfl, w', 4, rfl, kD.wl, by decide, by decide, fun s1 G1 j1 d1 f1 => ?_⟩
      refine ⟨_, rfl, w', 60, rfl, j1.wl, by decide, by decide, fun s2 G2 j2 d2 f2 => ⟨sz4, fun l2 h2 => ?_⟩⟩
      have t1 : Kp w' H7 (upd G2 l2 (.lst [.int 0, .int 0, .int s1, .int s2])) := (j1.trans j2).same (same_upd h2)
      have e2 : (upd G2 l2 (.lst [.int 0, .int 0, .int s1, .int s2])) l2 = some (.lst [.int 0, .int 0, .int s1, .int s2]) := upd_same
      have n2 : l2 ≠ w' := (j2.wl.ne h2).symm
      generalize upd G2 l2 (.lst [.int 0, .int 0, .int s1, .int s2]) = G3 at t1 e2 ⊢
      refine ⟨_, rfl, w', 4, rfl, t1.wl, by decide, by decide, fun s3 G4 j4 d3 f3 => ?_⟩
      obtain ⟨x1, mx1, gx1⟩ := pick (ns := [0, 0, s1, s2]) (i := s3) d3 (by show s3 < ((4 : Nat) : Int); omega)
      refine ⟨l2, _, _, _, rfl, rfl, SqL.of (j4.at_ _ _ n2 e2), gx1, _, _, rfl, rfl, ?_⟩
      have bx1 : 0 ≤ x1 ∧ x1 ≤ 60 := by
        simp only [List.mem_cons, List.not_mem_nil, or_false] at mx1
        omega
      have t2 := t1.trans j4
      refine ⟨_, rfl, _, _, rfl, rfl, _, rfl, _, rfl, w', wd, rfl, t2.wl, by omega, by omega, fun s5 G5 j5 d5 f5 => ⟨_, _, rfl, rfl, ?_⟩⟩
      have t4 := t2.trans j5
      have hF8 := t4.at_ _ _ nf hF
      have pr8 := pairs_kept t4 kD.wl pr
      -- append
      refine ⟨_, rfl, .inl ⟨rfl, _, SqL.of hF8⟩, _, rfl, _, rfl, sz2, fun t ht => ?_⟩
      have nt : lf ≠ t := ne_of_none hF8 ht
      have lv : vs.length ≤ 6 := by rw [pr.length]; omega
      refine ⟨lf, _, _, rfl, rfl, by rw [upd_ne nt]; exact hF8, by omega, ?_⟩
      refine ⟨at_ + x1 + 1 + s5, vs ++ [.ref t], ps ++ [(at_ + x1, at_ + x1 + 1 + s5)], _, _, rfl, ?_, upd_same, ?_, by rw [List.length_append, hlen]; rfl, wk_snoc wk (fun q hq => by have := bd q hq; omega) (by omega), fun q hq => ?_, by omega, by omega⟩
      · have k8 := kD.trans t4
        refine ⟨fun x o n z => ?_, ?_⟩
        · have z8 := k8.at_ x o n z
          have nx : x ≠ lf := ne_of_none z Hf
          rw [upd_ne nx, upd_ne (ne_of_none z8 ht)]
          exact z8
        · obtain ⟨a, b, c, hw8⟩ := k8.wl
          refine ⟨a, b, c, ?_⟩
          rw [upd_ne nf.symm, upd_ne (ne_of_none hw8 ht)]
          exact hw8
      · have keep : ∀ (b : Addr) (ys : List V), G5 b = some (.tup ys) → (upd (upd G5 t (.tup [.int (at_ + x1), .int (at_ + x1 + 1 + s5)])) lf (.lst (vs ++ [.ref t]))) b = some (.tup ys) := fun b ys z => by
          rw [upd_ne (ne_of z hF8 (by intro w; cases w)), upd_ne (ne_of_none z ht)]
          exact z
        refine paired_snoc (paired_map (fun v q ⟨b, z1, z2⟩ => ⟨b, z1, keep b _ z2⟩) pr8) ⟨t, rfl, ?_⟩
        rw [upd_ne nt.symm]
        exact upd_same
      · rcases List.mem_append.mp hq with hq | hq
        · have := bd q hq
          omega
        · cases List.mem_singleton.mp hq
          show -200000000000000000 ≤ at_ + x1 ∧ at_ + x1 + 1 + s5 ≤ at_ + x1 + 1 + s5 ∧ at_ + x1 + 1 + s5 - (at_ + x1) ≤ 9
          omega
    · rintro σ H7 ⟨at_, vs, ps, u, v, rfl, kD, hF, pr, hlen, wk, bd, c1, c2⟩
      refine ⟨_, rfl, lf, _, rfl, .inl ⟨SqL.of hF, fun p hp => ?_⟩⟩
      exact q p ps _ (kD.same (same_upd hp)) ⟨vs, upd_same, pr.same (same_upd hp)⟩ ⟨wk, by omega, fun q hq => by have := bd q hq; omega⟩
end
end Ls

set_option maxHeartbeats 4000000
namespace Ls
open PySem L2 PySem.W
/-! ### places, numbers, bits: the mathematics of the law -/
theorem sh_gap : ∀ {ws : Lm.Ps} {q : Int × Int}, Lm.Sh ws → q ∈ ws → ¬ Lm.mem ws q.2
  | p :: t, q, h, hq, hm => by
    rcases List.mem_cons.mp hq with rfl | hq
    · exact Lm.sh_end h hm
    · obtain ⟨h1, h2, h3⟩ := h
      have hl := h2 q hq
      have hlt := Lm.Sh.lt h3 q hq
      rcases Lm.mem_cons.mp hm with ⟨_, z⟩ | z
      · omega
      · exact sh_gap h3 hq z
theorem sh_row {ws : Lm.Ps} {l h : Int} (sh : Lm.Sh ws) (lt : l < h) (hm : ∀ x, l ≤ x → x < h → Lm.mem ws x) : ∃ q ∈ ws, q.1 ≤ l ∧ h ≤ q.2 := by
  obtain ⟨q, hq, h1, h2⟩ := hm l (Int.le_refl _) lt
  refine ⟨q, hq, h1, ?_⟩
  by_cases z : h ≤ q.2
  · exact z
  · exact absurd (hm q.2 (by omega) (by omega)) (sh_gap sh hq)
/-- the places of a stretch, of many -/
def pl (l : Int) (n : Nat) : List Int := (List.range n).map fun (i : Nat) => l + (i : Int)
theorem mem_pl {l : Int} {n : Nat} {x : Int} : x ∈ pl l n ↔ l ≤ x ∧ x < l + (n : Int) := by
  unfold pl
  rw [List.mem_map]
  constructor
  · rintro ⟨i, hi, rfl⟩
    have := List.mem_range.mp hi
    omega
  · rintro ⟨h1, h2⟩
    exact ⟨(x - l).toNat, List.mem_range.mpr (by omega), by omega⟩
theorem pl_len (l : Int) (n : Nat) : (pl l n).length = n := by
  unfold pl
  rw [List.length_map, List.length_range]
theorem nd_pl (l : Int) : ∀ n : Nat, (pl l n).Nodup
  | 0 => List.nodup_nil
  | n + 1 => by
    have e : pl l (n + 1) = pl l n ++ [l + (n : Int)] := by
      unfold pl
      rw [List.range_succ, List.map_append]
      rfl
    rw [e, List.nodup_append]
    refine ⟨nd_pl l n, by simp, fun a ha b hb => ?_⟩
    have h1 := mem_pl.mp ha
    have h2 : b = l + (n : Int) := by simpa using hb
    omega
def allp : Lm.Ps → List Int
  | [] => []
  | q :: t => pl q.1 (q.2 - q.1).toNat ++ allp t
theorem mem_allp : ∀ {cs : Lm.Ps} {x : Int}, x ∈ allp cs ↔ Lm.mem cs x
  | [], x => by rw [Lm.mem_nil]; simp [allp]
  | q :: t, x => by
    show x ∈ pl q.1 (q.2 - q.1).toNat ++ allp t ↔ _
    rw [List.mem_append, mem_pl, mem_allp, Lm.mem_cons]
    refine or_congr ?_ Iff.rfl
    omega
theorem allp_app : ∀ (s t : Lm.Ps), allp (s ++ t) = allp s ++ allp t
  | [], t => rfl
  | q :: s, t => by
    show pl q.1 (q.2 - q.1).toNat ++ allp (s ++ t) = _
    rw [allp_app s t, ← List.append_assoc]
    rfl
theorem nodup_len : ∀ {a b : List Int}, a.Nodup → (∀ x ∈ a, x ∈ b) → a.length ≤ b.length
  | [], _, _, _ => Nat.zero_le _
  | x :: a, b, nd, h => by
    obtain ⟨n1, n2⟩ := List.nodup_cons.mp nd
    have hx := h x List.mem_cons_self
    have h1 := nodup_len (b := b.erase x) n2 fun y hy => (List.mem_erase_of_ne (show y ≠ x from fun z => n1 (by rw [← z]; exact hy))).mpr (h y (List.mem_cons_of_mem _ hy))
    rw [List.length_erase_of_mem hx] at h1
    have := List.length_pos_of_mem hx
    show a.length + 1 ≤ _
    omega
/-- the numbers of a stretch -/
def rowI (f : Int → Int) (l : Int) (n : Nat) : List Int := (List.range n).map fun (i : Nat) => f (l + (i : Int))
theorem rowI_len (f : Int → Int) (l : Int) (n : Nat) : (rowI f l n).length = n := by
  unfold rowI
  rw [List.length_map, List.length_range]
theorem rowI_at {f : Int → Int} {l : Int} {n i : Nat} (h : i < n) : (rowI f l n).getD i 0 = f (l + (i : Int)) := by
  unfold rowI
  rw [List.getD_eq_getElem?_getD, List.getElem?_map, List.getElem?_range h]
  rfl
theorem entN_keys (l : Int) (ns : List Int) (n : Nat) : (entN l ns n).map (·.1) = (pl l n).map Sum.inl := by
  unfold entN pl
  rw [List.map_map, List.map_map]
  rfl
theorem valV_app {a b : List (Key × V)} {k : Key} : valV (a ++ b) k = (valV a k).or (valV b k) := by
  unfold valV
  rw [List.find?_append]
  cases List.find? (fun kv => decide (kv.1 = k)) a <;> rfl
theorem valV_ent {f : Int → Int} {l : Int} {n : Nat} : ∀ m, m ≤ n → ∀ i, i < m → valV (entN l (rowI f l n) m) (Sum.inl (l + (i : Int)) : Key) = some (.int (f (l + (i : Int))))
  | 0, _, i, hi => absurd hi (Nat.not_lt_zero _)
  | m + 1, hm, i, hi => by
    rw [entN_succ, valV_app]
    by_cases h : i < m
    · rw [valV_ent m (by omega) i h]
      rfl
    · have e : i = m := by omega
      subst e
      have h0 : valV (entN l (rowI f l n) i) (Sum.inl (l + (i : Int)) : Key) = none := by
        have := entN_new (kvs := []) (l := l) (ns := rowI f l n) (i := i) (by rfl)
        simpa using this
      rw [h0, rowI_at (by omega)]
      unfold valV
      simp
theorem Holds.nil {f : Int → Int} : Holds f [] [] := ⟨rfl, List.nodup_nil, by decide, fun x hx => absurd hx (by simp), fun x hx => absurd hx (by simp)⟩
theorem Holds.none {f : Int → Int} {kvs : List (Key × V)} {ns : List Int} (h : Holds f kvs ns) {x : Int} (hx : x ∉ ns) : valV kvs (Sum.inl x : Key) = none := by
  rw [valV_none]
  intro e he z
  have hm : e.1 ∈ kvs.map (·.1) := List.mem_map.mpr ⟨e, he, rfl⟩
  rw [h.key, z] at hm
  obtain ⟨y, hy, ey⟩ := List.mem_map.mp hm
  exact hx (Sum.inl.inj ey ▸ hy)
theorem Holds.put {f : Int → Int} {kvs : List (Key × V)} {ns : List Int} (h : Holds f kvs ns) {l : Int} {n : Nat} (hn : ∀ x, l ≤ x → x < l + (n : Int) → x ∉ ns) (hl : ns.length + n < 64) (b1 : -(2 ^ 61) ≤ l) (b2 : l + (n : Int) ≤ 2 ^ 61) :
    Holds f (kvs ++ entN l (rowI f l n) n) (ns ++ pl l n) := by
  refine ⟨?_, ?_, ?_, fun x hx => ?_, fun x hx => ?_⟩
  · rw [List.map_append, List.map_append, h.key, entN_keys]
  · rw [List.nodup_append]
    refine ⟨h.nd, nd_pl _ _, fun a ha b hb => ?_⟩
    have h1 := mem_pl.mp hb
    intro z
    subst z
    exact hn a h1.1 h1.2 ha
  · rw [List.length_append, pl_len]
    exact hl
  · rw [valV_app]
    rcases List.mem_append.mp hx with hx | hx
    · rw [h.val x hx]
      rfl
    · have h1 := mem_pl.mp hx
      rw [h.none (hn x h1.1 h1.2)]
      have h2 := valV_ent (f := f) (l := l) (n := n) n (Nat.le_refl _) (x - l).toNat (by omega)
      have e : l + (((x - l).toNat : Nat) : Int) = x := by omega
      rw [e] at h2
      rw [h2]
      rfl
  · rcases List.mem_append.mp hx with hx | hx
    · exact h.lo x hx
    · have h1 := mem_pl.mp hx
      omega
/-! ### what is compared -/
def itemD (f : Int → Int) (q : Int × Int) : PyData := .tuple [.int q.1, .tuple ((rowI f q.1 (q.2 - q.1).toNat).map PyData.int)]
theorem rdvs_ints {K : Frag} {H : Hp} : ∀ ns : List Int, RdVs K H (ns.map V.int) (ns.map PyData.int)
  | [] => .nil
  | n :: ns => .cons (.int n) (rdvs_ints ns)
theorem rdv_item {K : Frag} {H : Hp} {f : Int → Int} {v : V} {q : Int × Int} (h : ItemAt f H v q) : RdV K H v (itemD f q) := by
  obtain ⟨b, c, rfl, h1, h2⟩ := h
  exact .tup (SqT.of h1) (.cons (.int _) (.cons (.tup (SqT.of h2) (rdvs_ints _)) .nil))
theorem rdvs_items {K : Frag} {H : Hp} {f : Int → Int} : ∀ {xs : List V} {ds : Lm.Ps}, Paired (ItemAt f H) xs ds → RdVs K H xs (ds.map (itemD f))
  | _, _, .nil => .nil
  | _, _, .cons r t => .cons (rdv_item r) (rdvs_items t)
theorem eqvAll_ints : ∀ ns : List Int, PyData.eqvAll (ns.map PyData.int) (ns.map PyData.int) = true
  | [] => by simp [PyData.eqvAll]
  | n :: ns => by
    rw [List.map_cons, PyData.eqvAll, eqvAll_ints ns]
    simp [PyData.eqv]
theorem eqv_item (f : Int → Int) (q : Int × Int) : PyData.eqv (itemD f q) (itemD f q) = true := by
  unfold itemD
  have := eqvAll_ints (rowI f q.1 (q.2 - q.1).toNat)
  simp [PyData.eqv, PyData.eqvAll, this]
theorem eqvAll_items (f : Int → Int) : ∀ ds : Lm.Ps, PyData.eqvAll (ds.map (itemD f)) (ds.map (itemD f)) = true
  | [] => by simp [PyData.eqvAll]
  | q :: ds => by
    rw [List.map_cons, PyData.eqvAll, eqv_item, eqvAll_items f ds]
    rfl
theorem eqv_items (f : Int → Int) (ds : Lm.Ps) : PyData.eqv (.list (ds.map (itemD f))) (.list (ds.map (itemD f))) = true := by
  rw [PyData.eqv]
  exact eqvAll_items f ds
theorem items_shaped (f : Int → Int) (ds : Lm.Ps) : SeqAt.shaped (.list (ds.map (itemD f))) = true := by
  refine (Gd.lst (n := 2) fun d hd => ?_).shaped (by decide)
  obtain ⟨q, _, rfl⟩ := List.mem_map.mp hd
  refine Gd.tup (n := 1) (gd_cons (Gd.int _) (gd_cons (Gd.tup (n := 0) fun e he => ?_) gd_nil))
  obtain ⟨z, _, rfl⟩ := List.mem_map.mp he
  exact Gd.int z
end Ls

set_option maxHeartbeats 4000000
namespace Ls
open PySem L2 PySem.W
def spPlaces : Sp := fun vs H Q _ => ∃ (p : Addr) (ps : Lm.Ps), vs = [.ref p] ∧ WorkM H p ps ∧ Made ps ∧ ∀ r H', Same H H' → H r = none → H' r = some (.lst ((allp ps).map V.int)) → Q (.ref r) H'
theorem allp_small {ps : Lm.Ps} (m : ∀ q ∈ ps, q.2 - q.1 ≤ 9) : (allp ps).length ≤ 9 * ps.length := by
  induction ps with
  | nil => exact Nat.le_refl _
  | cons q t ih =>
    have h1 := ih fun q hq => m q (List.mem_cons_of_mem _ hq)
    have h2 := m q List.mem_cons_self
    show (pl q.1 (q.2 - q.1).toNat ++ allp t).length ≤ 9 * (t.length + 1)
    rw [List.length_append, pl_len]
    omega
theorem allp_snoc (s : Lm.Ps) (q : Int × Int) : allp (s ++ [q]) = allp s ++ pl q.1 (q.2 - q.1).toNat := by
  rw [allp_app]
  show allp s ++ (pl q.1 (q.2 - q.1).toNat ++ []) = _
  rw [List.append_nil]
section
variable {P : Program} {w : World} {K : PySem.W.Frag} {mg : Str → Option Value} {base : Heap}
theorem scPlaces : FnScope ["_law_work_here", "_law_found", "_law_low", "_law_high"] ["_law_work_here"] (defScope sPlaces) := ⟨rfl, rfl, rfl, by decide +kernel, rfl, by decide +kernel, by decide +kernel⟩
theorem ok_places {f : Addr} {fd : FuncData} (F : Fun K "_law_places" "_law_places" sPlaces f fd) (G : Gb mg) : FnOk P w K mg base CX0 1 f fd ["_law_work_here"] spPlaces := by
  refine F.ok scPlaces (fun vs H Q E h => ?_) (fun cdv A outer s H vs Q E hr h => ?_)
  · obtain ⟨p, ps, rfl, _⟩ := h
    rfl
  · obtain ⟨p, ps, rfl, hw, md, q⟩ := h
    refine ⟨_, pss_cons (ps_set (i := 1) scPlaces.nd rfl (Or.inl rfl) (pe_lst pa_nil))
      (pss_cons (ps_for PassesOwn.never rfl (pi_tup (pv 0)) (pg_tup (n := 2) rfl (pgs_cons (pg_name (i := 2) scPlaces.nd rfl (Or.inl rfl)) (pgs_cons (pg_name (i := 3) scPlaces.nd rfl (Or.inl rfl)) pgs_nil)))
        (pss_one (ps_expr (pe_bm PySem.F.plainAttrs_list PySem.F.slot_list_extend PySem.F.type_list_extend mt_extend (pv 1) (pa_cons (pe_callTy (call_listR rfl) (by rfl) G.list boot_l (pa_cons (pe_callTy call_rng (by rfl) G.range PyProof.Rows.boot_range (pa_cons (pv 2) (pa_cons (pv 3) pa_nil))) pa_nil)) pa_nil)))))
      (pss_one (ps_ret (pv 1)))), ?_⟩
    have sl : sizeLine = 16777216 := sizeLine_eq
    obtain ⟨xs, x1, x2⟩ := id hw
    have lx : xs.length = ps.length := x2.length
    refine ⟨Nat.zero_le _, fun lf Hf => ?_⟩
    have s0 : Same H (upd H lf (.lst [])) := same_upd Hf
    have e0 : (upd H lf (.lst [])) lf = some (.lst []) := upd_same
    generalize upd H lf (.lst []) = H0 at s0 e0 ⊢
    refine ⟨_, rfl, p, rfl, ⟨_, SqT.of (s0 _ _ x1)⟩, for_tup (K := K) (a := p) (xs := xs) (fun i σ H7 => (∃ u v, σ = [some (.ref p), some (.ref lf), u, v]) ∧ Same H H7 ∧ H7 lf = some (.lst ((allp (ps.take i)).map V.int)))
      ⟨⟨_, _, rfl⟩, s0, e0⟩ (fun i σ H7 _ ⟨_, s7, _⟩ => SqT.of (s7 _ _ x1)) ?_ ?_⟩
    · rintro i y σ H7 hi ⟨⟨u, v, rfl⟩, s7, e7⟩
      obtain ⟨c, hc, b, rfl, hb⟩ := paired_get x2 hi
      have hcm : c ∈ ps := List.mem_of_getElem? hc
      have mc := md.at_ c hcm
      have lt := md.wk.lt c hcm
      refine ⟨b, _, rfl, SqT.of (s7 _ _ hb), rfl, _, _, rfl, _, _, rfl, rfl, ?_⟩
      refine ⟨_, rfl, .inl ⟨rfl, _, SqL.of e7⟩, _, rfl, _, rfl, c.1, c.2, rfl, fun r hr' => ?_⟩
      have s8 : Same H7 (upd H7 r (.rng c.1 c.2)) := same_upd hr'
      have e8 : (upd H7 r (.rng c.1 c.2)) r = some (.rng c.1 c.2) := upd_same
      generalize upd H7 r (.rng c.1 c.2) = H8 at s8 e8 ⊢
      refine ⟨r, c.1, c.2, rfl, e8, ⟨by omega, by omega, by omega, by omega⟩, by omega, fun l hl => ?_⟩
      have s9 : Same H8 (upd H8 l (.lst (rngV c.1 (c.2 - c.1).toNat))) := same_upd hl
      have e9 : (upd H8 l (.lst (rngV c.1 (c.2 - c.1).toNat))) l = some (.lst (rngV c.1 (c.2 - c.1).toNat)) := upd_same
      generalize upd H8 l (.lst (rngV c.1 (c.2 - c.1).toNat)) = H9 at s9 e9 ⊢
      have hlen : (allp (ps.take i)).length ≤ 9 * ps.length := Nat.le_trans (allp_small fun q hq => (md.at_ q (List.mem_of_mem_take hq)).2.2) (Nat.mul_le_mul_left _ (by rw [List.length_take]; omega))
      have := md.len
      refine ⟨lf, l, _, _, rfl, rfl, s9 _ _ (s8 _ _ e7), e9, by rw [List.length_map, rngV_len]; omega, ?_⟩
      refine ⟨⟨_, _, rfl⟩, fun b o e => ?_, ?_⟩
      · rw [upd_ne (ne_of_none e Hf)]
        exact s9 _ _ (s8 _ _ (s7 _ _ e))
      · rw [upd_same, List.take_add_one, hc]
        show some (HO.lst _) = some (HO.lst ((allp (ps.take i ++ [c])).map V.int))
        rw [allp_snoc, List.map_append]
        unfold rngV pl
        rw [List.map_map]
        rfl
    · rintro σ H7 ⟨⟨u, v, rfl⟩, s7, e7⟩
      rw [List.take_of_length_le (by omega)] at e7
      exact ⟨_, rfl, q lf H7 s7 Hf e7⟩
end
end Ls

set_option maxHeartbeats 4000000
namespace Ls
open PySem L2 PySem.W
theorem eqv_list_nil (ps : List (Int × Int)) : PyData.eqv (.list (ps.map pairD)) (.list []) = decide (ps = []) := by
  cases ps with
  | nil => simp [PyData.eqv, PyData.eqvAll]
  | cons p ps => simp [PyData.eqv, PyData.eqvAll]
theorem pairs_list_shaped (ps : Lm.Ps) : SeqAt.shaped (.list (ps.map pairD)) = true := (Gd.lst (gd_pairs (n := 0) ps)).shaped (by decide)
theorem sh_snoc : ∀ {ps : Lm.Ps} {l h : Int}, Lm.Sh ps → (∀ q ∈ ps, q.2 < l) → l < h → Lm.Sh (ps ++ [(l, h)])
  | [], l, h, _, _, lt => ⟨lt, fun q hq => absurd hq (by simp), trivial⟩
  | p :: t, l, h, ⟨h1, h2, h3⟩, b, lt => by
    refine ⟨h1, fun q hq => ?_, sh_snoc h3 (fun q hq => b q (List.mem_cons_of_mem _ hq)) lt⟩
    rcases List.mem_append.mp hq with hq | hq
    · exact h2 q hq
    · cases List.mem_singleton.mp hq
      exact b p List.mem_cons_self
theorem sh_longer : ∀ {ps : Lm.Ps} {l h h' : Int}, Lm.Sh (ps ++ [(l, h)]) → h ≤ h' → Lm.Sh (ps ++ [(l, h')])
  | [], l, h, h', ⟨h1, _⟩, le => ⟨by show l < h'; have h1' : l < h := h1; omega, fun q hq => absurd hq (by simp), trivial⟩
  | p :: t, l, h, h', ⟨h1, h2, h3⟩, le => by
    refine ⟨h1, fun q hq => ?_, sh_longer h3 le⟩
    rcases List.mem_append.mp hq with hq | hq
    · exact h2 q (List.mem_append_left _ hq)
    · cases List.mem_singleton.mp hq
      exact h2 (l, h) (by simp)
theorem mem_snoc {ps : Lm.Ps} {l h x : Int} : Lm.mem (ps ++ [(l, h)]) x ↔ Lm.mem ps x ∨ (l ≤ x ∧ x < h) := by
  unfold Lm.mem
  constructor
  · rintro ⟨q, hq, h1, h2⟩
    rcases List.mem_append.mp hq with hq | hq
    · exact .inl ⟨q, hq, h1, h2⟩
    · cases List.mem_singleton.mp hq
      exact .inr ⟨h1, h2⟩
  · rintro (⟨q, hq, h1, h2⟩ | ⟨h1, h2⟩)
    · exact ⟨q, List.mem_append_left _ hq, h1, h2⟩
    · exact ⟨(l, h), by simp, h1, h2⟩
theorem sh_before : ∀ {ps : Lm.Ps} {c q : Int × Int}, Lm.Sh (ps ++ [c]) → q ∈ ps → q.2 < c.1
  | p :: t, c, q, ⟨h1, h2, h3⟩, hq => by
    rcases List.mem_cons.mp hq with rfl | hq
    · exact h2 c (by simp)
    · exact sh_before h3 hq
def Rise (ns : List Int) : Prop := ns.Pairwise (· < ·)
def spStr : Sp := fun vs H Q _ => ∃ (p : Addr) (ns : List Int), vs = [.ref p] ∧ H p = some (.lst (ns.map V.int)) ∧ Rise ns ∧ ns.length ≤ 1000 ∧ Told H Q ns.length fun x => x ∈ ns
section
variable {P : Program} {w : World} {K : PySem.W.Frag} {mg : Str → Option Value} {base : Heap}
theorem scStretches : FnScope ["_law_places_here", "_law_found", "_law_place"] ["_law_places_here"] (defScope sStretches) := ⟨rfl, rfl, rfl, by decide +kernel, rfl, by decide +kernel, by decide +kernel⟩
theorem ok_stretches {f : Addr} {fd : FuncData} (F : Fun K "_law_stretches" "_law_stretches" sStretches f fd) (G : Gb mg) : FnOk P w K mg base CX0 1 f fd ["_law_places_here"] spStr := by
  refine F.ok scStretches (fun vs H Q E h => ?_) (fun cdv A outer s H vs Q E hr h => ?_)
  · obtain ⟨p, ns, rfl, _⟩ := h
    rfl
  · obtain ⟨p, ns, rfl, hp, rs, ln, q⟩ := h
    refine ⟨_, pss_cons (ps_set (i := 1) scStretches.nd rfl (Or.inl rfl) (pe_lst pa_nil))
      (pss_cons (ps_for PassesOwn.never rfl (pi_list (pv 0)) (pg_name (i := 2) scStretches.nd rfl (Or.inl rfl))
        (pss_one (ps_if (PW.pt (pw_and (pt_cmpR (op_neD hr.units) (pv 1) (pe_lst pa_nil) (nomark _)) (pw_and1 (pt_cmpR op_eq (pe_ix ix_tup (pe_ix ix_list (pv 1) (pe_un un_neg pe_int) (fun _ _ => rfl)) pe_int (fun _ _ => rfl)) (pv 2) (nomark _)))))
          (pss_one (ps_asg (pe_tup (pa_cons (pe_ix ix_tup (pe_ix ix_list (pv 1) (pe_un un_neg pe_int) (fun _ _ => rfl)) pe_int (fun _ _ => rfl)) (pa_cons (pe_op op_add (pv 2) pe_int) pa_nil))) (pg_sub (pv 1) (pe_un un_neg pe_int) set_list)))
          (pss_one (ps_expr (pe_bm PySem.F.plainAttrs_list PySem.F.slot_list_append PySem.F.type_list_append mt_append (pv 1) (pa_cons (pe_tup (pa_cons (pv 2) (pa_cons (pe_op op_add (pv 2) pe_int) pa_nil))) pa_nil)))))))
      (pss_one (ps_ret (pe_callTy call_tuple_of (by rfl) G.tuple boot_t (pa_cons (pv 1) pa_nil))))), ?_⟩
    have sl : sizeLine = 16777216 := sizeLine_eq
    refine ⟨Nat.zero_le _, fun l hn => ?_⟩
    have lm : (ns.map V.int).length = ns.length := List.length_map ..
    have npl : p ≠ l := ne_of_none hp hn
    refine ⟨_, rfl, p, rfl, ⟨_, SqL.of (same_upd hn _ _ hp)⟩, for_list (K := K) (a := p) (xs := ns.map V.int) (fun i σ H2 => Same H H2 ∧ ∃ ws qs u, H2 l = some (.lst ws) ∧ PairsAt H2 ws qs ∧ Lm.Sh qs ∧ (∀ x, Lm.mem qs x ↔ x ∈ ns.take i) ∧ (∀ q ∈ qs, ∀ x ∈ ns.drop i, q.2 ≤ x) ∧ qs.length ≤ i ∧ σ = [some (.ref p), some (.ref l), u])
      ⟨same_upd hn, [], [], _, upd_same, .nil, trivial, (fun x => by rw [Lm.mem_nil]; simp), (fun q hq => absurd hq (by simp)), Nat.le_refl _, rfl⟩ (fun i σ H2 _ ⟨s2, _⟩ => SqL.of (s2 _ _ hp)) ?_ ?_⟩
    · rintro i x σ H2 hi ⟨sm, ws, qs, u, hL, pq, sh, mm, bb, ql, rfl⟩
      have il : i < ns.length := by
        have := (List.getElem?_eq_some_iff.mp hi).1
        omega
      obtain ⟨y, ey, rfl⟩ : ∃ y, ns[i]? = some y ∧ x = V.int y := by
        rw [List.getElem?_map, List.getElem?_eq_getElem il] at hi
        exact ⟨ns[i], List.getElem?_eq_getElem il, (Option.some.inj hi).symm⟩
      have yd : ns.drop i = y :: ns.drop (i + 1) := by
        rw [List.drop_eq_getElem_cons il]
        congr 1
        exact Option.some.inj ((List.getElem?_eq_getElem il).symm.trans ey)
      have tk : ns.take (i + 1) = ns.take i ++ [y] := by
        rw [List.take_add_one, ey]
        rfl
      have later : ∀ z ∈ ns.drop (i + 1), y + 1 ≤ z := fun z hz => by
        have h1 : Rise (ns.drop i) := List.Pairwise.sublist (List.drop_sublist _ _) rs
        rw [yd] at h1
        have := (List.pairwise_cons.mp h1).1 z hz
        omega
      have wl : ws.length = qs.length := pq.length
      have put : ∀ H3 (o : HO), Same H2 H3 → Same H (upd H3 l o) := fun H3 o e b z hz => by
        rw [upd_ne (ne_of_none hz hn)]
        exact e _ _ (sm _ _ hz)
      have keep : ∀ {H3 : Hp} {o : HO} {us : List V} {rs : Lm.Ps}, Same H2 H3 → PairsAt H2 us rs → PairsAt (upd H3 l o) us rs := fun {H3 o us rs} e h => paired_map (fun v q ⟨b, z1, z2⟩ => ⟨b, z1, by
        rw [upd_ne (ne_of z2 hL (by intro z; cases z))]
        exact e _ _ z2⟩) h
      refine ⟨_, rfl, Nat.zero_le _, fun t0 ht0 => ?_⟩
      have s0 : Same H2 (upd H2 t0 (.lst [])) := same_upd ht0
      have e0 : (upd H2 t0 (.lst [])) t0 = some (.lst []) := upd_same
      generalize upd H2 t0 (.lst []) = H3 at s0 e0 ⊢
      have hL3 := s0 _ _ hL
      refine ⟨.list (qs.map pairD), .list [], .lst (SqL.of hL3) (rdvs_pairs (pq.same s0)), .lst (SqL.of e0) .nil, pairs_list_shaped qs, pairs_list_shaped [], _, rfl, ?_⟩
      rw [eqv_list_nil]
      have app : (∀ q ∈ qs, q.2 < y) → ∀ D : Ends, (∀ H4 ws qs, Same H H4 → H4 l = some (.lst ws) → PairsAt H4 ws qs → Lm.Sh qs → (∀ x, Lm.mem qs x ↔ x ∈ ns.take (i + 1)) → (∀ q ∈ qs, ∀ x ∈ ns.drop (i + 1), q.2 ≤ x) → qs.length ≤ i + 1 → D.nx [some (.ref p), some (.ref l), some (.int y)] H4) →
          (tDrop (tBM K "list" rAppend (tVar 1) (tCons (tTup (tCons (tVar 2) (tCons (tOp (rI0 fun i j => .int (i + j)) (tVar 2) (tC (.int 1))) tNil))) tNil))) D [some (.ref p), some (.ref l), some (.int y)] H3 := fun gap D hN => by
        refine ⟨_, rfl, .inl ⟨rfl, _, SqL.of hL3⟩, _, rfl, _, rfl, _, _, rfl, rfl, by show 2 ≤ sizeLine; decide, fun t ht => ?_⟩
        have nt : l ≠ t := ne_of_none hL3 ht
        refine ⟨l, _, _, rfl, rfl, by rw [upd_ne nt]; exact hL3, by omega, ?_⟩
        refine hN _ _ (qs ++ [(y, y + 1)]) (put _ _ (s0.trans (same_upd ht))) upd_same (paired_snoc (keep (s0.trans (same_upd ht)) pq) ⟨t, rfl, ?_⟩) (sh_snoc sh gap (by omega)) (fun x => ?_) (fun q hq x hx => ?_) (by rw [List.length_append]; show qs.length + 1 ≤ i + 1; omega)
        · rw [upd_ne nt.symm]
          exact upd_same
        · rw [mem_snoc, mm, tk, List.mem_append, List.mem_singleton]
          refine or_congr Iff.rfl ?_
          omega
        · rcases List.mem_append.mp hq with hq | hq
          · exact bb q hq x (by rw [yd]; exact List.mem_cons_of_mem _ hx)
          · cases List.mem_singleton.mp hq
            exact later x hx
      by_cases hq0 : qs = []
      · subst hq0
        refine iteF ?_
        exact app (fun q hq => absurd hq (by simp)) _ fun H4 ws qs e1 e2 e3 e4 e5 e6 e7 => ⟨e1, ws, qs, _, e2, e3, e4, e5, e6, e7, rfl⟩
      · rw [decide_eq_false hq0]
        refine iteT ?_
        obtain ⟨done, c, rfl⟩ : ∃ done c, qs = done ++ [c] := ⟨qs.dropLast, qs.getLast hq0, (List.dropLast_concat_getLast hq0).symm⟩
        obtain ⟨us, u', rfl, pu, cb, rfl, hcb⟩ := paired_last pq
        refine ⟨_, rfl, 1, rfl, l, _, _, _, rfl, rfl, SqL.of hL3, atI_last _ _, cb, _, _, _, rfl, rfl, SqT.of (s0 _ _ hcb), atI_nat (j := 1) rfl, _, rfl, rfl, _, rfl, ?_⟩
        refine ite2 (fun hc => ?_) (fun hc => ?_)
        · have hc' : c.2 = y := by
            have := of_decide_eq_true hc
            injection this
          refine ⟨_, rfl, 1, rfl, l, _, _, _, rfl, rfl, SqL.of hL3, atI_last _ _, cb, _, _, _, rfl, rfl, SqT.of (s0 _ _ hcb), atI_nat (j := 0) rfl, _, rfl, _, _, rfl, rfl, by show 2 ≤ sizeLine; decide, fun t ht => ?_⟩
          have nt : l ≠ t := ne_of_none hL3 ht
          refine ⟨_, rfl, 1, rfl, l, _, _, us.length, rfl, rfl, by rw [upd_ne nt]; exact hL3, by rw [List.length_append]; exact ixN_last, ?_⟩
          refine ⟨put _ _ (s0.trans (same_upd ht)), us ++ [.ref t], done ++ [(c.1, y + 1)], _, ?_, ?_, sh_longer sh (by omega), fun x => ?_, fun q hq x hx => ?_, ?_, rfl⟩
          · rw [set_last]
            exact upd_same
          · refine paired_snoc (keep (s0.trans (same_upd ht)) pu) ⟨t, rfl, ?_⟩
            rw [upd_ne nt.symm]
            exact upd_same
          · have hl := sh.lt c (by simp)
            have m2 : Lm.mem (done ++ [c]) x ↔ Lm.mem done x ∨ (c.1 ≤ x ∧ x < c.2) := mem_snoc
            rw [mem_snoc, tk, List.mem_append, List.mem_singleton, ← mm x, m2, or_assoc]
            refine or_congr Iff.rfl ?_
            omega
          · rcases List.mem_append.mp hq with hq | hq
            · exact bb q (List.mem_append_left _ hq) x (by rw [yd]; exact List.mem_cons_of_mem _ hx)
            · cases List.mem_singleton.mp hq
              exact later x hx
          · rw [List.length_append] at ql ⊢
            show done.length + 1 ≤ i + 1
            have : done.length + 1 ≤ i := ql
            omega
        · have hne : c.2 ≠ y := fun z => hc (decide_eq_true (by rw [z]))
          refine app (fun q hq => ?_) _ fun H4 ws qs e1 e2 e3 e4 e5 e6 e7 => ⟨e1, ws, qs, _, e2, e3, e4, e5, e6, e7, rfl⟩
          have h1 := bb q hq y (by rw [yd]; exact List.mem_cons_self)
          rcases List.mem_append.mp hq with hq' | hq'
          · have h2 := bb c (by simp) y (by rw [yd]; exact List.mem_cons_self)
            have h3 : q.2 < c.1 := sh_before sh hq'
            have h4 := sh.lt c (by simp)
            omega
          · cases List.mem_singleton.mp hq'
            omega
    · rintro σ H2 ⟨sm, ws, qs, u, hL, pq, sh, mm, bb, ql, rfl⟩
      rw [lm] at ql
      have et : ns.take (ns.map V.int).length = ns := by rw [lm, List.take_of_length_le (Nat.le_refl _)]
      rw [et] at mm
      refine ⟨_, rfl, l, _, rfl, .inl ⟨SqL.of hL, fun r hr' => ?_⟩⟩
      exact q r qs _ (sm.trans (same_upd hr')) ⟨ws, upd_same, pq.same (same_upd hr')⟩ sh mm ql
end
end Ls

set_option maxHeartbeats 4000000
namespace Ls
open PySem L2 PySem.W
theorem kit_self {K : Frag} {C : Addr} : kitOne K (.ref C) (.ref C) = some true := by
  unfold kitOne
  rw [if_pos (by simp)]
structure Er2 (K : Frag) (mg : Str → Option Value) (CL CB CT : Addr) : Prop where
  mL : mg "LentError" = some (.ref CL)
  mB : mg "BadPlace" = some (.ref CB)
  mT : mg "Twice" = some (.ref CT)
  eB : ExcK K CB
  eT : ExcK K CT
  hB : exmOne K (.ref CB) (.ref CL) = some true
  hT : exmOne K (.ref CT) (.ref CL) = some true
  nBT : kitOne K (.ref CB) (.ref CT) = some false
  nTB : kitOne K (.ref CT) (.ref CB) = some false
def spLaidW (C : Addr) : Sp := fun vs H Q _ => ∃ (p pw d t : Addr) (ws : Lm.Ps) (kvs : List (Key × V)) (l : Int) (ns : List Int), vs = [.ref p, .int l, .ref t] ∧ SheetAt C H p pw d ws kvs ∧ H t = some (.tup (ns.map V.int)) ∧ ws.length ≤ 1000 ∧ ns.length ≤ 1000 ∧ kvs.length ≤ 1000 ∧
  -(2 ^ 61) ≤ l ∧ l + ns.length ≤ 2 ^ 61 ∧
  ((ns = [] ∨ AnyRow ws l ns.length) → (∀ i : Nat, i < ns.length → valV kvs (Sum.inl (l + (i : Int)) : Key) = none) → ∀ H', H' d = some (.dK (kvs ++ entN l ns ns.length)) → (∀ b o, H b = some o → b ≠ d → H' b = some o) → Q (.str "told") H') ∧
  ((ns = [] ∨ AnyRow ws l ns.length) → (∃ i : Nat, i < ns.length ∧ valV kvs (Sum.inl (l + (i : Int)) : Key) ≠ none) → ∀ H', Same H H' → Q (.str "twice") H') ∧
  (ns ≠ [] → ¬ AnyRow ws l ns.length → ∀ H', Same H H' → Q (.str "place") H')
section
variable {P : Program} {w : World} {K : PySem.W.Frag} {mg : Str → Option Value} {base : Heap}
theorem scLaidW : FnScope ["_law_sheet", "_law_place", "_law_numbers", "_law_word", "e"] ["_law_sheet", "_law_place", "_law_numbers"] (defScope sLaidW) := ⟨rfl, rfl, rfl, by decide +kernel, rfl, by decide +kernel, by decide +kernel⟩
theorem ok_laidW {f fL C CL CB CT : Addr} {fd fdL : FuncData} (F : Fun K "_law_laid" "_law_laid" sLaidW f fd) (G : Gb mg) (T : Cl K mg C) (R : Er2 K mg CL CB CT)
    (GL : FnOk P w K mg base (CXE P w) 3 fL fdL ["self", "place", "numbers"] (spLayG C CB CT)) (bL : Binds K fdL ["self", "place", "numbers"] []) (mL : Meth K C "lay" fL) : FnOk P w K mg base CX0 4 f fd ["_law_sheet", "_law_place", "_law_numbers"] (spLaidW C) := by
  refine F.ok scLaidW (fun vs H Q E h => ?_) (fun cdv A outer s H vs Q E hr h => ?_)
  · obtain ⟨p, pw, d, t, ws, kvs, l, ns, rfl, _⟩ := h
    rfl
  · obtain ⟨p, pw, d, t, ws, kvs, l, ns, rfl, S, ht, lw, ln, lk, b1, b2, yes, no, bad⟩ := h
    refine ⟨_, pss_cons (ps_set (i := 3) scLaidW.nd rfl (Or.inl rfl) pe_str)
      (pss_cons (ps_try (i := 4) rfl scLaidW.nd rfl rfl ⟨rfl, rfl⟩ (by rfl) R.mL
        (fun pn xe E hp => pss_one (ps_if (pt_cmpR op_notN (pe_meth (pv 0) T.cl mL GL hr bL .nil hp (pa_cons (pv 1) (pa_cons (pv 2) pa_nil))) pe_non (nomark _)) (pss_one (ps_set (i := 3) scLaidW.nd rfl (Or.inl rfl) pe_str)) pss_nil))
        (fun e => pss_one (ps_set (i := 3) scLaidW.nd rfl (Or.inl rfl) (pe_ix (r := rIxL K) ix_list (pe_lst (pa_cons pe_str (pa_cons pe_str (pa_cons pe_str (pa_cons pe_str pa_nil)))))
          (pe_op op_add (pe_callTy call_int1 (by rfl) G.int boot_i (pa_cons (pe_callB (r := rIsi K) call_isinst (by rfl) G.isi boot_isi (pa_cons (pv 4) (pa_cons (pe_glob (v := .ref CB) (by rfl) R.mB rfl) pa_nil))) pa_nil))
            (pe_op op_mul pe_int (pe_callTy call_int1 (by rfl) G.int boot_i (pa_cons (pe_callB (r := rIsi K) call_isinst (by rfl) G.isi boot_isi (pa_cons (pv 4) (pa_cons (pe_glob (v := .ref CT) (by rfl) R.mT rfl) pa_nil))) pa_nil)))) (fun _ _ => rfl)))))
      (pss_one (ps_ret (pv 3)))), ?_⟩
    obtain ⟨dx, h1⟩ := S.ob
    refine ⟨_, rfl, p, dx, _, rfl, h1, flds_no _ _ (by decide +kernel) (by decide +kernel), _, rfl, _, rfl, p, pw, d, t, ws, kvs, l, ns, rfl, S, ht, lw, ln, lk, b1, b2, (fun ar fr H' hd kk => ?_), (fun ar tk H1 sm => ⟨CT, rfl, R.hT, fun ea he => ?_⟩), (fun ne ar H1 sm => ⟨CB, rfl, R.hB, fun ea he => ?_⟩)⟩
    · refine ⟨rfl, _, rfl, iteF ?_⟩
      exact ⟨_, rfl, yes ar fr H' hd kk⟩
    · have e0 : (upd H1 ea (excO ea CT)) ea = some (excO ea CT) := upd_same
      have s0 : Same H1 (upd H1 ea (excO ea CT)) := same_upd he
      generalize upd H1 ea (excO ea CT) = H2 at e0 s0 ⊢
      refine ⟨by show 4 ≤ sizeLine; decide, fun m hm => ?_⟩
      have e5 : (upd H2 m (.lst [V.str "other", V.str "place", V.str "twice", V.str "other"])) m = some (.lst [V.str "other", V.str "place", V.str "twice", V.str "other"]) := upd_same
      have s5 : Same H2 (upd H2 m (.lst [V.str "other", V.str "place", V.str "twice", V.str "other"])) := same_upd hm
      generalize upd H2 m (.lst [V.str "other", V.str "place", V.str "twice", V.str "other"]) = H3 at e5 s5 ⊢
      refine ⟨_, rfl, _, _, _, _, rfl, .ref CB, .inr ⟨ea, CT, rfl, s5 _ _ e0, R.eT, R.nTB⟩, .inr ⟨false, rfl, ?_⟩⟩
      refine ⟨_, rfl, _, _, _, _, rfl, .ref CT, .inr ⟨ea, CT, rfl, s5 _ _ e0, R.eT, kit_self⟩, .inr ⟨true, rfl, ?_⟩⟩
      refine ⟨_, _, rfl, rfl, .inl ⟨by decide, by decide⟩, _, _, rfl, rfl, m, _, _, _, rfl, rfl, SqL.of e5, atI_nat (j := 2) rfl, ?_⟩
      exact ⟨_, rfl, no ar tk _ (sm.trans (s0.trans s5))⟩
    · have e0 : (upd H1 ea (excO ea CB)) ea = some (excO ea CB) := upd_same
      have s0 : Same H1 (upd H1 ea (excO ea CB)) := same_upd he
      generalize upd H1 ea (excO ea CB) = H2 at e0 s0 ⊢
      refine ⟨by show 4 ≤ sizeLine; decide, fun m hm => ?_⟩
      have e5 : (upd H2 m (.lst [V.str "other", V.str "place", V.str "twice", V.str "other"])) m = some (.lst [V.str "other", V.str "place", V.str "twice", V.str "other"]) := upd_same
      have s5 : Same H2 (upd H2 m (.lst [V.str "other", V.str "place", V.str "twice", V.str "other"])) := same_upd hm
      generalize upd H2 m (.lst [V.str "other", V.str "place", V.str "twice", V.str "other"]) = H3 at e5 s5 ⊢
      refine ⟨_, rfl, _, _, _, _, rfl, .ref CB, .inr ⟨ea, CB, rfl, s5 _ _ e0, R.eB, kit_self⟩, .inr ⟨true, rfl, ?_⟩⟩
      refine ⟨_, rfl, _, _, _, _, rfl, .ref CT, .inr ⟨ea, CB, rfl, s5 _ _ e0, R.eB, R.nBT⟩, .inr ⟨false, rfl, ?_⟩⟩
      refine ⟨_, _, rfl, rfl, .inl ⟨by decide, by decide⟩, _, _, rfl, rfl, m, _, _, _, rfl, rfl, SqL.of e5, atI_nat (j := 1) rfl, ?_⟩
      exact ⟨_, rfl, bad ne ar _ (sm.trans (s0.trans s5))⟩
end
end Ls

set_option maxHeartbeats 4000000
namespace Ls
open PySem L2 PySem.W
def spLaying : Sp := fun vs H Q _ => ∃ (w p : Addr) (ps : Lm.Ps), vs = [.ref w, .ref p] ∧ Wl H w ∧ WorkM H p ps ∧ Made ps ∧
  ∀ (t tn : Addr) (l : Int) (ns : List Int) (H' : Hp), Kp w H H' → H' t = some (.tup [.int l, .ref tn]) → H' tn = some (.tup (ns.map V.int)) → ns.length ≤ 7 → -(2 ^ 60) ≤ l → l ≤ 2 ^ 60 → Q (.ref t) H'
theorem ndKN : (["_law_k", "_law_number"] : List Str).Nodup := by decide +kernel
theorem eqv_work_tup (ps : Lm.Ps) : PyData.eqv (workD ps) (.tuple []) = decide (ps = []) := eqv_work_nil ps
section
variable {P : Program} {w : World} {K : PySem.W.Frag} {mg : Str → Option Value} {base : Heap}
theorem scLaying : FnScope ["_law_tape_here", "_law_work_here", "_law_number", "_law_numbers", "_law_low", "_law_high"] ["_law_tape_here", "_law_work_here"] (defScope sLaying) := ⟨rfl, rfl, rfl, by decide +kernel, rfl, by decide +kernel, by decide +kernel⟩
theorem ok_laying {f fD : Addr} {fd fdD : FuncData} (F : Fun K "_law_laying" "_law_laying" sLaying f fd) (G : Gb mg) (GD : FnOk P w K mg base CX0 1 fD fdD ["_law_tape_here", "_law_many"] spTake) (kD : keepIn K (.ref fD) = true) (bD : Binds K fdD ["_law_tape_here", "_law_many"] []) (mD : mg "_law_take" = some (.ref fD)) :
    FnOk P w K mg base CX0 2 f fd ["_law_tape_here", "_law_work_here"] spLaying := by
  refine F.ok scLaying (fun vs H Q E h => ?_) (fun cdv A outer s H vs Q E hr h => ?_)
  · obtain ⟨w', p, ps, rfl, _⟩ := h
    rfl
  · obtain ⟨w', p, ps, rfl, hw, hp, md, q⟩ := h
    refine ⟨_, pss_cons (ps_set (i := 2) scLaying.nd rfl (Or.inr rfl) (pe_ix ix_list (pe_lst (pa_cons (pe_op op_sub (pe_call GD hr rfl mD kD bD .nil pass0 (pa_cons (pv 0) (pa_cons pe_int pa_nil))) pe_int)
          (pa_cons (pe_op op_mul (pe_op op_sub (pe_call GD hr rfl mD kD bD .nil pass0 (pa_cons (pv 0) (pa_cons (pe_op op_mul pe_int (pe_op op_pow pe_int pe_int)) pa_nil))) (pe_op op_pow pe_int pe_int)) (pe_op op_pow pe_int pe_int)) pa_nil)))
          (pe_call GD hr rfl mD kD bD .nil pass0 (pa_cons (pv 0) (pa_cons pe_int pa_nil))) (fun _ _ => rfl)))
      (pss_cons (ps_set (i := 3) scLaying.nd rfl (Or.inl rfl) (pe_callTy call_tuple_of (by rfl) G.tuple boot_t (pa_cons (pe_compF (NB := ["_law_k", "_law_number"]) (n := 1) (js := [2]) (g := gName 0) (cl := [("_law_number", s.heap.objs.size + 1)]) rfl (by decide +kernel) (by decide +kernel) rfl
          (Takes.of rfl (all_cons rfl all_nil) (all_cons (fun z => nomatch z) (all_cons (fun z => nomatch z) (all_cons (fun _ => rfl) all_nil))) rfl
            (fun k j h => match k, j, h with | 0, _, rfl => rfl | k + 1, _, h => absurd h (by simp)) (all_cons ⟨.inl rfl, .inl rfl, rfl⟩ all_nil))
          (pi_range1 rfl G.range (pa_cons (pe_call GD hr rfl mD kD bD .nil pass0 (pa_cons (pv 0) (pa_cons pe_int pa_nil))) pa_nil)) (fun C s H fp pn => pg_name (i := 0) ndKN rfl (Or.inl rfl) (.inr rfl)) (fun C s H fp pn => pts_nil)
          (fun C s H fp pn => pe_op op_add (pv 1) (pv 0))) pa_nil)))
      (pss_cons (ps_if (pt_cmpR (op_eqD hr.units) (pv 1) (pe_tup pa_nil) (nomark _)) (pss_one (ps_ret (pe_tup (pa_cons (pe_op op_sub (pe_call GD hr rfl mD kD bD .nil pass0 (pa_cons (pv 0) (pa_cons pe_int pa_nil))) pe_int) (pa_cons (pv 3) pa_nil))))) pss_nil)
      (pss_cons (ps_asg (pe_ix ix_tup (pv 1) (pe_call GD hr rfl mD kD bD .nil pass0 (pa_cons (pv 0) (pa_cons (pe_callB call_len_seq (by rfl) G.len PySem.boot_len (pa_cons (pv 1) pa_nil)) pa_nil))) (fun _ _ => rfl)) (pg_tup (n := 2) rfl (pgs_cons (pg_name (i := 4) scLaying.nd rfl (Or.inl rfl)) (pgs_cons (pg_name (i := 5) scLaying.nd rfl (Or.inl rfl)) pgs_nil))))
      (pss_one (ps_ret (pe_tup (pa_cons (pe_op op_add (pe_op op_sub (pv 4) pe_int) (pe_call GD hr rfl mD kD bD .nil pass0 (pa_cons (pv 0) (pa_cons (pe_op op_add (pe_op op_sub (pv 5) (pv 4)) pe_int) pa_nil)))) (pa_cons (pv 3) pa_nil)))))))), ?_⟩
    have sl : sizeLine = 16777216 := sizeLine_eq
    have pw9 : CPow 10 9 := ⟨by decide, by decide, by decide⟩
    have pw8 : CPow 10 8 := ⟨by decide, by decide, by decide⟩
    have v9 : (10 : Int) ^ (9 : Int).toNat = 1000000000 := by decide
    have v8 : (10 : Int) ^ (8 : Int).toNat = 100000000 := by decide
    refine ⟨_, rfl, w', 9, rfl, hw, by decide, by decide, fun r1 H1 k1 a1 b1 => ⟨_, _, rfl, rfl, ?_⟩⟩
    refine ⟨_, rfl, _, _, rfl, rfl, pw9, _, _, rfl, rfl, .inl ⟨by decide, by decide⟩, w', _, rfl, k1.wl, (by rw [v9]; decide), (by rw [v9]; decide), fun r2 H2 k2 a2 b2 => ?_⟩
    refine ⟨_, _, rfl, rfl, pw9, _, _, rfl, rfl, _, _, rfl, rfl, pw8, _, _, rfl, rfl, .inr ⟨by rw [v8]; decide, by rw [v8]; decide⟩, by show 2 ≤ sizeLine; decide, fun l2 h2 => ?_⟩
    have k12 := k1.trans k2
    have e2 : (upd H2 l2 (.lst [.int (r1 - 4), .int ((r2 - 10 ^ (9 : Int).toNat) * 10 ^ (8 : Int).toNat)])) l2 = some (.lst [.int (r1 - 4), .int ((r2 - 10 ^ (9 : Int).toNat) * 10 ^ (8 : Int).toNat)]) := upd_same
    have kA : Kp w' H (upd H2 l2 (.lst [.int (r1 - 4), .int ((r2 - 10 ^ (9 : Int).toNat) * 10 ^ (8 : Int).toNat)])) := k12.same (same_upd h2)
    have n2 : l2 ≠ w' := (k2.wl.ne h2).symm
    refine ⟨_, rfl, w', 2, rfl, kA.wl, by decide, by decide, fun r3 H4 k4 a4 b4 => ?_⟩
    obtain ⟨nu, _, en⟩ := pick (ns := [r1 - 4, (r2 - 10 ^ (9 : Int).toNat) * 10 ^ (8 : Int).toNat]) (i := r3) a4 (by show r3 < ((2 : Nat) : Int); omega)
    refine ⟨l2, _, _, _, rfl, rfl, SqL.of (k4.at_ _ _ n2 e2), en, ?_⟩
    have kB := kA.trans k4
    -- the numbers
    refine ⟨_, rfl, w', 8, rfl, kB.wl, by decide, by decide, fun rn H5 k5 a5 b5 => ?_⟩
    have kC := kB.trans k5
    refine ⟨rn, rfl, by omega, by omega, fun acc hacc => ?_⟩
    have nacc : acc ≠ w' := (k5.wl.ne hacc).symm
    refine ⟨fun i m ys H' => m = rn.toNat - i ∧ i ≤ rn.toNat ∧ ys = ((List.range i).map fun (j : Nat) => nu + (0 + (j : Int))).map V.int ∧ Same H5 H' ∧ H' acc = some (.lst ys), ⟨_, rfl, Nat.zero_le _, rfl, same_upd hacc, upd_same⟩, ?_⟩
    rintro i m ys H' ⟨rfl, hi', rfl, sm, hA⟩
    refine ⟨hA, ?_⟩
    by_cases hlt : i < rn.toNat
    · refine .inr ⟨hlt, ?_⟩
      rintro y H'' ⟨rfl, rfl⟩
      refine gName_in ?_
      refine ⟨rfl, ?_⟩
      refine tYes_in ?_
      refine iteT ?_
      refine ⟨_, rfl, _, rfl, _, _, rfl, rfl, hA, by rw [List.length_map, List.length_map, List.length_range]; omega, _, ?_, rfl, hlt, ?_, fun b o z => ?_, upd_same⟩
      · omega
      · rw [List.range_succ, List.map_append, List.map_append]
        rfl
      · rw [upd_ne (ne_of_none z hacc)]
        exact sm _ _ z
    · refine .inl ⟨by show rn.toNat ≤ i; omega, ?_⟩
      have ei : i = rn.toNat := by omega
      refine ⟨acc, _, rfl, .inl ⟨SqL.of hA, fun tn htn => ?_⟩⟩
      have lns : ((List.range i).map fun (j : Nat) => nu + (0 + (j : Int))).length ≤ 7 := by
        rw [List.length_map, List.length_range]
        omega
      generalize (List.range i).map (fun (j : Nat) => nu + (0 + (j : Int))) = ns at lns hA htn ⊢
      have s6 : Same H5 (upd H' tn (.tup (ns.map V.int))) := sm.trans (same_upd htn)
      have etn : (upd H' tn (.tup (ns.map V.int))) tn = some (.tup (ns.map V.int)) := upd_same
      generalize upd H' tn (.tup (ns.map V.int)) = H6 at s6 etn ⊢
      have kD := kC.same s6
      -- is there work
      have hp6 : WorkM H6 p ps := by
        obtain ⟨xs, x1, x2⟩ := hp
        exact ⟨xs, kD.tup hw x1, pairs_kept kD hw x2⟩
      refine ⟨_, rfl, Nat.zero_le _, fun t0 ht0 => ?_⟩
      have s7 : Same H6 (upd H6 t0 (.tup [])) := same_upd ht0
      have et0 : (upd H6 t0 (.tup [])) t0 = some (.tup []) := upd_same
      generalize upd H6 t0 (.tup []) = H7 at s7 et0 ⊢
      have kE := kD.same s7
      refine ⟨workD ps, .tuple [], work_rdv (hp6.same s7), .tup (SqT.of et0) .nil, work_shaped ps, (Gd.tup (n := 0) gd_nil).shaped (by decide), _, rfl, ?_⟩
      rw [eqv_work_tup]
      refine ite2 (fun hc => ?_) (fun hc => ?_)
      · refine ⟨_, rfl, w', 9, rfl, kE.wl, by decide, by decide, fun r4 H8 k8 a8 b8 => ⟨_, _, rfl, rfl, _, rfl, by show 2 ≤ sizeLine; decide, fun t ht => ?_⟩⟩
        exact q t tn _ ns _ ((kE.trans k8).same (same_upd ht)) upd_same (same_upd ht _ _ (k8.tup kE.wl (s7 _ _ etn))) lns (by omega) (by omega)
      · have hne : ps ≠ [] := fun z => hc (decide_eq_true z)
        obtain ⟨xs, x1, x2⟩ := hp6.same s7
        have lx : xs.length = ps.length := x2.length
        have lps := md.len
        have pos : 0 < ps.length := List.length_pos_iff.mpr hne
        refine ⟨_, rfl, _, rfl, _, rfl, p, _, rfl, .inr (SqT.of x1), w', _, rfl, kE.wl, by omega, by omega, fun r4 H8 k8 a8 b8 => ?_⟩
        obtain ⟨j, rfl⟩ := Int.eq_ofNat_of_zero_le a8
        have hj : j < ps.length := by omega
        obtain ⟨b, hb1, hb2⟩ := pair_ref x2 hj
        have mc := md.at_ ps[j] (List.getElem_mem hj)
        have lt := md.wk.lt ps[j] (List.getElem_mem hj)
        refine ⟨p, xs, _, _, rfl, rfl, SqT.of (k8.tup kE.wl x1), atI_nat hb1, ?_⟩
        refine ⟨b, _, rfl, SqT.of (k8.tup kE.wl hb2), rfl, _, _, rfl, _, _, rfl, rfl, ?_⟩
        have kF := kE.trans k8
        refine ⟨_, rfl, _, _, rfl, rfl, _, rfl, _, rfl, _, rfl, _, _, rfl, rfl, _, _, rfl, rfl, w', _, rfl, kF.wl, by omega, by omega, fun r5 H9 k9 a9 b9 => ⟨_, _, rfl, rfl, _, rfl, by show 2 ≤ sizeLine; decide, fun t ht => ?_⟩⟩
        exact q t tn _ ns _ ((kF.trans k9).same (same_upd ht)) upd_same (same_upd ht _ _ (k9.tup kF.wl (k8.tup kE.wl (s7 _ _ etn)))) lns (by omega) (by omega)
end
end Ls

set_option maxHeartbeats 4000000
namespace L2
open PySem PySem.Spec PyProof.Rows
theorem for_zip {l t : Addr} {xs ys : List V} {g : TG} {tb : TS} {D : Ends} {σ : St} {H : Hp} (Pv : Nat → St → Hp → Prop) (h0 : Pv 0 σ H) (hl : ∀ i σ H, i ≤ xs.length → Pv i σ H → H l = some (.lst xs) ∧ H t = some (.tup ys)) (le : xs.length ≤ ys.length)
    (hs : ∀ i x y σ H T, xs[i]? = some x → ys[i]? = some y → Pv i σ H → H T = none → g (.ref T) σ (upd H T (.tup [x, y])) fun σ2 H2 => tb { D with nx := Pv (i + 1), ct := Pv (i + 1), bk := D.nx } σ2 H2) (hd : ∀ σ H, Pv xs.length σ H → D.nx σ H) :
    ∃ W : Nat → Nat → St → Hp → Prop, (∃ m, W 0 m σ H) ∧ ∀ i m σ H, W i m σ H →
      ((Itz l t).stop i H ∧ D.nx σ H) ∨ ((Itz l t).go i H ∧ ∃ N : St → Hp → Prop, (∀ σ' H', N σ' H' → ∃ m', m' < m ∧ W (i + 1) m' σ' H') ∧ ∀ x H', (Itz l t).yld i H x H' → g x σ H' fun σ2 H2 => tb { D with nx := N, ct := N, bk := D.nx } σ2 H2) := by
  refine ⟨fun i m σ H => m = xs.length - i ∧ i ≤ xs.length ∧ Pv i σ H, ⟨xs.length, by simp, Nat.zero_le _, h0⟩, ?_⟩
  rintro i m σ H ⟨rfl, hi, p⟩
  obtain ⟨q1, q2⟩ := hl i σ H hi p
  by_cases hlt : i < xs.length
  · refine .inr ⟨⟨xs, ys, xs[i], ys[i], q1, q2, List.getElem?_eq_getElem hlt, List.getElem?_eq_getElem (by omega)⟩, Pv (i + 1), fun σ' H' p' => ⟨xs.length - (i + 1), by omega, rfl, hlt, p'⟩, fun v H' y => ?_⟩
    obtain ⟨T, x, y, hT, rfl, rfl, y1, y2⟩ := y
    exact hs i x y σ _ T (y1 xs q1) (y2 ys q2) p hT
  · have e : i = xs.length := by omega
    subst e
    exact .inl ⟨⟨xs, q1, Nat.le_refl _⟩, hd σ H p⟩
end L2
namespace Ls
open PySem L2 PySem.W
/-! ### the law's table -/
def optV : Option Int → V
  | none => .non
  | some n => .int n
def tbl (f : Int → Option Int) (pls : List Int) : List (Key × V) := pls.map fun x => ((Sum.inl x : Key), optV (f x))
theorem tbl_len (f : Int → Option Int) (pls : List Int) : (tbl f pls).length = pls.length := List.length_map ..
theorem val_tbl (f : Int → Option Int) (x : Int) : ∀ pls : List Int, valV (tbl f pls) (Sum.inl x : Key) = if x ∈ pls then some (optV (f x)) else none
  | [] => rfl
  | y :: t => by
    show valV (((Sum.inl y : Key), optV (f y)) :: tbl f t) (Sum.inl x) = _
    by_cases h : y = x
    · subst h
      rw [valV_pos rfl, if_pos List.mem_cons_self]
    · rw [valV_neg (fun z => h (Sum.inl.inj z)), val_tbl f x t]
      by_cases hx : x ∈ t
      · rw [if_pos hx, if_pos (List.mem_cons_of_mem _ hx)]
      · rw [if_neg hx, if_neg (fun z => (List.mem_cons.mp z).elim (fun e => h e.symm) hx)]
/-- the numbers of a row, laid over what is there -/
def over (f : Int → Option Int) (l : Int) (ns : List Int) (i : Nat) : Int → Option Int := fun x => if l ≤ x ∧ x < l + (i : Int) then some (ns.getD (x - l).toNat 0) else f x
theorem over_zero (f : Int → Option Int) (l : Int) (ns : List Int) : over f l ns 0 = f := by
  funext x
  unfold over
  rw [if_neg (by omega)]
theorem put_tbl {f : Int → Option Int} {l : Int} {ns pls : List Int} {i : Nat} (h : l + (i : Int) ∈ pls) : putK (tbl (over f l ns i) pls) (Sum.inl (l + (i : Int)) : Key) (V.int (ns.getD i 0)) = tbl (over f l ns (i + 1)) pls := by
  have ha : (tbl (over f l ns i) pls).any (fun kv => decide (kv.1 = (Sum.inl (l + (i : Int)) : Key))) = true := by
    rw [valV_any, val_tbl, if_pos h]
    rfl
  unfold putK
  rw [if_pos ha]
  unfold tbl
  rw [List.map_map]
  refine List.map_congr_left fun x _ => ?_
  show (if (Sum.inl x : Key) = Sum.inl (l + (i : Int)) then ((Sum.inl x : Key), V.int (ns.getD i 0)) else ((Sum.inl x : Key), optV (over f l ns i x))) = _
  by_cases e : x = l + (i : Int)
  · subst e
    rw [if_pos rfl]
    unfold over
    rw [if_pos (by omega)]
    have : (l + (i : Int) - l).toNat = i := by omega
    rw [this]
    rfl
  · rw [if_neg (fun z => e (Sum.inl.inj z))]
    unfold over
    by_cases z : l ≤ x ∧ x < l + (i : Int)
    · rw [if_pos z, if_pos (by omega)]
    · rw [if_neg z, if_neg (by omega)]
theorem eqv_ints_nil (zs : List Int) : PyData.eqv (.list (zs.map PyData.int)) (.list []) = decide (zs = []) := by
  cases zs with
  | nil => simp [PyData.eqv, PyData.eqvAll]
  | cons p ps => simp [PyData.eqv, PyData.eqvAll]
theorem ints_shaped (zs : List Int) : SeqAt.shaped (.list (zs.map PyData.int)) = true := by
  refine (Gd.lst (n := 0) fun d hd => ?_).shaped (by decide)
  obtain ⟨q, _, rfl⟩ := List.mem_map.mp hd
  exact Gd.int q
theorem pl_succ (l : Int) (n : Nat) : pl l (n + 1) = pl l n ++ [l + (n : Int)] := by
  unfold pl
  rw [List.range_succ, List.map_append]
  rfl
theorem pl_get {l : Int} {n i : Nat} (h : i < n) : (pl l n)[i]? = some (l + (i : Int)) := by
  unfold pl
  rw [List.getElem?_map, List.getElem?_range h]
  rfl
def spDue : Sp := fun vs H Q _ => ∃ (tb t : Addr) (f : Int → Option Int) (pls : List Int) (l : Int) (ns : List Int), vs = [.ref tb, .int l, .ref t] ∧ H tb = some (.dK (tbl f pls)) ∧ H t = some (.tup (ns.map V.int)) ∧ pls.length ≤ 1000 ∧ ns.length ≤ 7 ∧
  ((∃ i : Nat, i < ns.length ∧ l + (i : Int) ∉ pls) → ∀ H', Same H H' → Q (.str "place") H') ∧
  ((∀ i : Nat, i < ns.length → l + (i : Int) ∈ pls) → (∃ i : Nat, i < ns.length ∧ f (l + (i : Int)) ≠ none) → ∀ H', Same H H' → Q (.str "twice") H') ∧
  ((∀ i : Nat, i < ns.length → l + (i : Int) ∈ pls) → (∀ i : Nat, i < ns.length → f (l + (i : Int)) = none) → ∀ H', H' tb = some (.dK (tbl (over f l ns ns.length) pls)) → (∀ b o, H b = some o → b ≠ tb → H' b = some o) → Q (.str "told") H')
structure Gb1 (mg : Str → Option Value) : Prop where
  zip : mg "zip" = none
  dict : mg "dict" = none
theorem ndKP : (["_law_k", "_law_place"] : List Str).Nodup := by decide +kernel
theorem ndOTb : (["_law_one", "_law_table"] : List Str).Nodup := by decide +kernel
section
variable {P : Program} {w : World} {K : PySem.W.Frag} {mg : Str → Option Value} {base : Heap}
theorem scDue : FnScope ["_law_table", "_law_place", "_law_numbers", "_law_here", "_law_one", "_law_number"] ["_law_table", "_law_place", "_law_numbers"] (defScope sDue) := ⟨rfl, rfl, rfl, by decide +kernel, rfl, by decide +kernel, by decide +kernel⟩
theorem ok_due {f : Addr} {fd : FuncData} (F : Fun K "_law_due" "_law_due" sDue f fd) (G : Gb mg) (G1 : Gb1 mg) : FnOk P w K mg base CX0 2 f fd ["_law_table", "_law_place", "_law_numbers"] spDue := by
  refine F.ok scDue (fun vs H Q E h => ?_) (fun cdv A outer s H vs Q E hr h => ?_)
  · obtain ⟨tb, t, f, pls, l, ns, rfl, _⟩ := h
    rfl
  · obtain ⟨tb, t, f, pls, l, ns, rfl, htb, ht, lp, ln, q1, q2, q3⟩ := h
    have hu := hu_of hr
    refine ⟨_, pss_cons (ps_setC (ix := 3) scDue.nd rfl (Or.inl rfl) (NB := ["_law_k", "_law_place"]) (n := 1) (js := [1]) (g := gName 0) (cl := [("_law_place", s.heap.objs.size + 1 + 1)]) rfl (by decide +kernel) (by decide +kernel) rfl
          (Takes.of rfl (all_cons rfl all_nil) (all_cons (fun z => nomatch z) (all_cons (fun z => nomatch z) (all_cons (fun _ => rfl) all_nil))) rfl (fun k j h => match k, j, h with | 0, _, rfl => rfl | k + 1, _, h => absurd h (by simp)) (all_cons ⟨.inl rfl, .inl rfl, rfl⟩ all_nil))
          (pi_range1 rfl G.range (pa_cons (pe_callB call_len_seq (by rfl) G.len PySem.boot_len (pa_cons (pv 2) pa_nil)) pa_nil)) (fun C s H fp pn => pg_name (i := 0) ndKP rfl (Or.inl rfl) (.inr rfl)) (fun C s H fp pn => pts_nil) (fun C s H fp pn => pe_op op_add (pv 1) (pv 0)))
      (pss_cons (ps_if (pt_cmpR (op_neD hr.units) (pe_compF (NB := ["_law_one", "_law_table"]) (n := 1) (js := [0]) (g := gName 0) (cl := [("_law_table", s.heap.objs.size + 1)]) rfl (by decide +kernel) (by decide +kernel) rfl
          (Takes.of rfl (all_cons rfl all_nil) (all_cons (fun z => nomatch z) (all_cons (fun z => nomatch z) (all_cons (fun _ => rfl) all_nil))) rfl (fun k j h => match k, j, h with | 0, _, rfl => rfl | k + 1, _, h => absurd h (by simp)) (all_cons ⟨.inl rfl, .inl rfl, rfl⟩ all_nil))
          (pi_list (pv 3)) (fun C s H fp pn => pg_name (i := 0) ndOTb rfl (Or.inl rfl) (.inr rfl)) (fun C s H fp pn => pts_one (pt_cmp (pc_dnotin (by exact hu) (pv 0) (pv 1)))) (fun C s H fp pn => pv 0)) (pe_lst pa_nil) (nomark _)) (pss_one (ps_ret pe_str)) pss_nil)
      (pss_cons (ps_if (pt_cmpR (op_neD hr.units) (pe_compF (NB := ["_law_one", "_law_table"]) (n := 1) (js := [0]) (g := gName 0) (cl := [("_law_table", s.heap.objs.size + 1)]) rfl (by decide +kernel) (by decide +kernel) rfl
          (Takes.of rfl (all_cons rfl all_nil) (all_cons (fun z => nomatch z) (all_cons (fun z => nomatch z) (all_cons (fun _ => rfl) all_nil))) rfl (fun k j h => match k, j, h with | 0, _, rfl => rfl | k + 1, _, h => absurd h (by simp)) (all_cons ⟨.inl rfl, .inl rfl, rfl⟩ all_nil))
          (pi_list (pv 3)) (fun C s H fp pn => pg_name (i := 0) ndOTb rfl (Or.inl rfl) (.inr rfl)) (fun C s H fp pn => pts_one (pt_cmpR op_notN (pe_dget (by exact hu) (pv 1) (pv 0) (fun _ _ => rfl)) pe_non (nomark _))) (fun C s H fp pn => pv 0)) (pe_lst pa_nil) (nomark _)) (pss_one (ps_ret pe_str)) pss_nil)
      (pss_cons (ps_for PassesOwn.never rfl (pi_zip rfl G1.zip (pa_cons (pv 3) (pa_cons (pv 2) pa_nil))) (pg_tup (n := 2) rfl (pgs_cons (pg_name (i := 4) scDue.nd rfl (Or.inl rfl)) (pgs_cons (pg_name (i := 5) scDue.nd rfl (Or.inl rfl)) pgs_nil))) (pss_one (ps_dput hu (pv 0) (pv 4) (pv 5) rfl)))
      (pss_one (ps_ret pe_str))))), ?_⟩
    have sl : sizeLine = 16777216 := sizeLine_eq
    have lm : (ns.map V.int).length = ns.length := List.length_map ..
    -- here
    refine ⟨_, rfl, t, _, rfl, .inr (SqT.of ht), _, rfl, by omega, by omega, fun lh hlh => ?_⟩
    have ett : ((((ns.map V.int).length : Nat) : Int)).toNat = ns.length := by rw [lm]; omega
    rw [ett]
    refine ⟨fun i m ys H' => m = ns.length - i ∧ i ≤ ns.length ∧ ys = (pl l i).map V.int ∧ Same H H' ∧ H' lh = some (.lst ys), ⟨_, rfl, Nat.zero_le _, rfl, same_upd hlh, upd_same⟩, ?_⟩
    rintro i m ys H' ⟨rfl, hi', rfl, sm, hA⟩
    refine ⟨hA, ?_⟩
    by_cases hlt : i < ns.length
    · refine .inr ⟨hlt, ?_⟩
      rintro y H'' ⟨rfl, rfl⟩
      refine gName_in ?_
      refine ⟨rfl, ?_⟩
      refine tYes_in ?_
      refine iteT ?_
      refine ⟨_, rfl, _, rfl, _, _, rfl, rfl, hA, by rw [List.length_map, pl_len]; omega, _, ?_, rfl, hlt, ?_, fun b o z => ?_, upd_same⟩
      · omega
      · rw [pl_succ, List.map_append]
        show _ = _ ++ [V.int (l + (i : Int))]
        rw [show (0 : Int) + (i : Int) = (i : Int) by omega]
      · rw [upd_ne (ne_of_none z hlh)]
        exact sm _ _ z
    refine .inl ⟨by show ns.length ≤ i; omega, ?_⟩
    have ei : i = ns.length := by omega
    subst ei
    clear hlt hi'
    -- those that are none of the table's
    have htb1 := sm _ _ htb
    refine ⟨_, rfl, lh, rfl, ⟨_, SqL.of hA⟩, fun a1 ha1 => ?_⟩
    have lpl : ((pl l ns.length).map V.int).length = ns.length := by rw [List.length_map, pl_len]
    refine ⟨fun i m ys H1 => m = ns.length - i ∧ i ≤ ns.length ∧ ys = ((pl l i).filter fun x => decide (x ∉ pls)).map V.int ∧ Same H' H1 ∧ H1 a1 = some (.lst ys), ⟨_, rfl, Nat.zero_le _, rfl, same_upd ha1, upd_same⟩, ?_⟩
    rintro i m ys H1 ⟨rfl, hi, rfl, s1, hA1⟩
    refine ⟨hA1, ?_⟩
    have lf : ∀ (p : Int → Bool), (((pl l i).filter p).map V.int).length ≤ i := fun p => by
      rw [List.length_map]
      exact Nat.le_trans (List.length_filter_le _ _) (by rw [pl_len]; exact Nat.le_refl _)
    by_cases hlt : i < ns.length
    · refine .inr ⟨⟨_, _, SqL.of (s1 _ _ hA), List.getElem?_eq_getElem (by omega)⟩, ?_⟩
      rintro y H'' ⟨rfl, hy⟩
      have ey := hy _ (SqL.of (s1 _ _ hA))
      rw [List.getElem?_map, pl_get hlt] at ey
      cases ey
      refine gName_in ?_
      refine ⟨rfl, ?_⟩
      refine ⟨_, rfl, _, rfl, tb, _, rfl, DGet.k (k := Sum.inl (l + (i : Int))) (s1 _ _ htb1), _, rfl, ?_⟩
      rw [val_tbl]
      have step : ∀ b : Bool, b = decide (l + (i : Int) ∉ pls) → ((pl l (i + 1)).filter fun x => decide (x ∉ pls)).map V.int = ((pl l i).filter fun x => decide (x ∉ pls)).map V.int ++ (if b = true then [V.int (l + (i : Int))] else []) := fun b hb => by
        rw [pl_succ, List.filter_append, List.map_append]
        congr 1
        subst hb
        by_cases z : l + (i : Int) ∉ pls
        · rw [decide_eq_true z]
          simp [z]
        · rw [decide_eq_false z]
          simp at z
          simp [z]
      by_cases hm : l + (i : Int) ∈ pls
      · rw [if_pos hm]
        refine iteF ?_
        refine ⟨_, ?_, rfl, hlt, ?_, s1, hA1⟩
        · omega
        · rw [step false (by simp [hm])]
          simp
      · rw [if_neg hm]
        refine iteT ?_
        refine ⟨_, rfl, hA1, by have := lf fun x => decide (x ∉ pls); omega, _, ?_, rfl, hlt, ?_, fun b o z => ?_, upd_same⟩
        · omega
        · rw [step true (by simp [hm])]
          simp
        · rw [upd_ne (ne_of_none z ha1)]
          exact s1 _ _ z
    refine .inl ⟨⟨_, SqL.of (s1 _ _ hA), by omega⟩, ?_⟩
    have ei : i = ns.length := by omega
    subst ei
    clear hlt hi
    refine ⟨Nat.zero_le _, fun t1 ht1 => ?_⟩
    have s2 : Same H1 (upd H1 t1 (.lst [])) := same_upd ht1
    have e2 : (upd H1 t1 (.lst [])) t1 = some (.lst []) := upd_same
    generalize upd H1 t1 (.lst []) = H2 at s2 e2 ⊢
    refine ⟨.list _, .list [], .lst (SqL.of (s2 _ _ hA1)) (rdvs_ints _), .lst (SqL.of e2) .nil, ints_shaped _, ints_shaped [], _, rfl, ?_⟩
    rw [eqv_ints_nil]
    have sm2 : Same H H2 := sm.trans (s1.trans s2)
    by_cases hall : ∀ i : Nat, i < ns.length → l + (i : Int) ∈ pls
    rotate_left
    · obtain ⟨i, hi⟩ := Classical.not_forall.mp hall
      have hi1 : i < ns.length := by
        by_cases z : i < ns.length
        · exact z
        · exact absurd (fun y => absurd y z) hi
      have hi2 : l + (i : Int) ∉ pls := fun z => hi fun _ => z
      have ne : ((pl l ns.length).filter fun x => decide (x ∉ pls)) ≠ [] := fun z => by
        have : l + (i : Int) ∈ (pl l ns.length).filter fun x => decide (x ∉ pls) := List.mem_filter.mpr ⟨mem_pl.mpr (by omega), decide_eq_true hi2⟩
        rw [z] at this
        cases this
      rw [decide_eq_false ne]
      refine iteT ?_
      exact q1 ⟨i, hi1, hi2⟩ _ sm2
    have em : ((pl l ns.length).filter fun x => decide (x ∉ pls)) = [] := by
      refine List.filter_eq_nil_iff.mpr fun x hx => ?_
      have h1 := mem_pl.mp hx
      have h2 := hall (x - l).toNat (by omega)
      rw [show l + (((x - l).toNat : Nat) : Int) = x by omega] at h2
      simp [h2]
    rw [em]
    refine iteF ?_
    -- those that have a result
    have hA2 : H2 lh = some (.lst ((pl l ns.length).map V.int)) := s2 _ _ (s1 _ _ hA)
    have htb2 := sm2 _ _ htb
    refine ⟨_, rfl, lh, rfl, ⟨_, SqL.of hA2⟩, fun a3 ha3 => ?_⟩
    refine ⟨fun i m ys H3 => m = ns.length - i ∧ i ≤ ns.length ∧ ys = ((pl l i).filter fun x => decide (f x ≠ none)).map V.int ∧ Same H2 H3 ∧ H3 a3 = some (.lst ys), ⟨_, rfl, Nat.zero_le _, rfl, same_upd ha3, upd_same⟩, ?_⟩
    rintro i m ys H3 ⟨rfl, hi, rfl, s3, hA3⟩
    refine ⟨hA3, ?_⟩
    have lf : ∀ (p : Int → Bool), (((pl l i).filter p).map V.int).length ≤ i := fun p => by
      rw [List.length_map]
      exact Nat.le_trans (List.length_filter_le _ _) (by rw [pl_len]; exact Nat.le_refl _)
    by_cases hlt : i < ns.length
    · refine .inr ⟨⟨_, _, SqL.of (s3 _ _ hA2), List.getElem?_eq_getElem (by omega)⟩, ?_⟩
      rintro y H'' ⟨rfl, hy⟩
      have ey := hy _ (SqL.of (s3 _ _ hA2))
      rw [List.getElem?_map, pl_get hlt] at ey
      cases ey
      refine gName_in ?_
      refine ⟨rfl, ?_⟩
      have dg : DGet H'' tb (.int (l + (i : Int))) (some (optV (f (l + (i : Int))))) := by
        have := DGet.k (k := (Sum.inl (l + (i : Int)) : Key)) (s3 _ _ htb2)
        rw [val_tbl, if_pos (hall i hlt)] at this
        exact this
      refine ⟨_, rfl, _, rfl, tb, _, rfl, dg, rfl, _, rfl, ?_⟩
      have step : ∀ b : Bool, b = decide (f (l + (i : Int)) ≠ none) → ((pl l (i + 1)).filter fun x => decide (f x ≠ none)).map V.int = ((pl l i).filter fun x => decide (f x ≠ none)).map V.int ++ (if b = true then [V.int (l + (i : Int))] else []) := fun b hb => by
        rw [pl_succ, List.filter_append, List.map_append]
        congr 1
        subst hb
        by_cases z : f (l + (i : Int)) = none
        · simp [z]
        · simp [z]
      cases hf : f (l + (i : Int)) with
      | none =>
        refine iteF ?_
        refine ⟨_, ?_, rfl, hlt, ?_, s3, hA3⟩
        · omega
        · rw [step false (by simp [hf])]
          simp
      | some n =>
        refine iteT ?_
        refine ⟨_, rfl, hA3, by have := lf fun x => decide (f x ≠ none); omega, _, ?_, rfl, hlt, ?_, fun b o z => ?_, upd_same⟩
        · omega
        · rw [step true (by simp [hf])]
          simp
        · rw [upd_ne (ne_of_none z ha3)]
          exact s3 _ _ z
    refine .inl ⟨⟨_, SqL.of (s3 _ _ hA2), by omega⟩, ?_⟩
    have ei : i = ns.length := by omega
    subst ei
    clear hlt hi
    refine ⟨Nat.zero_le _, fun t4 ht4 => ?_⟩
    have s4 : Same H3 (upd H3 t4 (.lst [])) := same_upd ht4
    have e4 : (upd H3 t4 (.lst [])) t4 = some (.lst []) := upd_same
    generalize upd H3 t4 (.lst []) = H4 at s4 e4 ⊢
    refine ⟨.list _, .list [], .lst (SqL.of (s4 _ _ hA3)) (rdvs_ints _), .lst (SqL.of e4) .nil, ints_shaped _, ints_shaped [], _, rfl, ?_⟩
    rw [eqv_ints_nil]
    have sm4 : Same H H4 := sm2.trans (s3.trans s4)
    by_cases hno : ∀ i : Nat, i < ns.length → f (l + (i : Int)) = none
    rotate_left
    · obtain ⟨i, hi⟩ := Classical.not_forall.mp hno
      have hi1 : i < ns.length := by
        by_cases z : i < ns.length
        · exact z
        · exact absurd (fun y => absurd y z) hi
      have hi2 : f (l + (i : Int)) ≠ none := fun z => hi fun _ => z
      have ne : ((pl l ns.length).filter fun x => decide (f x ≠ none)) ≠ [] := fun z => by
        have : l + (i : Int) ∈ (pl l ns.length).filter fun x => decide (f x ≠ none) := List.mem_filter.mpr ⟨mem_pl.mpr (by omega), decide_eq_true hi2⟩
        rw [z] at this
        cases this
      rw [decide_eq_false ne]
      refine iteT ?_
      exact q2 hall ⟨i, hi1, hi2⟩ _ sm4
    have em4 : ((pl l ns.length).filter fun x => decide (f x ≠ none)) = [] := by
      refine List.filter_eq_nil_iff.mpr fun x hx => ?_
      have h1 := mem_pl.mp hx
      have h2 := hno (x - l).toNat (by omega)
      rw [show l + (((x - l).toNat : Nat) : Int) = x by omega] at h2
      simp [h2]
    rw [em4]
    refine iteF ?_
    -- they are put
    have hA4 : H4 lh = some (.lst ((pl l ns.length).map V.int)) := s4 _ _ (s3 _ _ hA2)
    have htb4 := sm4 _ _ htb
    have ht4' := sm4 _ _ ht
    have nlt : lh ≠ tb := ne_of hA4 htb4 (by intro z; cases z)
    have ntt : t ≠ tb := ne_of ht4' htb4 (by intro z; cases z)
    refine ⟨_, rfl, _, rfl, lh, t, _, _, rfl, hA4, ht4', for_zip (xs := (pl l ns.length).map V.int) (ys := ns.map V.int) (fun i σ H5 => (∃ u v, σ = [some (.ref tb), some (.int l), some (.ref t), some (.ref lh), u, v]) ∧ H5 tb = some (.dK (tbl (over f l ns i) pls)) ∧ ∀ b o, H4 b = some o → b ≠ tb → H5 b = some o)
      ⟨⟨_, _, rfl⟩, by rw [over_zero]; exact htb4, fun b o e _ => e⟩ (fun i σ H5 _ ⟨_, _, kk⟩ => ⟨kk _ _ hA4 nlt, kk _ _ ht4' ntt⟩) (by rw [lpl, lm]; exact Nat.le_refl _) ?_ ?_⟩
    · rintro i x y σ H5 T hx hy ⟨⟨u, v, rfl⟩, hd5, kk⟩ hT
      have hil : i < ns.length := by
        have := (List.getElem?_eq_some_iff.mp hx).1
        omega
      rw [List.getElem?_map, pl_get hil] at hx
      cases hx
      have ey : y = V.int (ns.getD i 0) := by
        rw [List.getElem?_map, List.getElem?_eq_getElem hil] at hy
        rw [← Option.some.inj hy, List.getD_eq_getElem?_getD, List.getElem?_eq_getElem hil]
        rfl
      subst ey
      have nd : tb ≠ T := ne_of_none hd5 hT
      refine ⟨T, _, rfl, SqT.of upd_same, rfl, _, _, rfl, _, _, rfl, rfl, ?_⟩
      refine ⟨_, rfl, _, rfl, _, rfl, tb, _, rfl, DPut.k (k := Sum.inl (l + (i : Int))) (by rw [upd_ne nd]; exact hd5) (by rw [tbl_len]; omega), ?_⟩
      refine ⟨⟨_, _, rfl⟩, ?_, fun b o e hb => ?_⟩
      · rw [upd_same, put_tbl (hall i hil)]
      · rw [upd_ne hb, upd_ne (ne_of_none (kk b o e hb) hT)]
        exact kk b o e hb
    · rintro σ H5 ⟨_, hd5, kk⟩
      rw [lpl] at hd5
      exact q3 hall hno H5 hd5 fun b o e hb => kk b o (sm4 _ _ e) hb
end
end Ls

set_option maxHeartbeats 8000000
namespace Ls
open PySem L2 PySem.W
theorem DGet.kf {H : Hp} {a : Addr} {o : Obj} {kvs : List (Key × V)} {k : Key} (e : H a = some (.frz o (.dK kvs))) : DGet H a (kV k) (valV kvs k) := .inl ⟨kvs, k, .inr ⟨o, e⟩, rfl, rfl⟩
theorem thaw_same {H H1 : Hp} {a : Addr} {o : Obj} {u : HO} (e : H a = some u) (s : Same (upd H a (.frz o u)) H1) : Same H (upd H1 a u) := fun b v h => by
  by_cases z : b = a
  · subst z
    rw [e] at h
    cases h
    exact upd_same
  · rw [upd_ne z]
    exact s b v (by rw [upd_ne z]; exact h)
theorem frz_free {H : Hp} {a b : Addr} {u o : HO} (e : H a = some u) (n : (upd H a o) b = none) : H b = none ∧ b ≠ a := by
  have nb : b ≠ a := fun z => by
    rw [z, upd_same] at n
    cases n
  rw [upd_ne nb] at n
  exact ⟨n, nb⟩
def spAllX (C : Addr) : Sp := fun vs H Q E => ∃ vf : Int → Int, spAll vf C vs H Q E
/-- what the sheet and the table have to do with one another -/
structure Agree (f : Int → Option Int) (pls : List Int) (kvs : List (Key × V)) (ns : List Int) (vf : Int → Int) (ws : Lm.Ps) : Prop where
  hh : Holds vf kvs ns
  rise : Rise pls
  len : pls.length < 64
  ns : ∀ x, x ∈ ns ↔ x ∈ pls ∧ f x ≠ none
  vf : ∀ x n, x ∈ pls → f x = some n → vf x = n
  sh : Lm.Sh ws
  lw : ws.length ≤ 64
  mw : ∀ x, Lm.mem ws x ↔ x ∈ pls
  bd : ∀ x ∈ pls, -(2 ^ 60) ≤ x ∧ x ≤ 2 ^ 60
def spStands (C : Addr) : Sp := fun vs H Q _ => ∃ (p pw d tb : Addr) (ws : Lm.Ps) (kvs : List (Key × V)) (ns : List Int) (f : Int → Option Int) (pls : List Int) (vf : Int → Int), vs = [.ref p, .ref tb] ∧ SheetAt C H p pw d ws kvs ∧ d ≠ tb ∧ H tb = some (.dK (tbl f pls)) ∧ Agree f pls kvs ns vf ws ∧ ∀ H', Same H H' → Q (.bl true) H'
theorem ndPT : (["_law_place", "_law_table"] : List Str).Nodup := by decide +kernel
theorem rise_filter {ns : List Int} (h : Rise ns) (p : Int → Bool) : Rise (ns.filter p) := List.Pairwise.sublist List.filter_sublist h
theorem tbl_get {f : Int → Option Int} {pls : List Int} {i : Nat} {e : Key × V} (h : (tbl f pls)[i]? = some e) : ∃ x, pls[i]? = some x ∧ e = ((Sum.inl x : Key), optV (f x)) := by
  unfold tbl at h
  rw [List.getElem?_map] at h
  cases z : pls[i]? with
  | none => rw [z] at h; cases h
  | some x => rw [z] at h; exact ⟨x, rfl, (Option.some.inj h).symm⟩
section
variable {P : Program} {w : World} {K : PySem.W.Frag} {mg : Str → Option Value} {base : Heap}
theorem scStands : FnScope ["_law_sheet", "_law_table", "_law_done", "_law_due_here", "_law_low", "_law_high", "_law_left", "_law_place", "_law_one"] ["_law_sheet", "_law_table"] (defScope sStands) := ⟨rfl, rfl, rfl, by decide +kernel, rfl, by decide +kernel, by decide +kernel⟩
theorem ok_stands {f fS fA fL fR C : Addr} {fd fdS fdA fdL fdR : FuncData} (F : Fun K "_law_stands" "_law_stands" sStands f fd) (G : Gb mg) (T : Cl K mg C)
    (GS : FnOk P w K mg base CX0 7 fS fdS ["_law_places_here"] spStr) (kS : keepIn K (.ref fS) = true) (bS : Binds K fdS ["_law_places_here"] []) (mS : mg "_law_stretches" = some (.ref fS))
    (GA : FnOk P w K mg base CX0 7 fA fdA ["self"] (spAllX C)) (bA : Binds K fdA ["self"] []) (mA : Meth K C "all_results" fA)
    (GL : FnOk P w K mg base CX0 7 fL fdL ["self"] (spLeft C)) (bL : Binds K fdL ["self"] []) (mL : Meth K C "left_work" fL)
    (GR : FnOk P w K mg base CX0 7 fR fdR ["self", "place"] (spRes C)) (bR : Binds K fdR ["self", "place"] []) (mR : Meth K C "result_at" fR) : FnOk P w K mg base CX0 8 f fd ["_law_sheet", "_law_table"] (spStands C) := by
  refine F.ok scStands (fun vs H Q E h => ?_) (fun cdv A outer s H vs Q E hr h => ?_)
  · obtain ⟨p, pw, d, tb, ws, kvs, ns, f, pls, vf, rfl, _⟩ := h
    rfl
  · obtain ⟨p, pw, d, tb, ws, kvs, ns, f, pls, vf, rfl, S, ndt, htb, ag, q⟩ := h
    have hu := hu_of hr
    refine ⟨_, pss_cons (ps_thaw (ps_setC (ix := 2) scStands.nd rfl (Or.inl rfl) (NB := ["_law_place", "_law_table"]) (n := 1) (js := [1]) (g := gName 0) (cl := [("_law_table", s.heap.objs.size + 1)]) rfl (by decide +kernel) (by decide +kernel) rfl
          (Takes.of rfl (all_cons rfl all_nil) (all_cons (fun z => nomatch z) (all_cons (fun z => nomatch z) (all_cons (fun _ => rfl) all_nil))) rfl (fun k j h => match k, j, h with | 0, _, rfl => rfl | k + 1, _, h => absurd h (by simp)) (all_cons ⟨.inl rfl, .inl rfl, rfl⟩ all_nil))
          (pi_dict (pv 1)) (fun C s H fp pn => pg_name (i := 0) ndPT rfl (Or.inl rfl) (.inr rfl)) (fun C s H fp pn => pts_one (pt_cmpR op_notN (pe_dget (by exact hu) (pv 1) (pv 0) (fun _ _ => rfl)) pe_non (nomark _))) (fun C s H fp pn => pv 0)))
      (pss_cons (ps_set (i := 3) scStands.nd rfl (Or.inl rfl) (pe_lst pa_nil))
      (pss_cons (ps_for PassesOwn.never rfl (pi_tup (pe_call GS hr rfl mS kS bS .nil pass0 (pa_cons (pv 2) pa_nil))) (pg_tup (n := 2) rfl (pgs_cons (pg_name (i := 4) scStands.nd rfl (Or.inl rfl)) (pgs_cons (pg_name (i := 5) scStands.nd rfl (Or.inl rfl)) pgs_nil)))
          (pss_one (ps_expr (pe_bm PySem.F.plainAttrs_list PySem.F.slot_list_append PySem.F.type_list_append mt_append (pv 3) (pa_cons (pe_tup (pa_cons (pv 4) (pa_cons (pe_callTy call_tuple_of (by rfl) G.tuple boot_t (pa_cons (pe_compF (NB := ["_law_place", "_law_table"]) (n := 1) (js := [1]) (g := gName 0) (te := tDGet (tVar 1) (tVar 0)) (cl := [("_law_table", s.heap.objs.size + 1)]) rfl (by decide +kernel) (by decide +kernel) rfl
          (Takes.of rfl (all_cons rfl all_nil) (all_cons (fun z => nomatch z) (all_cons (fun z => nomatch z) (all_cons (fun _ => rfl) all_nil))) rfl (fun k j h => match k, j, h with | 0, _, rfl => rfl | k + 1, _, h => absurd h (by simp)) (all_cons ⟨.inl rfl, .inl rfl, rfl⟩ all_nil))
          (pi_range2 rfl G.range (pa_cons (pv 4) (pa_cons (pv 5) pa_nil))) (fun C s H fp pn => pg_name (i := 0) ndPT rfl (Or.inl rfl) (.inr rfl)) (fun C s H fp pn => pts_nil) (fun C s H fp pn => pe_dget (by exact hu) (pv 1) (pv 0) (fun _ _ => rfl))) pa_nil)) pa_nil))) pa_nil)))))
      (pss_cons (ps_thaw (ps_setC (ix := 6) scStands.nd rfl (Or.inl rfl) (NB := ["_law_place", "_law_table"]) (n := 1) (js := [1]) (g := gName 0) (cl := [("_law_table", s.heap.objs.size + 1)]) rfl (by decide +kernel) (by decide +kernel) rfl
          (Takes.of rfl (all_cons rfl all_nil) (all_cons (fun z => nomatch z) (all_cons (fun z => nomatch z) (all_cons (fun _ => rfl) all_nil))) rfl (fun k j h => match k, j, h with | 0, _, rfl => rfl | k + 1, _, h => absurd h (by simp)) (all_cons ⟨.inl rfl, .inl rfl, rfl⟩ all_nil))
          (pi_dict (pv 1)) (fun C s H fp pn => pg_name (i := 0) ndPT rfl (Or.inl rfl) (.inr rfl)) (fun C s H fp pn => pts_one (pt_cmpR op_isN (pe_dget (by exact hu) (pv 1) (pv 0) (fun _ _ => rfl)) pe_non (nomark _))) (fun C s H fp pn => pv 0)))
      (pss_cons (ps_if (PW.pt (pw_or (pt_cmpR (op_neD hr.units) (pe_meth0 (pv 0) T.cl mA GA hr bA .nil pass0) (pv 3) (nomark _)) (pw_or1 (pt_cmpR (op_neD hr.units) (pe_meth0 (pv 0) T.cl mL GL hr bL .nil pass0) (pe_call GS hr rfl mS kS bS .nil pass0 (pa_cons (pv 6) pa_nil)) (nomark _))))) (pss_one (ps_ret pe_bl)) pss_nil)
      (pss_cons (ps_thaw (ps_for PassesOwn.never rfl (pi_dict (pv 1)) (pg_name (i := 7) scStands.nd rfl (Or.inl rfl))
          (pss_one (ps_for PassesOwn.never rfl (pi_list (pe_lst (pa_cons (pe_op op_sub (pv 7) pe_int) (pa_cons (pv 7) (pa_cons (pe_op op_add (pv 7) pe_int) pa_nil))))) (pg_name (i := 8) scStands.nd rfl (Or.inl rfl))
            (pss_one (ps_if (pt_cmpR op_ne (pe_meth (pv 0) T.cl mR GR hr bR .nil pass0 (pa_cons (pv 8) pa_nil)) (pe_dget1 hu (pv 1) (pv 8) (by constructor <;> rfl)) (nomark _)) (pss_one (ps_ret pe_bl)) pss_nil))))))
      (pss_one (ps_ret pe_bl))))))), ?_⟩
    have sl : sizeLine = 16777216 := sizeLine_eq
    have lt : (tbl f pls).length = pls.length := tbl_len _ _
    have lpls := ag.len
    have nf : ∀ (o : Obj) (v : HO), H tb ≠ some (.frz o v) := fun o v z => by
      rw [htb] at z
      cases z
    refine ⟨_, rfl, tb, _, rfl, htb, fun oa la hla => ?_⟩
    obtain ⟨hla0, nla⟩ := frz_free htb hla
    refine ⟨fun i m ys H1 => m = pls.length - i ∧ i ≤ pls.length ∧ ys = ((pls.take i).filter fun x => decide (f x ≠ none)).map V.int ∧ Same (upd H tb (.frz oa (.dK (tbl f pls)))) H1 ∧ H1 la = some (.lst ys), ⟨_, rfl, Nat.zero_le _, rfl, same_upd hla, upd_same⟩, ?_⟩
    rintro i m ys H1 ⟨rfl, hi, rfl, s1, hA1⟩
    refine ⟨hA1, ?_⟩
    have fz1 : H1 tb = some (.frz oa (.dK (tbl f pls))) := s1 _ _ upd_same
    by_cases hlt : i < pls.length
    · refine .inr ⟨⟨fz1, by rw [lt]; exact hlt⟩, ?_⟩
      rintro y H'' ⟨rfl, e, he, rfl⟩
      obtain ⟨x, hx, rfl⟩ := tbl_get he
      refine gName_in ?_
      refine ⟨rfl, ?_⟩
      have dg : DGet H'' tb (.int x) (some (optV (f x))) := by
        have := DGet.kf (k := (Sum.inl x : Key)) fz1
        rw [val_tbl, if_pos (List.mem_of_getElem? hx)] at this
        exact this
      refine ⟨_, rfl, _, rfl, tb, _, rfl, dg, rfl, _, rfl, ?_⟩
      have tk : pls.take (i + 1) = pls.take i ++ [x] := by rw [List.take_add_one, hx]; rfl
      have lf : (((pls.take i).filter fun x => decide (f x ≠ none)).map V.int).length ≤ i := by
        rw [List.length_map]
        exact Nat.le_trans (List.length_filter_le _ _) (by rw [List.length_take]; omega)
      cases hf : f x with
      | none =>
        refine iteF ?_
        refine ⟨_, ?_, rfl, hlt, ?_, s1, hA1⟩
        · omega
        · rw [tk, List.filter_append, List.map_append]
          simp [hf]
      | some k =>
        refine iteT ?_
        refine ⟨_, rfl, hA1, by omega, _, ?_, rfl, hlt, ?_, fun b o z => ?_, upd_same⟩
        · omega
        · rw [tk, List.filter_append, List.map_append]
          simp [hf]
          rfl
        · rw [upd_ne (ne_of_none z hla)]
          exact s1 _ _ z
    refine .inl ⟨⟨fz1, by omega⟩, ?_⟩
    have ei : pls.take i = pls := List.take_of_length_le (by omega)
    rw [ei] at hA1
    refine ⟨tb, oa, _, fz1, nf, ?_⟩
    have t1 : Same H (upd H1 tb (.dK (tbl f pls))) := thaw_same htb s1
    have e1 : (upd H1 tb (.dK (tbl f pls))) la = some (.lst ((pls.filter fun x => decide (f x ≠ none)).map V.int)) := by
      rw [upd_ne nla]
      exact hA1
    generalize upd H1 tb (.dK (tbl f pls)) = H2 at t1 e1 ⊢
    clear hlt hi ei fz1 s1 hA1
    have md0 : ∀ x, x ∈ (pls.filter fun x => decide (f x ≠ none)) ↔ x ∈ ns := fun x => by
      rw [List.mem_filter, ag.ns x]
      simp
    have rd0 : Rise (pls.filter fun x => decide (f x ≠ none)) := rise_filter ag.rise _
    have ld0 : (pls.filter fun x => decide (f x ≠ none)).length ≤ pls.length := List.length_filter_le _ _
    generalize (pls.filter fun x => decide (f x ≠ none)) = dn at e1 md0 rd0 ld0
    -- what is due
    refine ⟨Nat.zero_le _, fun ld hld => ?_⟩
    have t3 : Same H2 (upd H2 ld (.lst [])) := same_upd hld
    have e3 : (upd H2 ld (.lst [])) ld = some (.lst []) := upd_same
    generalize upd H2 ld (.lst []) = H3 at t3 e3 ⊢
    refine ⟨_, rfl, la, dn, rfl, t3 _ _ e1, rd0, by omega, fun r ds H4 s4 hr4 shd md ldd => ?_⟩
    obtain ⟨xs, x1, x2⟩ := id hr4
    have lx : xs.length = ds.length := x2.length
    have t4 : Same H H4 := t1.trans (t3.trans s4)
    have htb4 := t4 _ _ htb
    have e4 := s4 _ _ e3
    have ntl : tb ≠ ld := ne_of htb4 e4 (by intro z; cases z)
    have hldH : H ld = none := t1.free hld
    refine ⟨r, rfl, ⟨_, SqT.of x1⟩, for_tup (K := K) (a := r) (xs := xs) (fun i σ H5 => (∃ u v, σ = [some (.ref p), some (.ref tb), some (.ref la), some (.ref ld), u, v, none, none, none]) ∧ (∀ b o, H4 b = some o → b ≠ ld → H5 b = some o) ∧ ∃ vs, H5 ld = some (.lst vs) ∧ Paired (ItemAt vf H5) vs (ds.take i))
      ⟨⟨_, _, rfl⟩, (fun b o e _ => e), [], e4, .nil⟩ (fun i σ H5 _ ⟨_, kk, _⟩ => SqT.of (kk _ _ x1 (ne_of x1 e4 (by intro z; cases z)))) ?_ ?_⟩
    · rintro i y σ H5 hi ⟨⟨u, v, rfl⟩, kk, vs, hv, pp⟩
      obtain ⟨c, hc, b, rfl, hb⟩ := paired_get x2 hi
      have il : i < xs.length := (List.getElem?_eq_some_iff.mp hi).1
      have hcm : c ∈ ds := List.mem_of_getElem? hc
      have clt := shd.lt c hcm
      have cns : ∀ x, c.1 ≤ x → x < c.2 → x ∈ ns := fun x z1 z2 => (md0 x).mp ((md x).mp ⟨c, hcm, z1, z2⟩)
      have cv := cover (c.2 - c.1).toNat c.1 ns fun i hi => cns _ (by omega) (by omega)
      have hlen := ag.hh.len
      have c1 := ag.hh.lo _ (cns c.1 (by omega) clt)
      have c2 := ag.hh.lo _ (cns (c.2 - 1) (by omega) (by omega))
      have lv : vs.length ≤ i := by
        rw [pp.length, List.length_take]
        omega
      refine ⟨b, _, rfl, SqT.of (kk _ _ hb (ne_of hb e4 (by intro z; cases z))), rfl, _, _, rfl, _, _, rfl, rfl, ?_⟩
      refine ⟨_, rfl, .inl ⟨rfl, _, SqL.of hv⟩, _, rfl, _, rfl, _, rfl, c.1, c.2, rfl, ⟨by omega, by omega, by omega, by omega⟩, fun a2 ha2 => ?_⟩
      have htb5 := kk _ _ htb4 ntl
      refine ⟨fun j m ys H6 => m = (c.2 - c.1).toNat - j ∧ j ≤ (c.2 - c.1).toNat ∧ ys = row vf c.1 j ∧ Same H5 H6 ∧ H6 a2 = some (.lst ys), ⟨_, rfl, Nat.zero_le _, rfl, same_upd ha2, upd_same⟩, ?_⟩
      rintro j m ys H6 ⟨rfl, hj, rfl, s6, hA6⟩
      refine ⟨hA6, ?_⟩
      by_cases hlt : j < (c.2 - c.1).toNat
      · refine .inr ⟨hlt, ?_⟩
        rintro y H'' ⟨rfl, rfl⟩
        refine gName_in ?_
        refine ⟨rfl, ?_⟩
        refine tYes_in ?_
        refine iteT ?_
        have hx := (ag.ns (c.1 + j)).mp (cns (c.1 + j) (by omega) (by omega))
        obtain ⟨k, hk⟩ : ∃ k, f (c.1 + j) = some k := by
          cases z : f (c.1 + j) with
          | none => exact absurd z hx.2
          | some k => exact ⟨k, rfl⟩
        have dg : DGet H'' tb (.int (c.1 + j)) (some (.int (vf (c.1 + j)))) := by
          have := DGet.k (k := (Sum.inl (c.1 + j) : Key)) (s6 _ _ htb5)
          rw [val_tbl, if_pos hx.1, hk] at this
          rw [ag.vf _ _ hx.1 hk]
          exact this
        refine ⟨_, rfl, _, rfl, tb, _, rfl, dg, hA6, by rw [row_len]; omega, _, ?_, rfl, hlt, ?_, fun b o z => ?_, upd_same⟩
        · omega
        · rw [row_succ]
        · rw [upd_ne (ne_of_none z ha2)]
          exact s6 _ _ z
      refine .inl ⟨by show (c.2 - c.1).toNat ≤ j; omega, ?_⟩
      have ej : j = (c.2 - c.1).toNat := by omega
      rw [ej] at hA6
      refine ⟨a2, _, rfl, .inl ⟨SqL.of hA6, fun tt htt => ⟨by show 2 ≤ sizeLine; decide, fun t2 ht2 => ?_⟩⟩⟩
      have s7 : Same H6 (upd (upd H6 tt (.tup (row vf c.1 (c.2 - c.1).toNat))) t2 (.tup [.int c.1, .ref tt])) := (same_upd htt).trans (same_upd ht2)
      have ett : (upd (upd H6 tt (.tup (row vf c.1 (c.2 - c.1).toNat))) t2 (.tup [.int c.1, .ref tt])) tt = some (.tup (row vf c.1 (c.2 - c.1).toNat)) := same_upd ht2 _ _ upd_same
      have et2 : (upd (upd H6 tt (.tup (row vf c.1 (c.2 - c.1).toNat))) t2 (.tup [.int c.1, .ref tt])) t2 = some (.tup [.int c.1, .ref tt]) := upd_same
      generalize upd (upd H6 tt (.tup (row vf c.1 (c.2 - c.1).toNat))) t2 (.tup [.int c.1, .ref tt]) = H7 at s7 ett et2 ⊢
      have s57 := s6.trans s7
      have hv7 := s57 _ _ hv
      have kt : ∀ b zs, H7 b = some (.tup zs) → (upd H7 ld (.lst (vs ++ [.ref t2]))) b = some (.tup zs) := fun b zs e => by
        rw [upd_ne (ne_of e hv7 (by intro z; cases z))]
        exact e
      refine ⟨ld, _, _, rfl, rfl, hv7, by omega, ⟨_, _, rfl⟩, fun b o e hb' => ?_, vs ++ [.ref t2], upd_same, ?_⟩
      · rw [upd_ne hb']
        exact s57 _ _ (kk b o e hb')
      · rw [List.take_add_one, hc]
        exact paired_snoc (paired_map (fun v q ⟨b, c, z1, z2, z3⟩ => ⟨b, c, z1, kt _ _ (s57 _ _ z2), kt _ _ (s57 _ _ z3)⟩) pp) ⟨t2, tt, rfl, kt _ _ et2, kt _ _ ett⟩
    rintro σ H5 ⟨⟨u, v, rfl⟩, kk, vs, hv, pp⟩
    rw [lx, List.take_of_length_le (Nat.le_refl _)] at pp
    have t5 : Same H H5 := fun b o e => kk b o (t4 _ _ e) (ne_of_none e hldH)
    have htb5 := t5 _ _ htb
    clear kk
    -- what is left
    refine ⟨_, rfl, tb, _, rfl, htb5, fun ob lb hlb => ?_⟩
    obtain ⟨hlb0, nlb⟩ := frz_free htb5 hlb
    refine ⟨fun i m ys H7 => m = pls.length - i ∧ i ≤ pls.length ∧ ys = ((pls.take i).filter fun x => decide (f x = none)).map V.int ∧ Same (upd H5 tb (.frz ob (.dK (tbl f pls)))) H7 ∧ H7 lb = some (.lst ys), ⟨_, rfl, Nat.zero_le _, rfl, same_upd hlb, upd_same⟩, ?_⟩
    rintro i m ys H7 ⟨rfl, hi, rfl, s6, hA6⟩
    refine ⟨hA6, ?_⟩
    have fz6 : H7 tb = some (.frz ob (.dK (tbl f pls))) := s6 _ _ upd_same
    by_cases hlt : i < pls.length
    · refine .inr ⟨⟨fz6, by rw [lt]; exact hlt⟩, ?_⟩
      rintro y H'' ⟨rfl, e, he, rfl⟩
      obtain ⟨x, hx, rfl⟩ := tbl_get he
      refine gName_in ?_
      refine ⟨rfl, ?_⟩
      have dg : DGet H'' tb (.int x) (some (optV (f x))) := by
        have := DGet.kf (k := (Sum.inl x : Key)) fz6
        rw [val_tbl, if_pos (List.mem_of_getElem? hx)] at this
        exact this
      refine ⟨_, rfl, _, rfl, tb, _, rfl, dg, rfl, _, rfl, ?_⟩
      have tk : pls.take (i + 1) = pls.take i ++ [x] := by rw [List.take_add_one, hx]; rfl
      have lf : (((pls.take i).filter fun x => decide (f x = none)).map V.int).length ≤ i := by
        rw [List.length_map]
        exact Nat.le_trans (List.length_filter_le _ _) (by rw [List.length_take]; omega)
      cases hf : f x with
      | none =>
        refine iteT ?_
        refine ⟨_, rfl, hA6, by omega, _, ?_, rfl, hlt, ?_, fun b o z => ?_, upd_same⟩
        · omega
        · rw [tk, List.filter_append, List.map_append]
          simp [hf]
          rfl
        · rw [upd_ne (ne_of_none z hlb)]
          exact s6 _ _ z
      | some k =>
        refine iteF ?_
        refine ⟨_, ?_, rfl, hlt, ?_, s6, hA6⟩
        · omega
        · rw [tk, List.filter_append, List.map_append]
          simp [hf]
    refine .inl ⟨⟨fz6, by omega⟩, ?_⟩
    have ei : pls.take i = pls := List.take_of_length_le (by omega)
    rw [ei] at hA6
    refine ⟨tb, ob, _, fz6, nf, ?_⟩
    have t6 : Same H5 (upd H7 tb (.dK (tbl f pls))) := thaw_same htb5 s6
    have e6 : (upd H7 tb (.dK (tbl f pls))) lb = some (.lst ((pls.filter fun x => decide (f x = none)).map V.int)) := by
      rw [upd_ne nlb]
      exact hA6
    generalize upd H7 tb (.dK (tbl f pls)) = H8 at t6 e6 ⊢
    clear hlt hi ei fz6 s6 hA6
    have ml0 : ∀ x, x ∈ (pls.filter fun x => decide (f x = none)) ↔ x ∈ pls ∧ ¬ x ∈ ns := fun x => by
      rw [List.mem_filter, ag.ns x]
      constructor
      · rintro ⟨h1, h2⟩
        exact ⟨h1, fun z => z.2 (of_decide_eq_true h2)⟩
      · rintro ⟨h1, h2⟩
        exact ⟨h1, decide_eq_true (Classical.byContradiction fun z => h2 ⟨h1, z⟩)⟩
    have rl0 : Rise (pls.filter fun x => decide (f x = none)) := rise_filter ag.rise _
    have ll0 : (pls.filter fun x => decide (f x = none)).length ≤ pls.length := List.length_filter_le _ _
    generalize (pls.filter fun x => decide (f x = none)) = lfs at e6 ml0 rl0 ll0
    have t8 : Same H H8 := t5.trans t6
    have hv8 := t6 _ _ hv
    have pp8 : Paired (ItemAt vf H8) vs ds := paired_map (fun _ _ z => z.same t6) pp
    have S8 := S.same t8
    obtain ⟨dx, hp8⟩ := S8.ob
    refine ⟨_, rfl, p, dx, _, rfl, hp8, flds_no _ _ (by decide +kernel) (by decide +kernel), vf, p, pw, d, ws, kvs, ns, rfl, S8, ag.hh, fun r9 ds9 xs9 H9 s9 n9 e9 p9 sd9 md9 ld9 => ?_⟩
    obtain rfl : ds9 = ds := Lm.sh_same sd9 shd fun x => (md9 x).trans ((md0 x).symm.trans (md x).symm)
    refine ⟨_, rfl, .list (ds9.map (itemD vf)), .list (ds9.map (itemD vf)), .lst (SqL.of e9) (rdvs_items p9), .lst (SqL.of (s9 _ _ hv8)) (rdvs_items (paired_map (fun _ _ z => z.same s9) pp8)), items_shaped vf ds9, items_shaped vf ds9, _, rfl, ?_⟩
    rw [eqv_items]
    refine iteF ?_
    have t9 := t8.trans s9
    have S9 := S.same t9
    refine ⟨_, rfl, p, dx, _, rfl, s9 _ _ hp8, flds_no _ _ (by decide +kernel) (by decide +kernel), p, pw, d, ws, kvs, ns, rfl, S9, ag.sh, ag.lw, ag.hh.key, ag.hh.nd, ag.hh.len, fun rA dA HA sA hrA sdA mdA ldA => ?_⟩
    refine ⟨_, rfl, lb, lfs, rfl, sA _ _ (s9 _ _ e6), rl0, by omega, fun rB dB HB sB hrB sdB mdB ldB => ?_⟩
    obtain rfl : dA = dB := Lm.sh_same sdA sdB fun x => (mdA x).trans ((and_congr (ag.mw x) Iff.rfl).trans ((ml0 x).symm.trans (mdB x).symm))
    refine ⟨workD dA, workD dA, work_rdv (hrA.same sB), work_rdv hrB, work_shaped dA, work_shaped dA, _, rfl, ?_⟩
    rw [eqv_work]
    refine iteF ?_
    have tB := t9.trans (sA.trans sB)
    have SB := S.same tB
    have htbB := tB _ _ htb
    -- place by place
    refine ⟨_, rfl, tb, _, rfl, htbB, fun oc => for_dict (a := tb) (o := oc) (kvs := tbl f pls) (fun i σ HC => Same (upd HB tb (.frz oc (.dK (tbl f pls)))) HC ∧ ∃ u' v', σ = [some (.ref p), some (.ref tb), some (.ref la), some (.ref ld), u, v, some (.ref lb), u', v'])
      ⟨(fun _ _ e => e), _, _, rfl⟩ (fun i σ HC _ ⟨sC, _⟩ => sC _ _ upd_same) ?_ ?_⟩
    · rintro i e σ HC he ⟨sC, u', v', rfl⟩
      obtain ⟨x, hx, rfl⟩ := tbl_get he
      refine ⟨_, rfl, _, _, rfl, rfl, _, rfl, _, rfl, _, _, rfl, rfl, by show 3 ≤ sizeLine; decide, fun l3 hl3 => ?_⟩
      refine ⟨l3, rfl, ⟨_, SqL.of upd_same⟩, for_list (K := K) (a := l3) (xs := [.int (x - 1), .int x, .int (x + 1)]) (fun j σ HE => Same HC HE ∧ HE l3 = some (.lst [.int (x - 1), .int x, .int (x + 1)]) ∧ ∃ v', σ = [some (.ref p), some (.ref tb), some (.ref la), some (.ref ld), u, v, some (.ref lb), some (.int x), v'])
        ⟨same_upd hl3, upd_same, _, rfl⟩ (fun j σ HE _ ⟨_, e, _⟩ => SqL.of e) ?_ ?_⟩
      · rintro j y σ HE hj ⟨sD, eD, v'', rfl⟩
        obtain ⟨z, rfl⟩ : ∃ z, y = V.int z := by
          have hm := List.mem_of_getElem? hj
          simp only [List.mem_cons, List.not_mem_nil, or_false] at hm
          rcases hm with rfl | rfl | rfl
          · exact ⟨_, rfl⟩
          · exact ⟨_, rfl⟩
          · exact ⟨_, rfl⟩
        have fz : HE tb = some (.frz oc (.dK (tbl f pls))) := sD _ _ (sC _ _ upd_same)
        have SE : SheetAt C HE p pw d ws kvs := by
          have up : ∀ b o, HB b = some o → b ≠ tb → HE b = some o := fun b o e n => sD _ _ (sC _ _ (by rw [upd_ne n]; exact e))
          obtain ⟨⟨dy, y1⟩, ⟨zs, y2, y3⟩, y4⟩ := SB
          exact ⟨⟨dy, up _ _ y1 (ne_of y1 htbB (by intro z; cases z))⟩, ⟨zs, up _ _ y2 (ne_of y2 htbB (by intro z; cases z)), paired_map (fun v q ⟨b, z1, z2⟩ => ⟨b, z1, up _ _ z2 (ne_of z2 htbB (by intro z; cases z))⟩) y3⟩, up _ _ y4 ndt⟩
        obtain ⟨dy, hpy⟩ := SE.ob
        refine ⟨_, rfl, p, dy, _, rfl, hpy, flds_no _ _ (by decide +kernel) (by decide +kernel), _, rfl, p, pw, d, ws, kvs, .int z, rfl, SE, .kn (.int _), (fun h => nomatch h), fun k hk => ?_⟩
        cases hk
        have ev : (valV kvs (Sum.inl z : Key)).getD .non = (valV (tbl f pls) (Sum.inl z : Key)).getD .non := by
          rw [val_tbl]
          by_cases hn : z ∈ ns
          · obtain ⟨g1, g2⟩ := (ag.ns z).mp hn
            rw [ag.hh.val z hn, if_pos g1]
            cases hf : f z with
            | none => exact absurd hf g2
            | some k => rw [ag.vf z k g1 hf]; rfl
          · rw [ag.hh.none hn]
            by_cases hp : z ∈ pls
            · rw [if_pos hp]
              cases hf : f z with
              | none => rfl
              | some k => exact absurd ((ag.ns z).mpr ⟨hp, by rw [hf]; simp⟩) hn
            · rw [if_neg hp]
        rw [ev]
        refine ⟨_, rfl, tb, rfl, .inl ⟨_, .inr ⟨oc, fz⟩⟩, _, rfl, _, DGet.kf (k := Sum.inl z) fz, ?_⟩
        rw [val_tbl]
        by_cases hp : z ∈ pls
        · rw [if_pos hp]
          cases f z with
          | none => exact ⟨rfl, _, rfl, iteF ⟨sD, eD, _, rfl⟩⟩
          | some k =>
            refine ⟨rfl, _, rfl, ?_⟩
            show ite ((!decide (V.int k = V.int k)) = true) _ _
            rw [decide_eq_true rfl]
            exact iteF ⟨sD, eD, _, rfl⟩
        · rw [if_neg hp]
          exact ⟨rfl, _, rfl, iteF ⟨sD, eD, _, rfl⟩⟩
      · rintro σ HE ⟨sD, eD, v'', rfl⟩
        exact ⟨sC.trans sD, _, _, rfl⟩
    · rintro σ HC ⟨sC, u', v', rfl⟩
      refine ⟨tb, oc, _, sC _ _ upd_same, nf, ?_⟩
      exact q _ (tB.trans (thaw_same htbB sC))
end
end Ls

set_option maxHeartbeats 4000000
namespace Ls
open PySem L2 PySem.W
def spLaw (K : Frag) : Sp := fun vs H Q _ => ∃ (a : Addr) (ns : List Int), vs = [.ref a] ∧ SqL K H a (ns.map V.int) ∧ ns.length ≤ 63 ∧ ∀ H', Q (.bl true) H'
theorem boot_dict : bootBuiltins "dict" = some (.type "dict") := by decide +kernel
theorem cut_ints (ns : List Int) (lo hi : Option Int) : ∃ zs : List Int, cutV (ns.map V.int) lo hi = zs.map V.int ∧ zs.length ≤ ns.length := by
  refine ⟨(ns.drop (HT.sIx (ns.map V.int).length 0 lo)).take (HT.sIx (ns.map V.int).length (ns.map V.int).length hi - HT.sIx (ns.map V.int).length 0 lo), ?_, ?_⟩
  · unfold cutV
    rw [List.map_take, List.map_drop]
  · rw [List.length_take, List.length_drop]
    omega
theorem mk_same {H H' : Hp} {x dx C : Addr} (nx : H x = none) (ndx : H dx = none) (kp : ∀ b o, (upd (upd H dx (.own x)) x (.ins C dx [])) b = some o → b ≠ x → H' b = some o) : Same H H' := fun b o e => kp b o (by rw [upd_ne (ne_of_none e nx), upd_ne (ne_of_none e ndx)]; exact e) (ne_of_none e nx)
theorem mk_work {H : Hp} {x dx C : Addr} (nx : H x = none) (ndx : H dx = none) : Same H (upd (upd H dx (.own x)) x (.ins C dx [])) := fun b o e => by
  rw [upd_ne (ne_of_none e nx), upd_ne (ne_of_none e ndx)]
  exact e
theorem mk_free {H : Hp} {x dx d C : Addr} (n : (upd (upd H dx (.own x)) x (.ins C dx [])) d = none) : H d = none := by
  unfold upd at n
  by_cases h1 : d = x
  · rw [if_pos h1] at n; cases n
  · rw [if_neg h1] at n
    by_cases h2 : d = dx
    · rw [if_pos h2] at n; cases n
    · rw [if_neg h2] at n; exact n
theorem kp_back {w : Addr} {B G G' : Hp} (s : Same B G) (nw : B w = none) (k : Kp w G G') : Same B G' := fun b o e => k.at_ b o (ne_of_none e nw) (s _ _ e)
theorem Wl.nd {H : Hp} {w d : Addr} {o : HO} (h : Wl H w) (e : H d = some o) (n : ∀ xs, o ≠ .lst xs) : d ≠ w := by
  obtain ⟨a, b, c, z⟩ := h
  exact ne_of e z (by intro q; exact n _ q)
theorem WorkM.kp {w p : Addr} {H H' : Hp} {ps : Lm.Ps} (k : Kp w H H') (hw : Wl H w) (h : WorkM H p ps) : WorkM H' p ps := by
  obtain ⟨xs, x1, x2⟩ := h
  exact ⟨xs, k.tup hw x1, pairs_kept k hw x2⟩
theorem SheetAt.kp {w C p pw d : Addr} {H H' : Hp} {ws : Lm.Ps} {kvs : List (Key × V)} (k : Kp w H H') (hw : Wl H w) (h : SheetAt C H p pw d ws kvs) : SheetAt C H' p pw d ws kvs := by
  obtain ⟨⟨dx, s1⟩, s2, s3⟩ := h
  exact ⟨⟨dx, k.at_ _ _ (hw.nd s1 (by intro _ q; cases q)) s1⟩, s2.kp k hw, k.at_ _ _ (hw.nd s3 (by intro _ q; cases q)) s3⟩
/-- what is another dict than the sheet's -/
theorem SheetAt.off {C p pw d tb : Addr} {H H' : Hp} {ws : Lm.Ps} {kvs k2 : List (Key × V)} (h : SheetAt C H p pw d ws kvs) (n : d ≠ tb) (et : H tb = some (.dK k2)) (kk : ∀ b o, H b = some o → b ≠ tb → H' b = some o) : SheetAt C H' p pw d ws kvs := by
  obtain ⟨⟨dx, s1⟩, ⟨xs, s2, s4⟩, s3⟩ := h
  exact ⟨⟨dx, kk _ _ s1 (ne_of s1 et (by intro q; cases q))⟩, ⟨xs, kk _ _ s2 (ne_of s2 et (by intro q; cases q)), paired_map (fun v q ⟨b, z1, z2⟩ => ⟨b, z1, kk _ _ z2 (ne_of z2 et (by intro q; cases q))⟩) s4⟩, kk _ _ s3 n⟩
theorem work_off {p d : Addr} {H H' : Hp} {ps : Lm.Ps} {k2 : List (Key × V)} (h : WorkM H p ps) (et : H d = some (.dK k2)) (kk : ∀ b o, H b = some o → b ≠ d → H' b = some o) : WorkM H' p ps := by
  obtain ⟨xs, s2, s4⟩ := h
  exact ⟨xs, kk _ _ s2 (ne_of s2 et (by intro q; cases q)), paired_map (fun v q ⟨b, z1, z2⟩ => ⟨b, z1, kk _ _ z2 (ne_of z2 et (by intro q; cases q))⟩) s4⟩
theorem wl_off {w d : Addr} {H H' : Hp} {k2 : List (Key × V)} (h : Wl H w) (et : H d = some (.dK k2)) (kk : ∀ b o, H b = some o → b ≠ d → H' b = some o) : Wl H' w := by
  obtain ⟨a, b, c, z⟩ := h
  exact ⟨a, b, c, kk _ _ z (ne_of z et (by intro q; cases q))⟩
theorem back_off {d : Addr} {B H H' : Hp} (s : Same B H) (n : B d = none) (kk : ∀ b o, H b = some o → b ≠ d → H' b = some o) : Same B H' := fun b o e => kk _ _ (s _ _ e) (ne_of_none e n)
theorem pl_rise (l : Int) (n : Nat) : Rise (pl l n) := by
  unfold Rise pl
  rw [List.pairwise_map]
  exact List.pairwise_lt_range.imp fun h => by omega
theorem allp_rise : ∀ {ps : Lm.Ps}, Lm.Wk ps → Rise (allp ps)
  | [], _ => List.Pairwise.nil
  | q :: t, h => by
    show Rise (pl q.1 (q.2 - q.1).toNat ++ allp t)
    obtain ⟨h1, h2, h3⟩ := h
    refine List.pairwise_append.mpr ⟨pl_rise _ _, allp_rise h3, fun a ha b hb => ?_⟩
    have h4 := mem_pl.mp ha
    obtain ⟨r, hr, h5, h6⟩ := mem_allp.mp hb
    have := h2 r hr
    omega
theorem tbl_keys (f : Int → Option Int) (pls : List Int) : (tbl f pls).map (·.1) = pls.map (Sum.inl : Int → Key) := by
  unfold tbl
  rw [List.map_map]
  rfl
theorem tbl_nd {f : Int → Option Int} {pls : List Int} (h : Rise pls) : ((tbl f pls).map (·.1)).Nodup := by
  rw [tbl_keys]
  refine List.pairwise_map.mpr (h.imp fun {a b} z e => ?_)
  have := Sum.inl.inj e
  omega
section
variable {f : Int → Option Int} {pls : List Int} {kvs : List (Key × V)} {ns : List Int} {vf : Int → Int} {ws : Lm.Ps}
theorem Agree.new {ps : Lm.Ps} (md : Made ps) (sh : Lm.Sh ws) (mm : ∀ x, Lm.mem ws x ↔ Lm.mem ps x) (ll : ws.length ≤ ps.length) : Agree (fun _ => none) (allp ps) [] [] (fun _ => 0) ws := by
  have l1 := md.len
  have l2 := allp_small fun q hq => (md.at_ q hq).2.2
  refine ⟨Holds.nil, allp_rise md.wk, by omega, fun x => ⟨fun z => absurd z (by simp), fun z => absurd rfl z.2⟩, fun x n _ z => (by cases z), sh, by omega, fun x => (mm x).trans mem_allp.symm, fun x hx => ?_⟩
  obtain ⟨q, hq, z1, z2⟩ := mem_allp.mp hx
  have := md.at_ q hq
  omega
theorem Agree.val (a : Agree f pls kvs ns vf ws) {x : Int} (hx : x ∈ pls) : valV kvs (Sum.inl x : Key) = none ↔ f x = none := by
  constructor
  · intro h
    refine Classical.byContradiction fun hf => ?_
    rw [a.hh.val x ((a.ns x).mpr ⟨hx, hf⟩)] at h
    cases h
  · intro h
    exact a.hh.none fun z => ((a.ns x).mp z).2 h
theorem Agree.row (a : Agree f pls kvs ns vf ws) {l : Int} {zs : List Int} : (zs = [] ∨ AnyRow ws l zs.length) ↔ ∀ i : Nat, i < zs.length → l + (i : Int) ∈ pls := by
  constructor
  · rintro (rfl | ⟨q, hq, h1, h2⟩) i hi
    · cases hi
    · exact (a.mw _).mp ⟨q, hq, by omega, by omega⟩
  · intro h
    by_cases z : zs = []
    · exact .inl z
    · have lp := List.length_pos_iff.mpr z
      refine .inr (sh_row a.sh (show l < l + (zs.length : Int) by omega) fun x z1 z2 => (a.mw x).mpr ?_)
      have := h (x - l).toNat (by omega)
      rwa [show l + (((x - l).toNat : Nat) : Int) = x by omega] at this
def overN (vf : Int → Int) (l : Int) (zs : List Int) : Int → Int := fun x => if l ≤ x ∧ x < l + (zs.length : Int) then zs.getD (x - l).toNat 0 else vf x
theorem row_over (vf : Int → Int) (l : Int) (zs : List Int) : rowI (overN vf l zs) l zs.length = zs := by
  refine List.ext_getElem (rowI_len _ _ _) fun i h1 h2 => ?_
  have e := rowI_at (f := overN vf l zs) (l := l) h2
  rw [List.getD_eq_getElem?_getD, List.getElem?_eq_getElem h1] at e
  refine Eq.trans e ?_
  unfold overN
  rw [if_pos ⟨by omega, by omega⟩, show (l + (i : Int) - l).toNat = i by omega, List.getD_eq_getElem?_getD, List.getElem?_eq_getElem h2]
  rfl
theorem Agree.put (a : Agree f pls kvs ns vf ws) {l : Int} {zs : List Int} (h1 : ∀ i : Nat, i < zs.length → l + (i : Int) ∈ pls) (h2 : ∀ i : Nat, i < zs.length → f (l + (i : Int)) = none) (b1 : -(2 ^ 61) ≤ l) (b2 : l + (zs.length : Int) ≤ 2 ^ 61) :
    Agree (over f l zs zs.length) pls (kvs ++ entN l zs zs.length) (ns ++ pl l zs.length) (overN vf l zs) ws := by
  have hin : ∀ x, l ≤ x → x < l + (zs.length : Int) → x ∈ pls ∧ f x = none := fun x z1 z2 => by
    have e : l + (((x - l).toNat : Nat) : Int) = x := by omega
    have g1 := h1 (x - l).toNat (by omega)
    have g2 := h2 (x - l).toNat (by omega)
    rw [e] at g1 g2
    exact ⟨g1, g2⟩
  have hno : ∀ x, l ≤ x → x < l + (zs.length : Int) → x ∉ ns := fun x z1 z2 z => ((a.ns x).mp z).2 (hin x z1 z2).2
  have hh : Holds (overN vf l zs) kvs ns := ⟨a.hh.key, a.hh.nd, a.hh.len, fun x hx => by
    rw [a.hh.val x hx]
    unfold overN
    rw [if_neg (fun z => hno x z.1 z.2 hx)], a.hh.lo⟩
  have nd : (ns ++ pl l zs.length).Nodup := by
    rw [List.nodup_append]
    refine ⟨a.hh.nd, nd_pl _ _, fun u hu v hv => ?_⟩
    have g := mem_pl.mp hv
    intro z
    subst z
    exact hno u g.1 g.2 hu
  have ln := nodup_len (b := pls) nd fun x hx => by
    rcases List.mem_append.mp hx with hx | hx
    · exact ((a.ns x).mp hx).1
    · have g := mem_pl.mp hx
      exact (hin x g.1 g.2).1
  rw [List.length_append, pl_len] at ln
  have l64 := a.len
  have hp := hh.put (l := l) (n := zs.length) hno (by omega) b1 b2
  rw [row_over] at hp
  refine ⟨hp, a.rise, a.len, fun x => ?_, fun x n hx e => ?_, a.sh, a.lw, a.mw, a.bd⟩
  · rw [List.mem_append, mem_pl, a.ns x]
    unfold over
    by_cases z : l ≤ x ∧ x < l + (zs.length : Int)
    · rw [if_pos z]
      exact ⟨fun _ => ⟨(hin x z.1 z.2).1, by simp⟩, fun _ => .inr z⟩
    · rw [if_neg z]
      exact ⟨fun g => g.elim id fun y => absurd y z, .inl⟩
  · unfold over at e
    unfold overN
    by_cases z : l ≤ x ∧ x < l + (zs.length : Int)
    · rw [if_pos z] at e ⊢
      exact Option.some.inj e
    · rw [if_neg z] at e ⊢
      exact a.vf x n hx e
end
/-- what stands between two layings -/
structure Inn (C : Addr) (B : Hp) (w p sp pw d tb : Addr) (ps ws : Lm.Ps) (G : Hp) : Prop where
  wl : Wl G w
  wk : WorkM G p ps
  bk : Same B G
  st : ∃ (f : Int → Option Int) (kvs : List (Key × V)) (ns : List Int) (vf : Int → Int), SheetAt C G sp pw d ws kvs ∧ G tb = some (.dK (tbl f (allp ps))) ∧ Agree f (allp ps) kvs ns vf ws
section
variable {C : Addr} {B : Hp} {w p sp pw d tb : Addr} {ps ws : Lm.Ps} {G G' G2 : Hp}
theorem Inn.same (h : Inn C B w p sp pw d tb ps ws G) (s : Same G G') : Inn C B w p sp pw d tb ps ws G' := by
  obtain ⟨f, kvs, ns, vf, h1, h2, h3⟩ := h.st
  exact ⟨h.wl.same s, h.wk.same s, h.bk.trans s, f, kvs, ns, vf, h1.same s, s _ _ h2, h3⟩
theorem Inn.kp (h : Inn C B w p sp pw d tb ps ws G) (n : B w = none) (k : Kp w G G') : Inn C B w p sp pw d tb ps ws G' := by
  obtain ⟨f, kvs, ns, vf, h1, h2, h3⟩ := h.st
  exact ⟨k.wl, h.wk.kp k h.wl, kp_back h.bk n k, f, kvs, ns, vf, h1.kp k h.wl, k.at_ _ _ (h.wl.nd h2 (by intro _ q; cases q)) h2, h3⟩
theorem Inn.put (h : Inn C B w p sp pw d tb ps ws G) (nd : B d = none) (nt : B tb = none) (ndt : d ≠ tb) {f f' : Int → Option Int} {kvs kvs' : List (Key × V)} {ns' : List Int} {vf' : Int → Int} (S : SheetAt C G sp pw d ws kvs) (et : G tb = some (.dK (tbl f (allp ps))))
    (ed : G' d = some (.dK kvs')) (k1 : ∀ b o, G b = some o → b ≠ d → G' b = some o) (et' : G2 tb = some (.dK (tbl f' (allp ps)))) (k2 : ∀ b o, G' b = some o → b ≠ tb → G2 b = some o) (ag : Agree f' (allp ps) kvs' ns' vf' ws) : Inn C B w p sp pw d tb ps ws G2 := by
  have et1 := k1 _ _ et ndt.symm
  exact ⟨wl_off (wl_off h.wl S.dc k1) et1 k2, work_off (work_off h.wk S.dc k1) et1 k2, back_off (back_off h.bk nd k1) nt k2, f', kvs', ns', vf', (S.put ed k1).off ndt et1 k2, et', ag⟩
end
end Ls

set_option maxHeartbeats 8000000
namespace Ls
open PySem L2 PySem.W
theorem ndLP : (["_law_place"] : List Str).Nodup := by decide +kernel
section
variable {P : Program} {w : World} {K : PySem.W.Frag} {mg : Str → Option Value} {base : Heap}
theorem scLaw : FnScope ["_law_script", "_law_cell", "_law_tape_here", "_law_work_here", "_law_table", "_law_sheet", "_law_k", "_law_place", "_law_numbers"] ["_law_script"] (defScope sLaw) := ⟨rfl, rfl, rfl, by decide +kernel, rfl, by decide +kernel, by decide +kernel⟩
theorem ok_law {f C : Addr} {fd : FuncData} (F : Fun K "law" "law" sLaw f fd) (G : Gb mg) (G1 : Gb1 mg) (T : Cl K mg C)
    {fA : Addr} {fdA : FuncData} (GA : FnOk P w K mg base CX0 8 fA fdA ["_law_script", "_law_at"] (spCell K)) (kA : keepIn K (.ref fA) = true) (bA : Binds K fdA ["_law_script", "_law_at"] []) (mA : mg "_law_cell_at" = some (.ref fA))
    {fTP : Addr} {fdTP : FuncData} (GTP : FnOk P w K mg base CX0 8 fTP fdTP ["_law_cell"] spTape) (kTP : keepIn K (.ref fTP) = true) (bTP : Binds K fdTP ["_law_cell"] []) (mTP : mg "_law_tape" = some (.ref fTP))
    {fM : Addr} {fdM : FuncData} (GM : FnOk P w K mg base CX0 8 fM fdM ["_law_tape_here", "_law_most", "_law_wide"] (spMake 6 9)) (kM : keepIn K (.ref fM) = true) (bM : Binds K fdM ["_law_tape_here", "_law_most", "_law_wide"] []) (mM : mg "_law_work" = some (.ref fM))
    {fPL : Addr} {fdPL : FuncData} (GPL : FnOk P w K mg base CX0 8 fPL fdPL ["_law_work_here"] spPlaces) (kPL : keepIn K (.ref fPL) = true) (bPL : Binds K fdPL ["_law_work_here"] []) (mPL : mg "_law_places" = some (.ref fPL))
    {fST : Addr} {fdST : FuncData} (GST : FnOk P w K mg base CX0 8 fST fdST ["_law_sheet", "_law_table"] (spStands C)) (kST : keepIn K (.ref fST) = true) (bST : Binds K fdST ["_law_sheet", "_law_table"] []) (mST : mg "_law_stands" = some (.ref fST))
    {fLY : Addr} {fdLY : FuncData} (GLY : FnOk P w K mg base CX0 8 fLY fdLY ["_law_tape_here", "_law_work_here"] spLaying) (kLY : keepIn K (.ref fLY) = true) (bLY : Binds K fdLY ["_law_tape_here", "_law_work_here"] []) (mLY : mg "_law_laying" = some (.ref fLY))
    {fLD : Addr} {fdLD : FuncData} (GLD : FnOk P w K mg base CX0 8 fLD fdLD ["_law_sheet", "_law_place", "_law_numbers"] (spLaidW C)) (kLD : keepIn K (.ref fLD) = true) (bLD : Binds K fdLD ["_law_sheet", "_law_place", "_law_numbers"] []) (mLD : mg "_law_laid" = some (.ref fLD))
    {fDU : Addr} {fdDU : FuncData} (GDU : FnOk P w K mg base CX0 8 fDU fdDU ["_law_table", "_law_place", "_law_numbers"] spDue) (kDU : keepIn K (.ref fDU) = true) (bDU : Binds K fdDU ["_law_table", "_law_place", "_law_numbers"] []) (mDU : mg "_law_due" = some (.ref fDU))
    {fI : Addr} {fdI : FuncData} (GI : FnOk P w K mg base CX0 6 fI fdI ["self", "work"] (spInit C)) (bI : Binds K fdI ["self", "work"] []) (MK : Mk K C fI) :
    FnOk P w K mg base CX0 9 f fd ["_law_script"] (spLaw K) := by
  refine F.ok scLaw (fun vs H Q E h => ?_) (fun cdv A outer s H vs Q E hr h => ?_)
  · obtain ⟨a, ns, rfl, _⟩ := h
    rfl
  · obtain ⟨a, ns, rfl, hS, hl, q⟩ := h
    have hr7 : Room 7 _ := hr.mono (by decide)
    refine ⟨_, (pss_cons (ps_for PassesOwn.never rfl (pi_list (pe_op op_cat (pe_lst (pa_cons (pe_call GA hr rfl mA kA bA .nil pass0 (pa_cons (pv 0) (pa_cons pe_int pa_nil))) pa_nil)) (pe_slice sl_list (pv 0) (po_some pe_int) (po_some pe_int)))) (pg_name (i := 1) scLaw.nd rfl (Or.inl rfl)) (pss_cons (ps_set (i := 2) scLaw.nd rfl (Or.inl rfl) (pe_call GTP hr rfl mTP kTP bTP .nil pass0 (pa_cons (pv 1) pa_nil))) (pss_cons (ps_set (i := 3) scLaw.nd rfl (Or.inl rfl) (pe_call GM hr rfl mM kM bM .nil pass0 (pa_cons (pv 2) (pa_cons pe_int (pa_cons pe_int pa_nil))))) (pss_cons (ps_set (i := 4) scLaw.nd rfl (Or.inl rfl) (pe_callTy (call_dictP rfl) (by rfl) G1.dict boot_dict (pa_cons (pe_comp (NB := ["_law_place"]) (g := gName 0) rfl (by decide +kernel) (by decide +kernel) (by decide +kernel) rfl (pi_list (pe_call GPL hr rfl mPL kPL bPL .nil pass0 (pa_cons (pv 3) pa_nil))) (fun C s H fp pn => pg_name (i := 0) ndLP rfl (Or.inl rfl) (.inr rfl)) (fun C s H fp pn => pts_nil) (fun C s H fp pn => pe_tup (pa_cons (pv 0) (pa_cons pe_non pa_nil)))) pa_nil))) (pss_cons (ps_set (i := 5) scLaw.nd rfl (Or.inl rfl) (pe_make MK GI hr7 rfl T.mgC bI .nil pass0 (pa_cons (pv 3) pa_nil))) (pss_cons (ps_for PassesOwn.never rfl (pi_range1 rfl G.range (pa_cons pe_int pa_nil)) (pg_name (i := 6) scLaw.nd rfl (Or.inl rfl)) (pss_cons (ps_if (pt_not (pt_val (pe_call GST hr rfl mST kST bST .nil pass0 (pa_cons (pv 5) (pa_cons (pv 4) pa_nil))))) (pss_one (ps_ret pe_bl)) pss_nil) (pss_cons (ps_asg (pe_call GLY hr rfl mLY kLY bLY .nil pass0 (pa_cons (pv 2) (pa_cons (pv 3) pa_nil))) (pg_tup (n := 2) rfl (pgs_cons (pg_name (i := 7) scLaw.nd rfl (Or.inl rfl)) (pgs_cons (pg_name (i := 8) scLaw.nd rfl (Or.inl rfl)) pgs_nil)))) (pss_one (ps_if (pt_cmpR op_ne (pe_call GLD hr rfl mLD kLD bLD .nil pass0 (pa_cons (pv 5) (pa_cons (pv 7) (pa_cons (pv 8) pa_nil)))) (pe_call GDU hr rfl mDU kDU bDU .nil pass0 (pa_cons (pv 4) (pa_cons (pv 7) (pa_cons (pv 8) pa_nil)))) (nomark _)) (pss_one (ps_ret pe_bl)) pss_nil))))) (pss_one (ps_if (pt_not (pt_val (pe_call GST hr rfl mST kST bST .nil pass0 (pa_cons (pv 5) (pa_cons (pv 4) pa_nil))))) (pss_one (ps_ret pe_bl)) pss_nil)))))))) (pss_one (ps_ret pe_bl))), ?_⟩
    have sl : sizeLine = 16777216 := sizeLine_eq
    refine ⟨_, rfl, a, ns, 0, rfl, hS, hl, fun c0 => ⟨by show 1 ≤ sizeLine; decide, fun l1 h1 => ?_⟩⟩
    have t1 : Same H (upd H l1 (.lst [.int c0])) := same_upd h1
    have e1 : (upd H l1 (.lst [.int c0])) l1 = some (.lst [.int c0]) := upd_same
    generalize upd H l1 (.lst [.int c0]) = H1 at t1 e1 ⊢
    obtain ⟨zs0, ez0, lz0⟩ := cut_ints ns (some 1) (some 6)
    refine ⟨_, rfl, _, rfl, _, rfl, a, _, rfl, t1.seq hS, fun l2 h2 => ?_⟩
    rw [ez0]
    have t2 : Same H1 (upd H1 l2 (.lst (zs0.map V.int))) := same_upd h2
    have e2 : (upd H1 l2 (.lst (zs0.map V.int))) l2 = some (.lst (zs0.map V.int)) := upd_same
    generalize upd H1 l2 (.lst (zs0.map V.int)) = H2 at t2 e2 ⊢
    refine ⟨l1, l2, _, _, rfl, rfl, t2 _ _ e1, e2, by rw [List.length_map]; show 1 + zs0.length ≤ sizeLine; omega, fun l3 h3 => ?_⟩
    have e3 : (upd H2 l3 (.lst ([V.int c0] ++ zs0.map V.int))) l3 = some (.lst ((c0 :: zs0).map V.int)) := upd_same
    generalize upd H2 l3 (.lst ([V.int c0] ++ zs0.map V.int)) = HL at e3 ⊢
    refine ⟨l3, rfl, ⟨_, SqL.of e3⟩, for_list (K := K) (a := l3) (xs := (c0 :: zs0).map V.int) (fun i σ H7 => Same HL H7 ∧ ∃ o1 o2 o3 o4 o5 o6 o7 o8 : Option V, σ = [some (.ref a), o1, o2, o3, o4, o5, o6, o7, o8])
      ⟨fun _ _ e => e, _, _, _, _, _, _, _, _, rfl⟩ (fun i σ H7 _ ⟨s7, _⟩ => SqL.of (s7 _ _ e3)) ?_ ?_⟩
    rotate_left
    · rintro σ H7 ⟨_, o1, o2, o3, o4, o5, o6, o7, o8, rfl⟩
      exact q H7
    rintro i y σ HB hi ⟨smL, o1, o2, o3, o4, o5, o6, o7, o8, rfl⟩
    obtain ⟨cc, rfl⟩ : ∃ z, y = V.int z := by
      rw [List.getElem?_map] at hi
      cases e : (c0 :: zs0)[i]? with
      | none => rw [e] at hi; cases hi
      | some z => rw [e] at hi; exact ⟨z, (Option.some.inj hi).symm⟩
    clear hi
    -- tape, work
    refine ⟨_, rfl, cc, rfl, fun w' G1 s1 n1 wl1 => ?_⟩
    refine ⟨_, rfl, w', rfl, wl1, fun p ps G2 k2 hw2 md => ?_⟩
    have s2 := kp_back s1 n1 k2
    have lps := md.len
    have lal := allp_small fun q hq => (md.at_ q hq).2.2
    -- the table
    refine ⟨_, rfl, p, ps, rfl, hw2, md, fun r G3 s3 nr er => ?_⟩
    have ll : ((allp ps).map V.int).length = (allp ps).length := List.length_map ..
    refine ⟨r, rfl, ⟨_, SqL.of er⟩, fun acc hacc => ?_⟩
    refine ⟨fun i m ys G => m = (allp ps).length - i ∧ i ≤ (allp ps).length ∧ Paired (PairE G) ys (tbl (fun _ => none) ((allp ps).take i)) ∧ Same G3 G ∧ G acc = some (.lst ys), ⟨_, rfl, Nat.zero_le _, .nil, same_upd hacc, upd_same⟩, ?_⟩
    rintro i m ys G ⟨rfl, hi, hP, sm, hA⟩
    refine ⟨hA, ?_⟩
    have ly : ys.length = i := by
      have := hP.length
      rw [tbl_len, List.length_take] at this
      omega
    by_cases hlt : i < (allp ps).length
    · refine .inr ⟨⟨_, _, SqL.of (sm _ _ er), List.getElem?_eq_getElem (by omega)⟩, ?_⟩
      rintro y H'' ⟨rfl, hy⟩
      have ey := hy _ (SqL.of (sm _ _ er))
      have ez : y = V.int (allp ps)[i] := by
        rw [List.getElem?_map, List.getElem?_eq_getElem hlt] at ey
        exact (Option.some.inj ey).symm
      subst ez
      refine gName_in ?_
      refine tYes_in ?_
      refine iteT ?_
      refine ⟨_, rfl, by show 2 ≤ sizeLine; decide, fun t' ht => ?_⟩
      have nt : acc ≠ t' := ne_of_none hA ht
      refine ⟨by rw [upd_ne nt]; exact hA, by omega, _, ?_, rfl, hlt, ?_, fun b o z => ?_, upd_same⟩
      · omega
      · rw [List.take_add_one, List.getElem?_eq_getElem hlt]
        unfold tbl
        rw [List.map_append]
        exact paired_snoc (paired_map (fun v q ⟨b, z1, z2⟩ => ⟨b, z1, by rw [upd_ne (ne_of z2 hA (by intro z; cases z)), upd_ne (ne_of_none z2 ht)]; exact z2⟩) hP) ⟨t', rfl, by rw [upd_ne nt.symm]; exact upd_same⟩
      · rw [upd_ne (ne_of_none z hacc), upd_ne (ne_of_none (sm _ _ z) ht)]
        exact sm _ _ z
    refine .inl ⟨⟨_, SqL.of (sm _ _ er), by omega⟩, ?_⟩
    have ei : (allp ps).take i = allp ps := List.take_of_length_le (by omega)
    rw [ei] at hP
    clear hlt hi ei ly
    refine ⟨acc, ys, tbl (fun _ => none) (allp ps), rfl, hA, hP, tbl_nd (allp_rise md.wk), by rw [tbl_len]; omega, fun tb htb => ?_⟩
    have s4 : Same G (upd G tb (.dK (tbl (fun _ => none) (allp ps)))) := same_upd htb
    have et : (upd G tb (.dK (tbl (fun _ => none) (allp ps)))) tb = some (.dK (tbl (fun _ => none) (allp ps))) := upd_same
    generalize upd G tb (.dK (tbl (fun _ => none) (allp ps))) = G4 at s4 et ⊢
    have s24 : Same G2 G4 := s3.trans (sm.trans s4)
    have hw4 := hw2.same s24
    have nBt : HB tb = none := (s2.trans (s3.trans sm)).free htb
    -- the sheet
    refine ⟨_, rfl, fun sp dx nx ndx nex => ⟨sp, dx, p, ps, rfl, upd_same, hw4.same (mk_work nx ndx), md.wk, by omega, fun pw d ws G5 nd S sh mm lw kp => ⟨rfl, ?_⟩⟩⟩
    have s5 : Same G4 G5 := mk_same nx ndx kp
    have nd4 : G4 d = none := mk_free nd
    have nBd : HB d = none := (s2.trans s24).free nd4
    have ndt : d ≠ tb := (ne_of_none et nd4).symm
    have s25 := s24.trans s5
    have inn : Inn C HB w' p sp pw d tb ps ws G5 := ⟨k2.wl.same s25, hw2.same s25, s2.trans s25, _, _, _, _, S, s5 _ _ et, Agree.new md sh mm lw⟩
    clear s5 s25 S kp nd nd4 nx ndx nex s4 s24 et htb hP hA sm er nr s3 hw2 hw4 k2 wl1 s1 s2 hacc
    -- thirty layings
    refine ⟨30, rfl, by decide, by decide, ?_⟩
    refine for_range (lo := 0) (n := 30) (fun i σ G => Inn C HB w' p sp pw d tb ps ws G ∧ ∃ o6 o7 o8 : Option V, σ = [some (.ref a), some (.int cc), some (.ref w'), some (.ref p), some (.ref tb), some (.ref sp), o6, o7, o8])
      ⟨inn, _, _, _, rfl⟩ ?_ ?_
    · rintro i σ Ga hi ⟨inn, o6, o7, o8, rfl⟩
      obtain ⟨f1, kvs, ns1, vf, S, et, ag⟩ := inn.st
      refine ⟨_, rfl, _, rfl, sp, pw, d, tb, ws, kvs, ns1, f1, allp ps, vf, rfl, S, ndt, et, ag, fun Gb sb => ⟨_, rfl, iteF ?_⟩⟩
      have innb := inn.same sb
      refine ⟨_, rfl, _, rfl, w', p, ps, rfl, innb.wl, innb.wk, md, fun t tn l zs Gc kc e1 e2 lz b1 b2 => ?_⟩
      have innc := innb.kp n1 kc
      refine ⟨t, _, rfl, SqT.of e1, rfl, _, _, rfl, _, _, rfl, rfl, ?_⟩
      obtain ⟨f1, kvs, ns1, vf, S, et, ag⟩ := innc.st
      have lw1 := ag.lw
      have lk : kvs.length = ns1.length := by
        have := congrArg List.length ag.hh.key
        rwa [List.length_map, List.length_map] at this
      have l64 := ag.hh.len
      refine ⟨_, rfl, _, rfl, _, rfl, sp, pw, d, tn, ws, kvs, l, zs, rfl, S, e2, by omega, by omega, by omega, by omega, by omega, fun ar hn Gd hd kk => ?_, fun ar hn Gd sd => ?_, fun nz na Gd sd => ?_⟩
      · have h1 := ag.row.mp ar
        have h2 : ∀ i : Nat, i < zs.length → f1 (l + (i : Int)) = none := fun i hi => (ag.val (h1 i hi)).mp (hn i hi)
        have e2' := kk _ _ e2 (ne_of e2 S.dc (by intro z; cases z))
        refine ⟨_, rfl, _, rfl, _, rfl, tb, tn, f1, allp ps, l, zs, rfl, kk _ _ et ndt.symm, e2', by omega, lz, (fun ⟨i, hi, z⟩ => absurd (h1 i hi) z), (fun _ ⟨i, hi, z⟩ => absurd (h2 i hi) z), fun _ _ Ge he kk2 => ⟨rfl, _, rfl, iteF ⟨innc.put nBd nBt ndt S et hd kk he kk2 (ag.put h1 h2 (by omega) (by omega)), _, _, _, rfl⟩⟩⟩
      · have h1 := ag.row.mp ar
        obtain ⟨i, hi, z⟩ := hn
        have h2 : f1 (l + (i : Int)) ≠ none := fun y => z ((ag.val (h1 i hi)).mpr y)
        have innd := innc.same sd
        refine ⟨_, rfl, _, rfl, _, rfl, tb, tn, f1, allp ps, l, zs, rfl, sd _ _ et, sd _ _ e2, by omega, lz, (fun ⟨i, hi, z⟩ => absurd (h1 i hi) z), (fun _ _ Ge se => ⟨rfl, _, rfl, iteF ⟨innd.same se, _, _, _, rfl⟩⟩), fun _ g => absurd (g i hi) h2⟩
      · have nr : ¬ ∀ i : Nat, i < zs.length → l + (i : Int) ∈ allp ps := fun g => (ag.row.mpr g).elim nz na
        have innd := innc.same sd
        refine ⟨_, rfl, _, rfl, _, rfl, tb, tn, f1, allp ps, l, zs, rfl, sd _ _ et, sd _ _ e2, by omega, lz, (fun _ Ge se => ⟨rfl, _, rfl, iteF ⟨innd.same se, _, _, _, rfl⟩⟩), (fun g => absurd g nr), fun g => absurd g nr⟩
    · rintro σ Ga ⟨inn, o6, o7, o8, rfl⟩
      obtain ⟨f1, kvs, ns1, vf, S, et, ag⟩ := inn.st
      exact ⟨_, rfl, _, rfl, sp, pw, d, tb, ws, kvs, ns1, f1, allp ps, vf, rfl, S, ndt, et, ag, fun Gb sb => ⟨_, rfl, iteF ⟨smL.trans (inn.bk.trans sb), _, _, _, _, _, _, _, _, rfl⟩⟩⟩

end
end Ls

set_option maxHeartbeats 4000000
namespace L2
open PySem PySem.Spec PyProof.Rows
theorem FnOk.ex {ι : Type} {P : Program} {w : World} {K : PySem.W.Frag} {mg : Str → Option Value} {base : Heap} {CX : CXT} {k : Nat} {f : Addr} {fd : FuncData} {ps : List Str} {sp : ι → Sp} (F : ∀ i, FnOk P w K mg base CX k f fd ps (sp i)) : FnOk P w K mg base CX k f fd ps (fun vs H Q E => ∃ i, sp i vs H Q E) :=
  ⟨fun vs H Q E ⟨i, q⟩ => (F i).len vs H Q E q, fun A outer s H args us vs Q E hr he hb hv ⟨i, hs⟩ => (F i).run A outer s H args us vs Q E hr he hb hv hs⟩
end L2
namespace Ls
open PySem L2 PySem.W
theorem all_mk {l : OpenLaw} {w : World} {K : Frag} {h : Heap} {mg : Str → Option Value} {fa C : Addr} {f1 : Addr} {f2 : Addr} {f3 : Addr} {f4 : Addr} {f5 : Addr} {f6 : Addr} {f7 : Addr} {f8 : Addr} {f9 : Addr} {f10 : Addr} {f11 : Addr} {f12 : Addr} {f13 : Addr} {f14 : Addr} {f15 : Addr} {f16 : Addr} {f17 : Addr} {f18 : Addr} {f19 : Addr} {f20 : Addr} {f21 : Addr} {f22 : Addr} {f23 : Addr} {f24 : Addr} {f25 : Addr} {f26 : Addr} {f27 : Addr} {f28 : Addr} {od1 an1 : Option Addr} {sl1 : Array (Option Value)} {oc1 kV1 dc1 pm1 cd1 ct1 : Value} {od2 an2 : Option Addr} {sl2 : Array (Option Value)} {oc2 kV2 dc2 pm2 cd2 ct2 : Value} {od3 an3 : Option Addr} {sl3 : Array (Option Value)} {oc3 kV3 dc3 pm3 cd3 ct3 : Value} {od4 an4 : Option Addr} {sl4 : Array (Option Value)} {oc4 kV4 dc4 pm4 cd4 ct4 : Value} {od5 an5 : Option Addr} {sl5 : Array (Option Value)} {oc5 kV5 dc5 pm5 cd5 ct5 : Value} {od6 an6 : Option Addr} {sl6 : Array (Option Value)} {oc6 kV6 dc6 pm6 cd6 ct6 : Value} {od7 an7 : Option Addr} {sl7 : Array (Option Value)} {oc7 kV7 dc7 pm7 cd7 ct7 : Value} {od8 an8 : Option Addr} {sl8 : Array (Option Value)} {oc8 kV8 dc8 pm8 cd8 ct8 : Value} {od9 an9 : Option Addr} {sl9 : Array (Option Value)} {oc9 kV9 dc9 pm9 cd9 ct9 : Value} {od10 an10 : Option Addr} {sl10 : Array (Option Value)} {oc10 kV10 dc10 pm10 cd10 ct10 : Value} {od11 an11 : Option Addr} {sl11 : Array (Option Value)} {oc11 kV11 dc11 pm11 cd11 ct11 : Value} {od12 an12 : Option Addr} {sl12 : Array (Option Value)} {oc12 kV12 dc12 pm12 cd12 ct12 : Value} {od13 an13 : Option Addr} {sl13 : Array (Option Value)} {oc13 kV13 dc13 pm13 cd13 ct13 : Value} {od14 an14 : Option Addr} {sl14 : Array (Option Value)} {oc14 kV14 dc14 pm14 cd14 ct14 : Value} {od15 an15 : Option Addr} {sl15 : Array (Option Value)} {oc15 kV15 dc15 pm15 cd15 ct15 : Value} {od16 an16 : Option Addr} {sl16 : Array (Option Value)} {oc16 kV16 dc16 pm16 cd16 ct16 : Value} {od17 an17 : Option Addr} {sl17 : Array (Option Value)} {oc17 kV17 dc17 pm17 cd17 ct17 : Value} {od18 an18 : Option Addr} {sl18 : Array (Option Value)} {oc18 kV18 dc18 pm18 cd18 ct18 : Value} {od19 an19 : Option Addr} {sl19 : Array (Option Value)} {oc19 kV19 dc19 pm19 cd19 ct19 : Value} {od20 an20 : Option Addr} {sl20 : Array (Option Value)} {oc20 kV20 dc20 pm20 cd20 ct20 : Value} {od21 an21 : Option Addr} {sl21 : Array (Option Value)} {oc21 kV21 dc21 pm21 cd21 ct21 : Value} {od22 an22 : Option Addr} {sl22 : Array (Option Value)} {oc22 kV22 dc22 pm22 cd22 ct22 : Value} {od23 an23 : Option Addr} {sl23 : Array (Option Value)} {oc23 kV23 dc23 pm23 cd23 ct23 : Value} {od24 an24 : Option Addr} {sl24 : Array (Option Value)} {oc24 kV24 dc24 pm24 cd24 ct24 : Value} {od25 an25 : Option Addr} {sl25 : Array (Option Value)} {oc25 kV25 dc25 pm25 cd25 ct25 : Value} {od26 an26 : Option Addr} {sl26 : Array (Option Value)} {oc26 kV26 dc26 pm26 cd26 ct26 : Value} {od27 an27 : Option Addr} {sl27 : Array (Option Value)} {oc27 kV27 dc27 pm27 cd27 ct27 : Value} {od28 an28 : Option Addr} {sl28 : Array (Option Value)} {oc28 kV28 dc28 pm28 cd28 ct28 : Value} {CLentError : Addr} {CBadPlace : Addr} {CTwice : Addr} (X : K.In h) (G : h.Ns mainGlobals mg) (hfa : mg "law" = some (.ref fa))
    (aC : nsIn K mainGlobals "Sheet" = some (some (.ref C)))
    (nLentError : nsIn K mainGlobals "LentError" = some (some (.ref CLentError)))
    (nBadPlace : nsIn K mainGlobals "BadPlace" = some (some (.ref CBadPlace)))
    (nTwice : nsIn K mainGlobals "Twice" = some (some (.ref CTwice)))
    (a1 : nsIn K mainGlobals "is_whole" = some (some (.ref f1)))
    (l1 : K.lookup f1 = some ⟨oc1, od1, .func (fnOf "is_whole" "is_whole" (defArgs sWhole) (defBody sWhole) (defScope sWhole) .none kV1 dc1 pm1 an1 cd1 ct1), sl1⟩)
    (c1 : codeIn K cd1 "is_whole" = true)
    (k1 : keepIn K (.ref f1) = true)
    (a2 : nsIn K mainGlobals "is_stretch" = some (some (.ref f2)))
    (l2 : K.lookup f2 = some ⟨oc2, od2, .func (fnOf "is_stretch" "is_stretch" (defArgs sStretch) (defBody sStretch) (defScope sStretch) .none kV2 dc2 pm2 an2 cd2 ct2), sl2⟩)
    (c2 : codeIn K cd2 "is_stretch" = true)
    (k2 : keepIn K (.ref f2) = true)
    (a3 : nsIn K mainGlobals "is_work" = some (some (.ref f3)))
    (l3 : K.lookup f3 = some ⟨oc3, od3, .func (fnOf "is_work" "is_work" (defArgs sWork) (defBody sWork) (defScope sWork) .none kV3 dc3 pm3 an3 cd3 ct3), sl3⟩)
    (c3 : codeIn K cd3 "is_work" = true)
    (k3 : keepIn K (.ref f3) = true)
    (a4 : nsIn K mainGlobals "check_work" = some (some (.ref f4)))
    (l4 : K.lookup f4 = some ⟨oc4, od4, .func (fnOf "check_work" "check_work" (defArgs sCheck) (defBody sCheck) (defScope sCheck) .none kV4 dc4 pm4 an4 cd4 ct4), sl4⟩)
    (c4 : codeIn K cd4 "check_work" = true)
    (k4 : keepIn K (.ref f4) = true)
    (a5 : nsIn K mainGlobals "merged" = some (some (.ref f5)))
    (l5 : K.lookup f5 = some ⟨oc5, od5, .func (fnOf "merged" "merged" (defArgs sMerged) (defBody sMerged) (defScope sMerged) .none kV5 dc5 pm5 an5 cd5 ct5), sl5⟩)
    (c5 : codeIn K cd5 "merged" = true)
    (k5 : keepIn K (.ref f5) = true)
    (a6 : nsIn K mainGlobals "short_form" = some (some (.ref f6)))
    (l6 : K.lookup f6 = some ⟨oc6, od6, .func (fnOf "short_form" "short_form" (defArgs sShort) (defBody sShort) (defScope sShort) .none kV6 dc6 pm6 an6 cd6 ct6), sl6⟩)
    (c6 : codeIn K cd6 "short_form" = true)
    (k6 : keepIn K (.ref f6) = true)
    (a7 : nsIn K mainGlobals "without" = some (some (.ref f7)))
    (l7 : K.lookup f7 = some ⟨oc7, od7, .func (fnOf "without" "without" (defArgs sWithout) (defBody sWithout) (defScope sWithout) .none kV7 dc7 pm7 an7 cd7 ct7), sl7⟩)
    (c7 : codeIn K cd7 "without" = true)
    (k7 : keepIn K (.ref f7) = true)
    (a8 : nsIn K mainGlobals "is_numbers" = some (some (.ref f8)))
    (l8 : K.lookup f8 = some ⟨oc8, od8, .func (fnOf "is_numbers" "is_numbers" (defArgs sNumbers) (defBody sNumbers) (defScope sNumbers) .none kV8 dc8 pm8 an8 cd8 ct8), sl8⟩)
    (c8 : codeIn K cd8 "is_numbers" = true)
    (k8 : keepIn K (.ref f8) = true)
    (a9 : nsIn K mainGlobals "_law_cell_at" = some (some (.ref f9)))
    (l9 : K.lookup f9 = some ⟨oc9, od9, .func (fnOf "_law_cell_at" "_law_cell_at" (defArgs sCell) (defBody sCell) (defScope sCell) .none kV9 dc9 pm9 an9 cd9 ct9), sl9⟩)
    (c9 : codeIn K cd9 "_law_cell_at" = true)
    (k9 : keepIn K (.ref f9) = true)
    (a10 : nsIn K mainGlobals "_law_tape" = some (some (.ref f10)))
    (l10 : K.lookup f10 = some ⟨oc10, od10, .func (fnOf "_law_tape" "_law_tape" (defArgs sTape) (defBody sTape) (defScope sTape) .none kV10 dc10 pm10 an10 cd10 ct10), sl10⟩)
    (c10 : codeIn K cd10 "_law_tape" = true)
    (k10 : keepIn K (.ref f10) = true)
    (a11 : nsIn K mainGlobals "_law_take" = some (some (.ref f11)))
    (l11 : K.lookup f11 = some ⟨oc11, od11, .func (fnOf "_law_take" "_law_take" (defArgs sTake) (defBody sTake) (defScope sTake) .none kV11 dc11 pm11 an11 cd11 ct11), sl11⟩)
    (c11 : codeIn K cd11 "_law_take" = true)
    (k11 : keepIn K (.ref f11) = true)
    (a12 : nsIn K mainGlobals "_law_start" = some (some (.ref f12)))
    (l12 : K.lookup f12 = some ⟨oc12, od12, .func (fnOf "_law_start" "_law_start" (defArgs sStart) (defBody sStart) (defScope sStart) .none kV12 dc12 pm12 an12 cd12 ct12), sl12⟩)
    (c12 : codeIn K cd12 "_law_start" = true)
    (k12 : keepIn K (.ref f12) = true)
    (a13 : nsIn K mainGlobals "_law_work" = some (some (.ref f13)))
    (l13 : K.lookup f13 = some ⟨oc13, od13, .func (fnOf "_law_work" "_law_work" (defArgs sMake) (defBody sMake) (defScope sMake) .none kV13 dc13 pm13 an13 cd13 ct13), sl13⟩)
    (c13 : codeIn K cd13 "_law_work" = true)
    (k13 : keepIn K (.ref f13) = true)
    (a14 : nsIn K mainGlobals "_law_places" = some (some (.ref f14)))
    (l14 : K.lookup f14 = some ⟨oc14, od14, .func (fnOf "_law_places" "_law_places" (defArgs sPlaces) (defBody sPlaces) (defScope sPlaces) .none kV14 dc14 pm14 an14 cd14 ct14), sl14⟩)
    (c14 : codeIn K cd14 "_law_places" = true)
    (k14 : keepIn K (.ref f14) = true)
    (a15 : nsIn K mainGlobals "_law_stretches" = some (some (.ref f15)))
    (l15 : K.lookup f15 = some ⟨oc15, od15, .func (fnOf "_law_stretches" "_law_stretches" (defArgs sStretches) (defBody sStretches) (defScope sStretches) .none kV15 dc15 pm15 an15 cd15 ct15), sl15⟩)
    (c15 : codeIn K cd15 "_law_stretches" = true)
    (k15 : keepIn K (.ref f15) = true)
    (a16 : nsIn K mainGlobals "_law_laid" = some (some (.ref f16)))
    (l16 : K.lookup f16 = some ⟨oc16, od16, .func (fnOf "_law_laid" "_law_laid" (defArgs sLaidW) (defBody sLaidW) (defScope sLaidW) .none kV16 dc16 pm16 an16 cd16 ct16), sl16⟩)
    (c16 : codeIn K cd16 "_law_laid" = true)
    (k16 : keepIn K (.ref f16) = true)
    (a17 : nsIn K mainGlobals "_law_due" = some (some (.ref f17)))
    (l17 : K.lookup f17 = some ⟨oc17, od17, .func (fnOf "_law_due" "_law_due" (defArgs sDue) (defBody sDue) (defScope sDue) .none kV17 dc17 pm17 an17 cd17 ct17), sl17⟩)
    (c17 : codeIn K cd17 "_law_due" = true)
    (k17 : keepIn K (.ref f17) = true)
    (a18 : nsIn K mainGlobals "_law_stands" = some (some (.ref f18)))
    (l18 : K.lookup f18 = some ⟨oc18, od18, .func (fnOf "_law_stands" "_law_stands" (defArgs sStands) (defBody sStands) (defScope sStands) .none kV18 dc18 pm18 an18 cd18 ct18), sl18⟩)
    (c18 : codeIn K cd18 "_law_stands" = true)
    (k18 : keepIn K (.ref f18) = true)
    (a19 : nsIn K mainGlobals "_law_laying" = some (some (.ref f19)))
    (l19 : K.lookup f19 = some ⟨oc19, od19, .func (fnOf "_law_laying" "_law_laying" (defArgs sLaying) (defBody sLaying) (defScope sLaying) .none kV19 dc19 pm19 an19 cd19 ct19), sl19⟩)
    (c19 : codeIn K cd19 "_law_laying" = true)
    (k19 : keepIn K (.ref f19) = true)
    (a20 : findIn K (.ref C) "__init__" = some (some (.ref f20)))
    (i20 : isFn K (.ref f20) = true)
    (l20 : K.lookup f20 = some ⟨oc20, od20, .func (fnOf "__init__" "Sheet.__init__" (defArgs sSInit) (defBody sSInit) (defScope sSInit) .none kV20 dc20 pm20 an20 cd20 ct20), sl20⟩)
    (c20 : codeIn K cd20 "Sheet.__init__" = true)
    (k20 : keepIn K (.ref f20) = true)
    (a21 : findIn K (.ref C) "lay" = some (some (.ref f21)))
    (i21 : isFn K (.ref f21) = true)
    (l21 : K.lookup f21 = some ⟨oc21, od21, .func (fnOf "lay" "Sheet.lay" (defArgs sSLay) (defBody sSLay) (defScope sSLay) .none kV21 dc21 pm21 an21 cd21 ct21), sl21⟩)
    (c21 : codeIn K cd21 "Sheet.lay" = true)
    (k21 : keepIn K (.ref f21) = true)
    (a22 : findIn K (.ref C) "result_at" = some (some (.ref f22)))
    (i22 : isFn K (.ref f22) = true)
    (l22 : K.lookup f22 = some ⟨oc22, od22, .func (fnOf "result_at" "Sheet.result_at" (defArgs sSRes) (defBody sSRes) (defScope sSRes) .none kV22 dc22 pm22 an22 cd22 ct22), sl22⟩)
    (c22 : codeIn K cd22 "Sheet.result_at" = true)
    (k22 : keepIn K (.ref f22) = true)
    (a23 : findIn K (.ref C) "all_results" = some (some (.ref f23)))
    (i23 : isFn K (.ref f23) = true)
    (l23 : K.lookup f23 = some ⟨oc23, od23, .func (fnOf "all_results" "Sheet.all_results" (defArgs sSAll) (defBody sSAll) (defScope sSAll) .none kV23 dc23 pm23 an23 cd23 ct23), sl23⟩)
    (c23 : codeIn K cd23 "Sheet.all_results" = true)
    (k23 : keepIn K (.ref f23) = true)
    (a24 : findIn K (.ref C) "left_work" = some (some (.ref f24)))
    (i24 : isFn K (.ref f24) = true)
    (l24 : K.lookup f24 = some ⟨oc24, od24, .func (fnOf "left_work" "Sheet.left_work" (defArgs sSLeft) (defBody sSLeft) (defScope sSLeft) .none kV24 dc24 pm24 an24 cd24 ct24), sl24⟩)
    (c24 : codeIn K cd24 "Sheet.left_work" = true)
    (k24 : keepIn K (.ref f24) = true)
    (a25 : findIn K (.ref C) "holds_row" = some (some (.ref f25)))
    (i25 : isFn K (.ref f25) = true)
    (l25 : K.lookup f25 = some ⟨oc25, od25, .func (fnOf "holds_row" "Sheet.holds_row" (defArgs sSHolds) (defBody sSHolds) (defScope sSHolds) .none kV25 dc25 pm25 an25 cd25 ct25), sl25⟩)
    (c25 : codeIn K cd25 "Sheet.holds_row" = true)
    (k25 : keepIn K (.ref f25) = true)
    (a26 : findIn K (.ref C) "laid_work" = some (some (.ref f26)))
    (i26 : isFn K (.ref f26) = true)
    (l26 : K.lookup f26 = some ⟨oc26, od26, .func (fnOf "laid_work" "Sheet.laid_work" (defArgs sSLaid) (defBody sSLaid) (defScope sSLaid) .none kV26 dc26 pm26 an26 cd26 ct26), sl26⟩)
    (c26 : codeIn K cd26 "Sheet.laid_work" = true)
    (k26 : keepIn K (.ref f26) = true)
    (a27 : findIn K (.ref C) "numbers_between" = some (some (.ref f27)))
    (i27 : isFn K (.ref f27) = true)
    (l27 : K.lookup f27 = some ⟨oc27, od27, .func (fnOf "numbers_between" "Sheet.numbers_between" (defArgs sSBetween) (defBody sSBetween) (defScope sSBetween) .none kV27 dc27 pm27 an27 cd27 ct27), sl27⟩)
    (c27 : codeIn K cd27 "Sheet.numbers_between" = true)
    (k27 : keepIn K (.ref f27) = true)
    (a28 : nsIn K mainGlobals "law" = some (some (.ref f28)))
    (l28 : K.lookup f28 = some ⟨oc28, od28, .func (fnOf "law" "law" (defArgs sLaw) (defBody sLaw) (defScope sLaw) .none kV28 dc28 pm28 an28 cd28 ct28), sl28⟩)
    (c28 : codeIn K cd28 "law" = true)
    (k28 : keepIn K (.ref f28) = true)
    (z0 : nsIn K mainGlobals "isinstance" = some none)
    (z1 : nsIn K mainGlobals "int" = some none)
    (z2 : nsIn K mainGlobals "bool" = some none)
    (z3 : nsIn K mainGlobals "tuple" = some none)
    (z4 : nsIn K mainGlobals "len" = some none)
    (z5 : nsIn K mainGlobals "range" = some none)
    (z6 : nsIn K mainGlobals "list" = some none)
    (z7 : nsIn K mainGlobals "max" = some none)
    (z8 : nsIn K mainGlobals "sum" = some none)
    (z9 : nsIn K mainGlobals "sorted" = some none)
    (z10 : nsIn K mainGlobals "any" = some none)
    (z11 : nsIn K mainGlobals "all" = some none)
    (z12 : nsIn K mainGlobals "enumerate" = some none)
    (z13 : nsIn K mainGlobals "min" = some none)
    (z14 : nsIn K mainGlobals "zip" = some none)
    (z15 : nsIn K mainGlobals "dict" = some none)
    (pg : plainGet K C Str.empty = true)
    (hd : hasDictIn K C = true)
    (po : plainOver K C = true)
    (sa : findIn K (.ref C) "__setattr__" = some (some (.builtin "object.__setattr__")))
    (mk : makesIn K C = true)
    (kc : keepIn K (.ref C) = true)
    (nW : findIn K (.ref C) "work" = some none)
    (nR : findIn K (.ref C) "results" = some none)
    (xBadPlace : excIn K CBadPlace [.type "ValueError", .type "Exception", .type "BaseException", .type "object"] "ValueError.__new__" = true)
    (clBadPlace : (clsIn K CBadPlace).isSome = true)
    (gaBadPlace : findIn K (.ref CBadPlace) "__getattribute__" = some (some (.builtin "BaseException.__getattribute__")))
    (ghBadPlace : findIn K (.ref CBadPlace) "__getattr__" = some none)
    (caBadPlace : findIn K (.ref CBadPlace) "__class__" = some (some (.builtin "object.__class__")))
    (moBadPlace : mroIn K CBadPlace (.type "object") = some true)
    (mbBadPlace : mroIn K CBadPlace (.type "BaseException") = some true)
    (hitBadPlace : exmOne K (.ref CBadPlace) (.ref CLentError) = some true)
    (mBadPlaceTwice : kitOne K (.ref CBadPlace) (.ref CTwice) = some false)
    (xTwice : excIn K CTwice [.type "ValueError", .type "Exception", .type "BaseException", .type "object"] "ValueError.__new__" = true)
    (clTwice : (clsIn K CTwice).isSome = true)
    (gaTwice : findIn K (.ref CTwice) "__getattribute__" = some (some (.builtin "BaseException.__getattribute__")))
    (ghTwice : findIn K (.ref CTwice) "__getattr__" = some none)
    (caTwice : findIn K (.ref CTwice) "__class__" = some (some (.builtin "object.__class__")))
    (moTwice : mroIn K CTwice (.type "object") = some true)
    (mbTwice : mroIn K CTwice (.type "BaseException") = some true)
    (hitTwice : exmOne K (.ref CTwice) (.ref CLentError) = some true)
    (mTwiceBadPlace : kitOne K (.ref CTwice) (.ref CBadPlace) = some false)
    (cg : specialIn K (.builtin "object.__class__") "__get__" = some (some (.builtin "getset_descriptor.__get__")))
    (ct : takesIn K (.builtin "object.__class__") = some true) :
    ∃ fd : FuncData, (∀ (s : Shared) (v : Value), BindsTo s fd ⟨[v], []⟩ [("_law_script", v)]) ∧ ∀ base : Heap, K.In base → base.Ns mainGlobals mg → FnOk l.prog w K mg base CX0 9 fa fd ["_law_script"] (spLaw K) := by
  have e := hfa.symm.trans (mg_of X G a28)
  cases e
  have B : Gb mg := ⟨mg_none_of X G z0, mg_none_of X G z1, mg_none_of X G z2, mg_none_of X G z3, mg_none_of X G z4, mg_none_of X G z5, mg_none_of X G z6, mg_none_of X G z7, mg_none_of X G z8, mg_none_of X G z9, mg_none_of X G z10, mg_none_of X G z11, mg_none_of X G z12, mg_none_of X G z13⟩
  have B1 : Gb1 mg := ⟨mg_none_of X G z14, mg_none_of X G z15⟩
  have T : Cl K mg C := ⟨⟨pg, hd, po, sa⟩, nW, nR, mg_of X G aC⟩
  have EBadPlace : ExcK K CBadPlace := ⟨xBadPlace, clBadPlace, gaBadPlace, ghBadPlace, caBadPlace, cg, ct, moBadPlace, mbBadPlace⟩
  have ETwice : ExcK K CTwice := ⟨xTwice, clTwice, gaTwice, ghTwice, caTwice, cg, ct, moTwice, mbTwice⟩
  have R : Er2 K mg CLentError CBadPlace CTwice := ⟨mg_of X G nLentError, mg_of X G nBadPlace, mg_of X G nTwice, EBadPlace, ETwice, hitBadPlace, hitTwice, mBadPlaceTwice, mTwiceBadPlace⟩
  have TW : Tw K mg CTwice := ⟨mg_of X G nTwice, xTwice⟩
  have TB : Bp K mg CBadPlace := ⟨mg_of X G nBadPlace, xBadPlace⟩
  have F1 := fun_mk (st := sWhole) l1 c1 k1
  have b1 := F1.binds (ps := ["thing"]) fun _ _ _ _ _ _ us hl => by obtain ⟨a0_, rfl⟩ := len1 hl; rfl
  have M1 := mg_of X G a1
  have F2 := fun_mk (st := sStretch) l2 c2 k2
  have b2 := F2.binds (ps := ["thing"]) fun _ _ _ _ _ _ us hl => by obtain ⟨a0_, rfl⟩ := len1 hl; rfl
  have M2 := mg_of X G a2
  have F3 := fun_mk (st := sWork) l3 c3 k3
  have b3 := F3.binds (ps := ["thing"]) fun _ _ _ _ _ _ us hl => by obtain ⟨a0_, rfl⟩ := len1 hl; rfl
  have M3 := mg_of X G a3
  have F4 := fun_mk (st := sCheck) l4 c4 k4
  have b4 := F4.binds (ps := ["work"]) fun _ _ _ _ _ _ us hl => by obtain ⟨a0_, rfl⟩ := len1 hl; rfl
  have M4 := mg_of X G a4
  have F5 := fun_mk (st := sMerged) l5 c5 k5
  have b5 := F5.binds (ps := ["stretches"]) fun _ _ _ _ _ _ us hl => by obtain ⟨a0_, rfl⟩ := len1 hl; rfl
  have M5 := mg_of X G a5
  have F6 := fun_mk (st := sShort) l6 c6 k6
  have b6 := F6.binds (ps := ["work"]) fun _ _ _ _ _ _ us hl => by obtain ⟨a0_, rfl⟩ := len1 hl; rfl
  have M6 := mg_of X G a6
  have F7 := fun_mk (st := sWithout) l7 c7 k7
  have b7 := F7.binds (ps := ["one", "other"]) fun _ _ _ _ _ _ us hl => by obtain ⟨a0_, a1_, rfl⟩ := len2 hl; rfl
  have M7 := mg_of X G a7
  have F8 := fun_mk (st := sNumbers) l8 c8 k8
  have b8 := F8.binds (ps := ["thing"]) fun _ _ _ _ _ _ us hl => by obtain ⟨a0_, rfl⟩ := len1 hl; rfl
  have M8 := mg_of X G a8
  have F9 := fun_mk (st := sCell) l9 c9 k9
  have b9 := F9.binds (ps := ["_law_script", "_law_at"]) fun _ _ _ _ _ _ us hl => by obtain ⟨a0_, a1_, rfl⟩ := len2 hl; rfl
  have M9 := mg_of X G a9
  have F10 := fun_mk (st := sTape) l10 c10 k10
  have b10 := F10.binds (ps := ["_law_cell"]) fun _ _ _ _ _ _ us hl => by obtain ⟨a0_, rfl⟩ := len1 hl; rfl
  have M10 := mg_of X G a10
  have F11 := fun_mk (st := sTake) l11 c11 k11
  have b11 := F11.binds (ps := ["_law_tape_here", "_law_many"]) fun _ _ _ _ _ _ us hl => by obtain ⟨a0_, a1_, rfl⟩ := len2 hl; rfl
  have M11 := mg_of X G a11
  have F12 := fun_mk (st := sStart) l12 c12 k12
  have b12 := F12.binds (ps := ["_law_tape_here"]) fun _ _ _ _ _ _ us hl => by obtain ⟨a0_, rfl⟩ := len1 hl; rfl
  have M12 := mg_of X G a12
  have F13 := fun_mk (st := sMake) l13 c13 k13
  have b13 := F13.binds (ps := ["_law_tape_here", "_law_most", "_law_wide"]) fun _ _ _ _ _ _ us hl => by obtain ⟨a0_, a1_, a2_, rfl⟩ := len3 hl; rfl
  have M13 := mg_of X G a13
  have F14 := fun_mk (st := sPlaces) l14 c14 k14
  have b14 := F14.binds (ps := ["_law_work_here"]) fun _ _ _ _ _ _ us hl => by obtain ⟨a0_, rfl⟩ := len1 hl; rfl
  have M14 := mg_of X G a14
  have F15 := fun_mk (st := sStretches) l15 c15 k15
  have b15 := F15.binds (ps := ["_law_places_here"]) fun _ _ _ _ _ _ us hl => by obtain ⟨a0_, rfl⟩ := len1 hl; rfl
  have M15 := mg_of X G a15
  have F16 := fun_mk (st := sLaidW) l16 c16 k16
  have b16 := F16.binds (ps := ["_law_sheet", "_law_place", "_law_numbers"]) fun _ _ _ _ _ _ us hl => by obtain ⟨a0_, a1_, a2_, rfl⟩ := len3 hl; rfl
  have M16 := mg_of X G a16
  have F17 := fun_mk (st := sDue) l17 c17 k17
  have b17 := F17.binds (ps := ["_law_table", "_law_place", "_law_numbers"]) fun _ _ _ _ _ _ us hl => by obtain ⟨a0_, a1_, a2_, rfl⟩ := len3 hl; rfl
  have M17 := mg_of X G a17
  have F18 := fun_mk (st := sStands) l18 c18 k18
  have b18 := F18.binds (ps := ["_law_sheet", "_law_table"]) fun _ _ _ _ _ _ us hl => by obtain ⟨a0_, a1_, rfl⟩ := len2 hl; rfl
  have M18 := mg_of X G a18
  have F19 := fun_mk (st := sLaying) l19 c19 k19
  have b19 := F19.binds (ps := ["_law_tape_here", "_law_work_here"]) fun _ _ _ _ _ _ us hl => by obtain ⟨a0_, a1_, rfl⟩ := len2 hl; rfl
  have M19 := mg_of X G a19
  have F20 := fun_mk (st := sSInit) l20 c20 k20
  have b20 := F20.binds (ps := ["self", "work"]) fun _ _ _ _ _ _ us hl => by obtain ⟨a0_, a1_, rfl⟩ := len2 hl; rfl
  have M20 : Meth K C "__init__" f20 := ⟨a20, i20, k20⟩
  have F21 := fun_mk (st := sSLay) l21 c21 k21
  have b21 := F21.binds (ps := ["self", "place", "numbers"]) fun _ _ _ _ _ _ us hl => by obtain ⟨a0_, a1_, a2_, rfl⟩ := len3 hl; rfl
  have M21 : Meth K C "lay" f21 := ⟨a21, i21, k21⟩
  have F22 := fun_mk (st := sSRes) l22 c22 k22
  have b22 := F22.binds (ps := ["self", "place"]) fun _ _ _ _ _ _ us hl => by obtain ⟨a0_, a1_, rfl⟩ := len2 hl; rfl
  have M22 : Meth K C "result_at" f22 := ⟨a22, i22, k22⟩
  have F23 := fun_mk (st := sSAll) l23 c23 k23
  have b23 := F23.binds (ps := ["self"]) fun _ _ _ _ _ _ us hl => by obtain ⟨a0_, rfl⟩ := len1 hl; rfl
  have M23 : Meth K C "all_results" f23 := ⟨a23, i23, k23⟩
  have F24 := fun_mk (st := sSLeft) l24 c24 k24
  have b24 := F24.binds (ps := ["self"]) fun _ _ _ _ _ _ us hl => by obtain ⟨a0_, rfl⟩ := len1 hl; rfl
  have M24 : Meth K C "left_work" f24 := ⟨a24, i24, k24⟩
  have F25 := fun_mk (st := sSHolds) l25 c25 k25
  have b25 := F25.binds (ps := ["self", "first", "behind"]) fun _ _ _ _ _ _ us hl => by obtain ⟨a0_, a1_, a2_, rfl⟩ := len3 hl; rfl
  have M25 : Meth K C "holds_row" f25 := ⟨a25, i25, k25⟩
  have F26 := fun_mk (st := sSLaid) l26 c26 k26
  have b26 := F26.binds (ps := ["self"]) fun _ _ _ _ _ _ us hl => by obtain ⟨a0_, rfl⟩ := len1 hl; rfl
  have M26 : Meth K C "laid_work" f26 := ⟨a26, i26, k26⟩
  have F27 := fun_mk (st := sSBetween) l27 c27 k27
  have b27 := F27.binds (ps := ["self", "low", "high"]) fun _ _ _ _ _ _ us hl => by obtain ⟨a0_, a1_, a2_, rfl⟩ := len3 hl; rfl
  have M27 : Meth K C "numbers_between" f27 := ⟨a27, i27, k27⟩
  have F28 := fun_mk (st := sLaw) l28 c28 k28
  refine ⟨fnOf "law" "law" (defArgs sLaw) (defBody sLaw) (defScope sLaw) .none kV28 dc28 pm28 an28 cd28 ct28, fun s v => .of_eq rfl, fun base _ _ => ?_⟩
  have G1 : FnOk l.prog w K mg base CX0 1 f1 _ ["thing"] spWhole := ok_whole F1 B
  have G3 : FnOk l.prog w K mg base CX0 3 f3 _ ["thing"] spWork := ok_work F3 B F1 b1 M1 F2 b2 M2
  have G4 : FnOk l.prog w K mg base CX0 4 f4 _ ["work"] spCheck := ok_check F4 G3 k3 b3 M3
  have G5 : FnOk l.prog w K mg base CX0 1 f5 _ ["stretches"] (spMerged K) := ok_merged F5 B
  have G6 : FnOk l.prog w K mg base CX0 5 f6 _ ["work"] spShort := ok_short F6 G4 k4 b4 M4 (G5.mono (by decide)) k5 b5 M5
  have G7 : FnOk l.prog w K mg base CX0 6 f7 _ ["one", "other"] spDiff := diff_of (ok_without F7 B G6 k6 b6 M6)
  have G8 : FnOk l.prog w K mg base CX0 2 f8 _ ["thing"] spNums := ok_numbers F8 B G1 k1 b1 M1
  have G9 : FnOk l.prog w K mg base CX0 1 f9 _ ["_law_script", "_law_at"] (spCell K) := ok_cell F9 B
  have G10 : FnOk l.prog w K mg base CX0 1 f10 _ ["_law_cell"] spTape := ok_tape F10 B
  have G11 : FnOk l.prog w K mg base CX0 1 f11 _ ["_law_tape_here", "_law_many"] spTake := ok_take F11
  have G12 : FnOk l.prog w K mg base CX0 2 f12 _ ["_law_tape_here"] spStart := ok_start F12 G11 k11 b11 M11
  have G13 : FnOk l.prog w K mg base CX0 3 f13 _ ["_law_tape_here", "_law_most", "_law_wide"] (spMake 6 9) := ok_make (by decide) (by decide) (by decide) (by decide) F13 B G11 k11 b11 M11 G12 k12 b12 M12
  have G14 : FnOk l.prog w K mg base CX0 1 f14 _ ["_law_work_here"] spPlaces := ok_places F14 B
  have G15 : FnOk l.prog w K mg base CX0 1 f15 _ ["_law_places_here"] spStr := ok_stretches F15 B
  have G17 : FnOk l.prog w K mg base CX0 2 f17 _ ["_law_table", "_law_place", "_law_numbers"] spDue := ok_due F17 B B1
  have G19 : FnOk l.prog w K mg base CX0 2 f19 _ ["_law_tape_here", "_law_work_here"] spLaying := ok_laying F19 B G11 k11 b11 M11
  have G20 : FnOk l.prog w K mg base CX0 6 f20 _ ["self", "work"] (spInit C) := ok_init F20 T (st_of G6) k6 b6 M6
  have G25 : FnOk l.prog w K mg base CX0 1 f25 _ ["self", "first", "behind"] (spHolds C) := ok_holds F25 B T
  have G26 : FnOk l.prog w K mg base CX0 6 f26 _ ["self"] (spLaid C) := ok_laid F26 B T (st_of G6) k6 b6 M6
  have G24 : FnOk l.prog w K mg base CX0 7 f24 _ ["self"] (spLeft C) := ok_left F24 T G7 k7 b7 M7 G26 b26 M26
  have G23 : FnOk l.prog w K mg base CX0 7 f23 _ ["self"] (spAllX C) := FnOk.ex fun vf => ok_all vf F23 B T G26 b26 M26 (ok_between vf F27 B T) b27 M27
  have G21 : FnOk l.prog w K mg base (CXE l.prog w) 3 f21 _ ["self", "place", "numbers"] (spLayG C CBadPlace CTwice) := ok_layG F21 B T TW TB G1 k1 b1 M1 G8 k8 b8 M8 G25 b25 M25
  have G22 : FnOk l.prog w K mg base CX0 2 f22 _ ["self", "place"] (spRes C) := ok_res F22 T G1 k1 b1 M1
  have G16 : FnOk l.prog w K mg base CX0 4 f16 _ ["_law_sheet", "_law_place", "_law_numbers"] (spLaidW C) := ok_laidW F16 B T R G21 b21 M21
  have G18 : FnOk l.prog w K mg base CX0 8 f18 _ ["_law_sheet", "_law_table"] (spStands C) := ok_stands F18 B T (G15.mono (by decide)) k15 b15 M15 G23 b23 M23 G24 b24 M24 (G22.mono (by decide)) b22 M22
  exact ok_law F28 B B1 T (G9.mono (by decide)) k9 b9 M9 (G10.mono (by decide)) k10 b10 M10 (G13.mono (by decide)) k13 b13 M13 (G14.mono (by decide)) k14 b14 M14 G18 k18 b18 M18 (G19.mono (by decide)) k19 b19 M19 (G16.mono (by decide)) k16 b16 M16 (G17.mono (by decide)) k17 b17 M17 G20 b20 ⟨mk, a20, i20, kc⟩
theorem walk {l : OpenLaw} {q : Program} {loose : List Str} {XP : (Str → Option Value) → Heap → Prop} {YP : World → Heap → Prop} {d : DefRec} {K : Params → Frag} (hn : l.most = some 63) (hdf : d.params.defaults = [])
    (hY : ∀ (w : World) (h : Heap), YP w h → (K w.params).In h)
    (F : ∀ (w : World) (mg : Str → Option Value) (fa : Addr) (h : Heap), (K w.params).In h → h.Ns mainGlobals mg → mg d.name = some (.ref fa) →
      ∃ fd : FuncData, (∀ (s : Shared) (u : Value), BindsTo s fd ⟨[u], []⟩ [("_law_script", u)]) ∧ ∀ base : Heap, (K w.params).In base → base.Ns mainGlobals mg → FnOk l.prog w (K w.params) mg base CX0 9 fa fd ["_law_script"] (spLaw (K w.params))) :
    WalkO q loose XP YP l.row.toRowW d [] (fun f vs => PySem.call f vs) :=
  L2.walk_of (n := 63) (k := 9) (x := "_law_script") (CX := fun _ => CX0) (sp := fun w => spLaw (K w.params)) hn (by decide) hdf ⟨rfl, by decide, by decide⟩ hY F (fun _ _ a ns hl _ hS => ⟨a, ns, rfl, hS, hl, fun _ => rfl⟩) fun _ _ _ _ _ z => z
end Ls
open PySem PySem.W PyProof.Rows
set_option maxRecDepth 100000 in
set_option maxHeartbeats 0 in
theorem PySem.Challenge.cw_lentwork_k11_results_laid_holds : PySem.Challenge.rw_lentwork_k11_results_laid.Holds := by
  w_on; o_law; k_head; (case hw => w_witness2)
  k_fill
  refine Ls.walk (l := PySem.Challenge.rw_lentwork_k11_results_laid) rfl rfl (fun w h Y => PySem.W.kIn_of Y) ?F
  case F =>
    intro w mg fa h KX G hmg
    refine' Ls.all_mk KX G hmg ?aC ?nLentError ?nBadPlace ?nTwice ?a1 ?l1 ?c1 ?k1 ?a2 ?l2 ?c2 ?k2 ?a3 ?l3 ?c3 ?k3 ?a4 ?l4 ?c4 ?k4 ?a5 ?l5 ?c5 ?k5 ?a6 ?l6 ?c6 ?k6 ?a7 ?l7 ?c7 ?k7 ?a8 ?l8 ?c8 ?k8 ?a9 ?l9 ?c9 ?k9 ?a10 ?l10 ?c10 ?k10 ?a11 ?l11 ?c11 ?k11 ?a12 ?l12 ?c12 ?k12 ?a13 ?l13 ?c13 ?k13 ?a14 ?l14 ?c14 ?k14 ?a15 ?l15 ?c15 ?k15 ?a16 ?l16 ?c16 ?k16 ?a17 ?l17 ?c17 ?k17 ?a18 ?l18 ?c18 ?k18 ?a19 ?l19 ?c19 ?k19 ?a20 ?i20 ?l20 ?c20 ?k20 ?a21 ?i21 ?l21 ?c21 ?k21 ?a22 ?i22 ?l22 ?c22 ?k22 ?a23 ?i23 ?l23 ?c23 ?k23 ?a24 ?i24 ?l24 ?c24 ?k24 ?a25 ?i25 ?l25 ?c25 ?k25 ?a26 ?i26 ?l26 ?c26 ?k26 ?a27 ?i27 ?l27 ?c27 ?k27 ?a28 ?l28 ?c28 ?k28 ?z0 ?z1 ?z2 ?z3 ?z4 ?z5 ?z6 ?z7 ?z8 ?z9 ?z10 ?z11 ?z12 ?z13 ?z14 ?z15 ?pg ?hd ?po ?sa ?mk ?kc ?nW ?nR ?xBadPlace ?clBadPlace ?gaBadPlace ?ghBadPlace ?caBadPlace ?moBadPlace ?mbBadPlace ?hitBadPlace ?mBadPlaceTwice ?xTwice ?clTwice ?gaTwice ?ghTwice ?caTwice ?moTwice ?mbTwice ?hitTwice ?mTwiceBadPlace ?cg ?ct
    (case aC => k_is)
    (case nLentError => k_is)
    (case nBadPlace => k_is)
    (case nTwice => k_is)
    (case a1 => k_is)
    (case l1 => k_is)
    (case c1 => k_is)
    (case k1 => k_is)
    (case a2 => k_is)
    (case l2 => k_is)
    (case c2 => k_is)
    (case k2 => k_is)
    (case a3 => k_is)
    (case l3 => k_is)
    (case c3 => k_is)
    (case k3 => k_is)
    (case a4 => k_is)
    (case l4 => k_is)
    (case c4 => k_is)
    (case k4 => k_is)
    (case a5 => k_is)
    (case l5 => k_is)
    (case c5 => k_is)
    (case k5 => k_is)
    (case a6 => k_is)
    (case l6 => k_is)
    (case c6 => k_is)
    (case k6 => k_is)
    (case a7 => k_is)
    (case l7 => k_is)
    (case c7 => k_is)
    (case k7 => k_is)
    (case a8 => k_is)
    (case l8 => k_is)
    (case c8 => k_is)
    (case k8 => k_is)
    (case a9 => k_is)
    (case l9 => k_is)
    (case c9 => k_is)
    (case k9 => k_is)
    (case a10 => k_is)
    (case l10 => k_is)
    (case c10 => k_is)
    (case k10 => k_is)
    (case a11 => k_is)
    (case l11 => k_is)
    (case c11 => k_is)
    (case k11 => k_is)
    (case a12 => k_is)
    (case l12 => k_is)
    (case c12 => k_is)
    (case k12 => k_is)
    (case a13 => k_is)
    (case l13 => k_is)
    (case c13 => k_is)
    (case k13 => k_is)
    (case a14 => k_is)
    (case l14 => k_is)
    (case c14 => k_is)
    (case k14 => k_is)
    (case a15 => k_is)
    (case l15 => k_is)
    (case c15 => k_is)
    (case k15 => k_is)
    (case a16 => k_is)
    (case l16 => k_is)
    (case c16 => k_is)
    (case k16 => k_is)
    (case a17 => k_is)
    (case l17 => k_is)
    (case c17 => k_is)
    (case k17 => k_is)
    (case a18 => k_is)
    (case l18 => k_is)
    (case c18 => k_is)
    (case k18 => k_is)
    (case a19 => k_is)
    (case l19 => k_is)
    (case c19 => k_is)
    (case k19 => k_is)
    (case a20 => k_is)
    (case i20 => k_is)
    (case l20 => k_is)
    (case c20 => k_is)
    (case k20 => k_is)
    (case a21 => k_is)
    (case i21 => k_is)
    (case l21 => k_is)
    (case c21 => k_is)
    (case k21 => k_is)
    (case a22 => k_is)
    (case i22 => k_is)
    (case l22 => k_is)
    (case c22 => k_is)
    (case k22 => k_is)
    (case a23 => k_is)
    (case i23 => k_is)
    (case l23 => k_is)
    (case c23 => k_is)
    (case k23 => k_is)
    (case a24 => k_is)
    (case i24 => k_is)
    (case l24 => k_is)
    (case c24 => k_is)
    (case k24 => k_is)
    (case a25 => k_is)
    (case i25 => k_is)
    (case l25 => k_is)
    (case c25 => k_is)
    (case k25 => k_is)
    (case a26 => k_is)
    (case i26 => k_is)
    (case l26 => k_is)
    (case c26 => k_is)
    (case k26 => k_is)
    (case a27 => k_is)
    (case i27 => k_is)
    (case l27 => k_is)
    (case c27 => k_is)
    (case k27 => k_is)
    (case a28 => k_is)
    (case l28 => k_is)
    (case c28 => k_is)
    (case k28 => k_is)
    (case z0 => k_is)
    (case z1 => k_is)
    (case z2 => k_is)
    (case z3 => k_is)
    (case z4 => k_is)
    (case z5 => k_is)
    (case z6 => k_is)
    (case z7 => k_is)
    (case z8 => k_is)
    (case z9 => k_is)
    (case z10 => k_is)
    (case z11 => k_is)
    (case z12 => k_is)
    (case z13 => k_is)
    (case z14 => k_is)
    (case z15 => k_is)
    (case pg => k_is)
    (case hd => k_is)
    (case po => k_is)
    (case sa => k_is)
    (case mk => k_is)
    (case kc => k_is)
    (case nW => k_is)
    (case nR => k_is)
    (case xBadPlace => k_exc)
    (case clBadPlace => kernel_rfl)
    (case gaBadPlace => k_is)
    (case ghBadPlace => k_is)
    (case caBadPlace => k_is)
    (case moBadPlace => k_is)
    (case mbBadPlace => k_is)
    (case hitBadPlace => kernel_rfl)
    (case mBadPlaceTwice => kernel_rfl)
    (case xTwice => k_exc)
    (case clTwice => kernel_rfl)
    (case gaTwice => k_is)
    (case ghTwice => k_is)
    (case caTwice => k_is)
    (case moTwice => k_is)
    (case mbTwice => k_is)
    (case hitTwice => kernel_rfl)
    (case mTwiceBadPlace => kernel_rfl)
    (case cg => k_is)
    (case ct => k_is)

