import PyProof.Rows.All
import Wide.All
import OpenK.AllK
import Wide.FinOn
import Lean
import PyProof.EqAt
import PyProof.EqKinds
import PyProof.TupleCall
import PySem.Challenge.RW_lentwork_k58_whole_runs_lines_done_again
set_option Elab.async false
set_option linter.all false
set_option maxRecDepth 100000
set_option compiler.extract_closed false
set_option autoImplicit true
open Lean Parser Tactic in
local macro_rules(kind:=«term{_}»)|s=>return s.setKind ``Term.anonymousCtor
open Lean Parser Tactic in
local macro_rules(kind:=Lean.Parser.Tactic.tacticLet__)
|s=>do
 let p:=s[2][0]
 let f s:=mkNode ``rcasesPatLo #[mkNode ``rcasesPatMed #[mkNullNode #[s]],mkNullNode]
 if p[0].isOfKind ``Term.tuple then
  let q<-p[0].rewriteBottomUpM fun s=>return if s.isIdent then f (mkNode ``rcasesPat.one #[s]) else if s.isOfKind ``Term.hole then f (mkNode ``rcasesPat.ignore s.getArgs) else if s.isOfKind ``Term.tuple then f (mkNode ``rcasesPat.tuple #[mkAtom "",mkNullNode (#[s[1][0],s[1][1]]++s[1][2].getArgs),mkAtom ""]) else s
  return mkNode ``obtain #[mkAtom "",mkNullNode #[q[0]],mkNullNode,mkNullNode #[p[3],mkNullNode #[p[4]]]]
 else return s.setKind ``tacticHave__
local macro_rules|`(∎)=>`(by omega)
local macro_rules|`(⋯)=>`(by decide +kernel)
theorem ρ {α:Sort u} {a:α}:a=a:=rfl
set_option maxHeartbeats 4000000
section
open PySem PySem.Spec PyProof.Rows PySem.W
abbrev c6:=@wpAny_bind
abbrev c7:=@List.getElem?_eq_getElem
abbrev c8:=@List.getElem?_eq_some_iff
abbrev c9:=@Nat.le_refl
abbrev d0:=@List.mem_cons_of_mem
abbrev f6:=@Heap.get?_push_of_some
abbrev g7:=@List.length_map
abbrev g8:=@List.mem_cons
abbrev g9:=@wpAny_pure
abbrev i0:=@List.mem_cons_self
abbrev i3:=@wpS_bind
abbrev i4:=@Heap.lt_size
abbrev i5:=@Nat.zero_le
abbrev i6:=@List.mem_of_getElem?
abbrev i7:=@List.length_append
abbrev i8:=@List.getElem?_map
abbrev i9:=@Heap.get?_push_size
abbrev j0:=@Int.le_refl
abbrev j1:=@List.mem_append
abbrev j3:=@List.mem_append_right
abbrev j5:=@Or.inl
abbrev j6:=@List.size_toArray
abbrev j7:=@wpS_pure
abbrev j8:=@Nat.ne_of_lt
abbrev j9:=@List.length_cons
abbrev k7:=@Nat.lt_of_lt_of_le
abbrev l0:=@List.length_take
abbrev l6:=@List.mem_singleton
abbrev l7:=@Nat.le_trans
abbrev l9:=@Array.length_toList
abbrev m9:=@Array.toList_append
abbrev n6:=@List.map_append
abbrev p7:=@List.getElem?_drop
abbrev p8:=@List.take_of_length_le
abbrev p9:=@List.append_assoc
abbrev q8:=@Bool.false_ne_true
abbrev r6:=@List.map_cons
abbrev r9:=@Array.getElem?_eq_getElem
abbrev t4:=@List.pairwise_iff_getElem
abbrev t7:=@List.mem_filter
abbrev v4:=@PassesOwn.never
abbrev v5:=@List.getElem?_take_of_lt
abbrev v6:=@wpAny_mono
abbrev v7:=@Int.le_of_lt
abbrev v8:=@Int.le_trans
abbrev v9:=@List.pairwise_cons
abbrev w5:=@List.getElem?_append_left
abbrev w8:=@List.mem_map
abbrev w9:=@wpAny_holding
abbrev x0:=@Bool.false_eq_true
abbrev x6:=@Nat.lt_irrefl
abbrev x8:=@Int.emod_lt_of_pos
abbrev x9:=@List.append_nil
abbrev y0:=@Nat.min_eq_left
abbrev y4:=@Int.emod_nonneg
abbrev y6:=@List.getElem_of_mem
abbrev y7:=@List.getElem?_append_right
abbrev y9:=@List.getD_eq_getElem?_getD
abbrev z8:=@List.length_range
abbrev z9:=@List.take_append_drop
abbrev A0:=@List.getElem?_eq_none
abbrev A1:=@List.mem_iff_getElem?
abbrev A2:=@wpAny_field
abbrev A3:=@List.take_add_one
abbrev A4:=@List.mem_append_left
abbrev A5:=@List.mem_of_mem_take
abbrev A6:=@List.drop_eq_getElem_cons
abbrev A7:=@List.getElem?_zip_eq_some
abbrev A8:=@wpAny_truthy_bool
abbrev A9:=@List.length_replicate
abbrev B0:=@List.map_map
abbrev B1:=@wpAny_callSpecial?_slot
abbrev B4:=@Bool.and_eq_true
abbrev B5:=@Nat.le_of_lt
abbrev B7:=@wpAny_of_eq
abbrev B8:=@wpAny_newObj_type
abbrev B9:=@Heap.SameBut.update
abbrev C0:=@List.nodup_cons
abbrev C1:=@wpAny_ite_false
abbrev C2:=@wpAny_Call_Name_kw
abbrev C3:=@List.length_drop
abbrev C4:=@List.pairwise_append
abbrev C5:=@List.length_zip
abbrev C6:=@Heap.get?_update_other
abbrev C7:=@List.mem_range
abbrev C8:=@List.drop_drop
abbrev C9:=@List.mem_or_eq_of_mem_set
abbrev D0:=@PyProof.Rows.slot_tuple_getitem
abbrev D3:=@List.getElem?_set_ne
abbrev D4:=@Nat.le_of_eq
abbrev D5:=@codeAny_mono
abbrev D6:=@codeAny_builtin
abbrev D7:=@wpS_forRange
abbrev D8:=@List.mem_of_mem_drop
abbrev D9:=@Nat.not_lt_zero
abbrev E1:=@Or.inr
abbrev E2:=@Ne.symm
abbrev E3:=@Heap.size_push
abbrev E4:=@wpAny_call_entry
abbrev E5:=@List.getElem?_set_self
abbrev E6:=@True.intro
abbrev E7:=@List.drop_of_length_le
abbrev E8:=@wpAny_passesOwn
abbrev E9:=@Bool.eq_iff_iff
abbrev F0:=@List.length_singleton
abbrev F1:=@wpAny_rule
abbrev F2:=@List.extract_eq_take_drop
abbrev F3:=@Array.toList_reverse
abbrev F4:=@Around.under_plainId
abbrev F6:=@Nat.le_succ
abbrev F7:=@List.all_eq_true
abbrev F8:=@List.filter_cons
abbrev F9:=@Int.eq_ofNat_of_zero_le
abbrev G4:=@List.mem_filterMap
abbrev G5:=@List.of_mem_zip
abbrev G6:=@List.find?_cons
abbrev G7:=@wpAny_setField_rec
abbrev G8:=@Nat.eq_or_lt_of_le
abbrev G9:=@List.Pairwise.nil
abbrev J0:=@Bool.not_eq_true'
abbrev J3:=@Bool.eq_false_iff
abbrev J4:=@Nat.add_sub_of_le
abbrev J5:=@Nat.lt_trichotomy
abbrev J6:=@Nat.ne_of_gt
abbrev J7:=@Heap.get?_update_self
abbrev J8:=@F.slot_enumerate_next
abbrev J9:=@wpS_get
abbrev K0:=@List.drop_zero
abbrev K1:=@wpAny_tryCatch
abbrev K2:=@List.length_filter_le
abbrev K3:=@Bool.and_false
abbrev K4:=@PyProof.Rows.callWith_type1
abbrev K5:=@Nat.lt_succ_self
abbrev K6:=@wpAny_call
abbrev K7:=@codeAny_call_builtin
abbrev K8:=@wpS_mono
abbrev K9:=@Array.toList_extract
abbrev L0:=@List.countP_cons
abbrev L1:=@Array.getElem?_eq_some_iff
abbrev L3:=@wpAny_attempt
abbrev L4:=@Array.perm_iff_toList_perm
abbrev L5:=@List.filterMap_cons
abbrev L6:=@List.reverse_append
abbrev L7:=@wpAny_execs_nil
abbrev L8:=@List.length_set
abbrev L9:=@PyProof.Rows.evalArgs_kw2
abbrev M0:=@Array.size_push
abbrev M2:=@List.getElem?_eq_none_iff
abbrev M3:=@Option.isSome_iff_exists
abbrev M4:=@List.zip_cons_cons
abbrev M5:=@Obj.data_mapFields
abbrev M6:=@List.filter_append
abbrev M7:=@wpAny_setField
abbrev M8:=@wpAny_seqItems
abbrev M9:=@Int.not_lt
abbrev N0:=@wpS_modify
abbrev N1:=@List.take_take
abbrev N2:=@F.plain_set_update_loop
abbrev N3:=@Option.some.injEq
abbrev N4:=@wpAny_pyIter_list
abbrev N5:=@List.take_sublist
abbrev N6:=@Int.toNat_natCast
abbrev N7:=@Array.toList_push
abbrev N8:=@Array.size_append
abbrev N9:=@PassesOwn.leaving
abbrev O0:=@List.nodup_append
abbrev O1:=@Calls.callWith_builtin
abbrev O2:=@wpAny_letGo
abbrev O3:=@List.drop_eq_nil_of_le
abbrev O4:=@wpAny_standAt
abbrev O5:=@List.any_cons
abbrev O6:=@Nat.le_add_right
abbrev O7:=@Nat.succ_le_succ
abbrev O8:=@List.map_snd_zip
abbrev O9:=@List.not_mem_nil
abbrev P0:=@Obj.isFreed_of_fields
abbrev P1:=@Array.getElem?_toList
abbrev P2:=@wpAny_loadPart'
abbrev P3:=@List.length_nil
abbrev P4:=@List.map_nil
abbrev P5:=@Calls.evalArgs_plain
abbrev P6:=@Nat.zero_add
abbrev P7:=@Array.Perm.refl
abbrev P8:=@List.replicate_succ'
abbrev P9:=@wpAny_ite_true
abbrev Q0:=@wpAny_newTuple
abbrev Q1:=@wpS_lift
abbrev Q2:=@wpAny_pyIter_tuple
abbrev Q3:=@Nat.lt_of_le_of_lt
abbrev Q4:=@Code.quiet_builtin
abbrev Q5:=@List.take_nil
abbrev Q6:=@List.take_add
abbrev Q7:=@wpAny_newList
end
namespace L2
open PySem PySem.Spec PyProof.Rows
abbrev bZ:=Sum Int Str
def sH:bZ->Value->Bool
 | .inl k,v=>Value.isInt k v
 | .inr x,v=>Value.isStrOf x v
def JA (w:World):bZ->Int
 | .inl k=>hashInt k
 | .inr x=>hashStr w x
theorem dA:∀{k:bZ} {v:Value},sH k v=true->(∃i t,k=Sum.inl i/\v=Value.int i t)\/(∃x t,k=Sum.inr x/\v=Value.str x t)
 | .inl i,v,h=>by
  let (t,e):=Value.isInt_shape (k:=i) (v:=v) h
  exact .inl {(i),t,rfl,e}
 | .inr x,v,h=>by
  let (t,e):=Value.isStrOf_shape (x:=x) (v:=v) h
  exact .inr {(x),t,rfl,e}
def Fx (i:Int) (t:Tok):sH (.inl i) (.int i t)=true:=by simp [sH,Value.isInt]
def Fw (x:Str) (t:Tok):sH (.inr x) (.str x t)=true:=by simp [sH,Value.isStrOf]
def AR (a b:Int):decide ((Sum.inl a:bZ)=Sum.inl b)=(a == b):=by
 by_cases e:a=b
 ·subst e;simp
 ·let h:¬ (Sum.inl a:bZ)=Sum.inl b:=λq=>e (Sum.inl.inj q);rw [decide_eq_false h];exact(beq_eq_false_iff_ne.mpr e).symm
def AN (a b:Str):decide ((Sum.inr a:bZ)=Sum.inr b)=decide (a=b):=by
 by_cases e:a=b
 ·subst e;simp
 ·let h:¬ (Sum.inr a:bZ)=Sum.inr b:=λq=>e (Sum.inr.inj q);rw [decide_eq_false h,decide_eq_false e]
def AQ (a:Int) (b:Str):decide ((Sum.inl a:bZ)=Sum.inr b)=false:=decide_eq_false (λq=>nomatch q)
def AO (a:Str) (b:Int):decide ((Sum.inr a:bZ)=Sum.inl b)=false:=decide_eq_false (λq=>nomatch q)
def cK (prog:Program) (w:World):PySem.KeyKind prog w bZ where
 is:=sH
 hash:=JA w
 inj:=λv a b ha hb=>by
  rcases dA ha with ⟨i,t,rfl,rfl⟩|⟨x,t,rfl,rfl⟩
  ·rcases dA hb with ⟨j,u,rfl,e⟩|⟨y,u,rfl,e⟩
   ·injection e with e1 _;rw [e1]
   ·exact nomatch e
  ·rcases dA hb with ⟨j,u,rfl,e⟩|⟨y,u,rfl,e⟩
   ·exact nomatch e
   ·injection e with e1 _;rw [e1]
 byValue:=λk v h=>by
  rcases dA h with ⟨i,t,rfl,rfl⟩|⟨x,t,rfl,rfl⟩ <;> rfl
 pyHash:=λhv h=>by
  rcases dA hv with ⟨i,t,rfl,rfl⟩|⟨x,t,rfl,rfl⟩
  ·exact wpAny_pyHash_int h
  ·exact wpAny_pyHash_str h
 eqBool:=λhu hv h=>by
  rcases dA hu with ⟨i,t,rfl,rfl⟩|⟨x,t,rfl,rfl⟩
  ·rcases dA hv with ⟨j,u,rfl,rfl⟩|⟨y,u,rfl,rfl⟩
   ·rw [AR] at h;exact wpAny_eqBool_int h
   ·rw [AQ] at h;exact SeqAt.EqAt.int_str i t y u _ _ _ _ h
  ·rcases dA hv with ⟨j,u,rfl,rfl⟩|⟨y,u,rfl,rfl⟩
   ·rw [AO] at h;exact SeqAt.EqAt.str_int x t j u _ _ _ _ h
   ·rw [AN] at h;exact wpAny_eqBool_str h
 «strs»:=λk x t v h=>by
  rcases dA h with ⟨i,u,rfl,e⟩|⟨y,u,rfl,e⟩
  ·exact nomatch e
  ·injection e with e1 _
   subst e1
   cases v <;> rfl
def wZ (prog:Program) (w:World) (i:Int) (t:Tok):(cK prog w).is (.inl i) (.int i t)=true:=Fx i t
def wY (prog:Program) (w:World) (x:Str) (t:Tok):(cK prog w).is (.inr x) (.str x t)=true:=Fw x t
inductive V where
 | non|bl (b:Bool)|int (i:Int)|str (x:Str)|byt (b:Array UInt8)|flt (b:UInt64)|ref (a:Addr)|ty (n:String)
 deriving DecidableEq
def bJ:V->Value->Prop
 | .non,u=>u=Value.none
 | .bl b,u=>u=Value.bool b
 | .int i,u=>∃t,u=Value.int i t
 | .str x,u=>∃t,u=Value.str x t
 | .byt b,u=>∃t,u=Value.bytes b t
 | .flt b,u=>∃t,u=Value.float b t
 | .ref a,u=>u=Value.ref a
 | .ty n,u=>u=Value.type n
abbrev bG:List V->List Value->Prop:=Paired bJ
theorem bG.length {xs:List V} {us:List Value} (r:bG xs us):xs.length=us.length:=Paired.length r
def aQ {α β:Type} {F:α->β->Prop} {xs:List α} {ys:List β} {i:Nat} {x:α} (p:Paired F xs ys) (e:xs[i]?=some x):∃y,ys[i]?=some y/\F x y:=by
 induction p generalizing i with
 | nil=>cases e
 | cons r t ih=>
  cases i with
  | zero=>cases e;exact {_,rfl,r}
  | succ i=>exact ih (i:=i) e
def bG.get {xs:List V} {us:List Value} {i:Nat} {x:V} (p:bG xs us) (e:xs[i]?=some x):∃u,us[i]?=some u/\bJ x u:=aQ p e
theorem bG.set {x:V} {u:Value} (r:bJ x u) {xs:List V} {us:List Value} (i:Nat) (p:bG xs us):bG (xs.set i x) (us.set i u):=by
 induction p generalizing i with
 | nil=>exact .nil
 | cons q t ih=>
  cases i with
  | zero=>exact .cons r t
  | succ i=>exact .cons q (ih i)
def bG.append {xs ys:List V} {us d:List Value} (p:bG xs us) (s:bG ys d):bG (xs++ys) (us++d):=by
 induction p with
 | nil=>exact s
 | cons r _ t=>exact .cons r t
theorem bG.take {xs:List V} {us:List Value} (n:Nat) (p:bG xs us):bG (xs.take n) (us.take n):=by
 induction p generalizing n with
 | nil=>rw [Q5,Q5];exact .nil
 | cons q t ih=>
  cases n with
  | zero=>exact .nil
  | succ n=>exact .cons q (ih n)
theorem bG.drop {xs:List V} {us:List Value} (n:Nat) (p:bG xs us):bG (xs.drop n) (us.drop n):=by
 induction p generalizing n with
 | nil=>rw [List.drop_nil,List.drop_nil];exact .nil
 | cons q t ih=>
  cases n with
  | zero=>exact .cons q t
  | succ n=>exact ih n
def iM:Option V->Option Value->Prop
 | some v,some u=>bJ v u
 | none,none=>True
 | _,_=>False
def KV {κ:Type}:List (κ × V)->List (κ × Value)->Prop:=Paired λ(p:κ × V) (q:κ × Value)=>p.1=q.1/\bJ p.2 q.2
def kV:bZ->V
 | .inl i=>.int i
 | .inr x=>.str x
inductive HO where
 | lst (xs:List V)
 | tup (xs:List V)
 | dK (kvs:List (bZ × V))|dT (kvs:List (List bZ × V))
 | set (S:Int->Bool) (n:Nat)
 | ins (C dx:Addr) (fs:List (Str × V))
 | own (x:Addr)
 | xd (fs:List (Str × V))
 | met (f x:Addr)
 | rng (lo hi:Int)
 | frz (o:Obj) (u:HO)
 | tbl (ps:Array Value)
 | ext (φ:Heap->Prop)
abbrev Hp:=Addr->Option HO
def aR (H:Hp) (a:Addr) (o:HO):Hp:=λb=>if b=a then some o else H b
def aB {H:Hp} {a:Addr} {o:HO}:aR H a o a=some o:=by unfold aR;rw [if_pos rfl]
def aC {H:Hp} {a b:Addr} {o:HO} (h:b≠a):aR H a o b=H b:=by unfold aR;rw [if_neg h]
def bS {H:Hp} {a:Addr} {o u:HO}:aR (aR H a o) a u=aR H a u:=by
 funext b;unfold aR;split <;> rfl
def aL {H:Hp} {a b:Addr} {o u:HO} (h:H a=some o) (h':H b=some u) (d:o≠u):a≠b:=by
 intro e;subst e;rw [h] at h';exact d (Option.some.inj h')
def aD {H:Hp} {a b:Addr} {o:HO} (h:H a=some o) (h':H b=none):a≠b:=by
 intro e;subst e;rw [h] at h';cases h'
section
variable (P:Program) (w:World)
def bL (H:Hp) (h:Heap) (a:Addr):HO->Prop
 | .lst xs=>xs.length<=sizeLine/\∃(its:List Value) (n:Nat),bG xs its/\h.get? a=some { cls:=.type "list",data:=.seq its.toArray n }
 | .tup xs=>xs.length<=sizeLine/\∃its:List Value,bG xs its/\IsTup h a its.toArray
 | .dK kvs=>kvs.length<=sizeLine/\(a == sysModules)=false/\∃vs,KV kvs vs/\h.DictOf (cK P w) a vs
 | .dT kvs=>kvs.length<=sizeLine/\(a == sysModules)=false/\∃xs:List (List bZ × Addr × Value),
   Paired (λ(p:List bZ × V) (q:List bZ × Addr × Value)=>p.1=q.1/\H q.2.1=some (.tup (p.1.map kV))/\bJ p.2 q.2.2) kvs xs /\
   ∃o es ep,h.get? a=some o/\o.ExactDict/\o.data=.dict es ep/\es.toList=xs.map (entryOfKey (tupleKind (cK P w)))/\(xs.map (·.1)).Nodup
 | .set S n=>h.SetOf (intKind P w) a S n
 | .ins C dx fs=>H dx=some (.own a)/\fs.length<=1000/\dx≠a/\h.get? a=some (PySem.W.instObj C dx) /\
   ∃mA,h.Ns1 dx mA/\(∀f,iM (fs.lookup f) (mA f))/\PySem.Within mA (fs.map (·.1))
 | .own _=>∃o,h.get? a=some o
 | .xd fs=>∃mA,h.Ns1 a mA/\∀f,iM (fs.lookup f) (mA f)
 | .rng lo hi=>∃t u v,h.get? a=some { cls:=.type "range",data:=.fields #[.int lo t,.int hi u,.int 1 v] }
 | .frz o u=>h.get? a=some o/\bL H h a u
 | .tbl ps=>h.get? a=some { cls:=.none,data:=.fields ps }
 | .met f x=>h.get? a=some (PySem.W.methodObj (.ref f) (.ref x))
 | .ext φ=>φ h/\(∃o,h.get? a=some o)/\∀h1 h2:Heap,φ h1->(∀o,h1.get? a=some o->h2.get? a=some o)->φ h2
def kH (H:Hp) (h:Heap):Prop:=∀a o,H a=some o->bL P w H h a o
end
section
variable {P:Program} {w:World} {H H':Hp} {h h':Heap} {a:Addr} {o:HO}
theorem bL.lt (x:bL P w H h a o):a<h.objs.size:=by
 cases o with
 | lst xs=>let (_,_,_,_,e):=x;exact i4 e
 | tup xs=>let (_,_,_,p):=x;exact p.lt
 | dK kvs=>let (_,_,_,_,o,_,_,e,_):=x;exact i4 e
 | dT kvs=>let (_,_,_,_,o,_,_,e,_):=x;exact i4 e
 | set S n=>let (o,_,_,_,e,_):=x;exact i4 e
 | ins C dx fs=>let (_,_,_,e,_):=x;exact i4 e
 | own y=>let (_,e):=x;exact i4 e
 | xd fs=>let (_,(_,_,_,e,_),_):=x;exact i4 e
 | rng lo hi=>let (_,_,_,e):=x;exact i4 e
 | frz ob u=>let (e,_):=x;exact i4 e
 | tbl ps=>exact i4 (show h.get? a=some _ from x)
 | met f y=>exact i4 (show h.get? a=some _ from x)
 | ext φ=>let (_,(_,e),_):=x;exact i4 e
def Paired.mapP {α β:Type} {F G:α->β->Prop} {l₁:List α} {d:List β} (p:Paired F l₁ d) (f:∀a b,F a b->G a b):Paired G l₁ d:=PySem.Paired.mono f p
def bL.stay (x:bL P w H h a o) (k:∀b u,(b=a\/H b=some (.own a))->h.get? b=some u->h'.get? b=some u)
  (I:∀b,H b=some (.own a)->H' b=some (.own a)) (L:∀b xs,H b=some (.tup xs)->H' b=some (.tup xs)):bL P w H' h' a o:=by
 induction o with
 | lst xs=>let (z,B,n,r,e):=x;exact {z,B,n,r,k _ _ (.inl rfl) e}
 | tup xs=>let (z,B,r,i,e,c):=x;exact {z,B,r,i,k _ _ (.inl rfl) e,c}
 | dK kvs=>let (z,y,G,r,i,es,j,e,c):=x;exact {z,y,G,r,i,es,j,k _ _ (.inl rfl) e,c}
 | dT kvs=>
  let (z,y,xs,r,i,es,j,e,c):=x;exact {z,y,xs,Paired.mapP r λp q z=>{z.1,L _ _ z.2.1,z.2.2},i,es,j,k _ _ (.inl rfl) e,c}
 | set S n=>let (i,es,j,t,e,c):=x;exact {i,es,j,t,k _ _ (.inl rfl) e,c}
 | ins C dx fs=>
  let (d,z,J,e,mA,(D,es,j,F,c),r):=x;exact {I _ d,z,J,k _ _ (.inl rfl) e,mA,{D,es,j,k _ _ (.inr d) F,c},r}
 | own y=>let (i,e):=x;exact {i,k _ _ (.inl rfl) e}
 | xd fs=>let (mA,(D,es,j,e,c),r):=x;exact {mA,{D,es,j,k _ _ (.inl rfl) e,c},r}
 | rng lo hi=>let (t,u,v,e):=x;exact {t,u,v,k _ _ (.inl rfl) e}
 | frz i u ih=>let (e,q):=x;exact {k _ _ (.inl rfl) e,ih q}
 | tbl ps=>
  let e:h.get? a=some { cls:=.none,data:=.fields ps }:=x;show h'.get? a=some { cls:=.none,data:=.fields ps };exact k a _ (.inl rfl) e
 | met f y=>
  let e:h.get? a=some (PySem.W.methodObj (.ref f) (.ref y)):=x;show h'.get? a=some (PySem.W.methodObj (.ref f) (.ref y));exact k a _ (.inl rfl) e
 | ext φ=>let (p,(o,e),st):=x;exact {st _ _ p λo q=>k _ _ (.inl rfl) q,{o,k _ _ (.inl rfl) e},st}
theorem kH.lt (x:kH P w H h) (e:H a=some o):a<h.objs.size:=(x a o e).lt
def kH.fresh (x:kH P w H h) (e:h.objs.size<=a):H a=none:=by
 cases q:H a with
 | none=>rfl
 | some u=>exact absurd (k7 (x.lt q) e) (x6 _)
def kH.kept (x:kH P w H h) (k:∀b u,h.get? b=some u->h'.get? b=some u):kH P w H h':=λa o e=>
 (x a o e).stay (λb u _ q=>k b u q) (λ_ q=>q) λ_ _ q=>q
def kH.laid (x:kH P w H h) (k:∀b u,h.get? b=some u->h'.get? b=some u) (n:h.objs.size<=a) (d:bL P w (aR H a o) h' a o):kH P w (aR H a o) h':=λb u e=>by
 have j:=x.fresh n
 by_cases i:b=a
 ·subst i;rw [aB] at e;cases e;exact d
 ·rw [aC i] at e
  exact(x b u e).stay (λc v _ q=>k c v q) (λc q=>by rw [aC (aD q j)];exact q) λc xs q=>by rw [aC (aD q j)];exact q
end
def Rd (H:Hp) (a:Addr) (u:HO):Prop:=H a=some u\/∃o,H a=some (.frz o u)
def Rd.ok {P:Program} {w:World} {H:Hp} {h:Heap} {a:Addr} {u:HO} (r:Rd H a u) (x:kH P w H h):bL P w H h a u:=by
 rcases r with r|⟨o,r⟩
 ·exact x a u r
 ·let (_,q):=x a _ r;exact q
def GW:Option HO->Prop
 | some (.lst _)=>True
 | some (.dK _)=>True
 | some (.dT _)=>True
 | some (.set _ _)=>True
 | some (.ins _ _ _)=>True
 | some (.ext _)=>True
 | _=>False
section
variable {P:Program} {w:World} {H:Hp} {h h':Heap} {x e:Addr} {o':HO}
def kH.write (J:kH P w H h) (n:GW (H x)) (G:e=x\/H e=some (.own x)) (k:∀b u,b≠e->h.get? b=some u->h'.get? b=some u) (F:∃u,h'.get? e=some u)
  (D:bL P w (aR H x o') h' x o'):kH P w (aR H x o') h':=λb u q=>by
 let i:∀c y,H c=some (.own y)->c≠x:=λc y r z=>by subst z;rw [r] at n;exact n
 let j:∀c xs,H c=some (.tup xs)->c≠x:=λc xs r z=>by subst z;rw [r] at n;exact n
 by_cases B:b=x
 ·subst B;rw [aB] at q;cases q;exact D
 ·rw [aC B] at q
  by_cases d:b=e
  ·let I:H b=some (.own x):=by
    rcases G with z|z
    ·exact absurd (d.trans z) B
    ·rw [d];exact z
   rw [q] at I;cases I;let (v,L):=F;exact {v,by rw [d];exact L}
  ·refine(J b u q).stay (λc v hc r=>k c v ?_ r) (λc r=>by rw [aC (i c b r)];exact r) λc xs r=>by rw [aC (j c xs r)];exact r
   rcases hc with rfl|hc
   ·exact d
   ·rintro rfl;rcases G with z|z
    ·exact i c b hc z
    ·rw [hc] at z;cases z;exact B rfl
end
structure Un (fs ex:List Addr) (H H':Hp) (h h':Heap):Prop where
 keep:∀b o,h.get? b=some o->H b=none->b ∉ fs->b ∉ ex->h'.get? b=some o
 slot:∀b o,h.get? b=some o->H b=none->b ∈ fs->b ∉ ex->∃sl,h'.get? b=some { o with slots:=sl }
 free:∀b o,h.get? b=some o->H b=none->b ∉ ex->H' b=none
 there:∀b o,h.get? b=some o->b ∉ ex->∃o',h'.get? b=some o'
 tups:∀b xs,H b=some (.tup xs)->H' b=some (.tup xs)
 frzs:∀b o u,H b=some (.frz o u)->H' b=some (.frz o u)
 tbls:∀b ps,H b=some (.tbl ps)->∃more,H' b=some (.tbl (ps++more))
section
variable {fs fs' ex ex':List Addr} {H H1 H2:Hp} {h h1 h2 h':Heap} {a x e:Addr} {o:HO}
def Un.any (u:Un fs ex H H1 h h1) {b:Addr} {d:Obj} (q:h.get? b=some d) (n:H b=none) (j:b ∉ ex):∃y,h1.get? b=some { d with slots:=y }:=by
 by_cases i:b ∈ fs
 ·exact u.slot b d q n i j
 ·exact {d.slots,u.keep b d q n i j}
def Un.kept (k:∀b u,h.get? b=some u->h'.get? b=some u):Un fs ex H H h h':=
 {λb d q _ _ _=>k b d q,λb d q _ _ _=>{d.slots,k b d q},λ_ _ _ n _=>n,λb d q _=>{d,k b d q},λ_ _ q=>q,λ_ _ _ q=>q,λ_ ps q=>{#[],by rw [q];simp}}
def Un.refl:Un fs ex H H h h:=Un.kept λ_ _ q=>q
def Un.laid (k:∀b u,h.get? b=some u->h'.get? b=some u) (i:h.objs.size<=a) (d:H a=none):Un fs ex H (aR H a o) h h' where
 keep:=λb u q _ _ _=>k b u q
 slot:=λb u q _ _ _=>{u.slots,k b u q}
 free:=λb u q n _=>by rw [aC (j8 (k7 (i4 q) i))];exact n
 there:=λb u q _=>{u,k b u q}
 tups:=λb xs q=>by rw [aC (aD q d)];exact q
 frzs:=λb u xs q=>by rw [aC (aD q d)];exact q
 tbls:=λb ps q=>{#[],by rw [aC (aD q d),q];simp}
def Un.write (i:GW (H x)) (F:e=x\/H e=some (.own x)) (k:∀b u,b≠e->h.get? b=some u->h'.get? b=some u) (y:∃u,h'.get? e=some u):Un fs ex H (aR H x o) h h':=by
 let D:∀b,H b=none->b≠x:=λb n z=>by subst z;rw [n] at i;exact i
 let B:∀b,H b=none->b≠e:=λb n z=>by
  subst z;rcases F with r|r
  ·exact D b n r
  ·rw [n] at r;cases r
 let j:∀b u,H b=some u->¬ GW (some u)->b≠x:=λb u q nm z=>by subst z;rw [q] at i;exact nm i
 refine {λb u q n _ _=>k b u (B b n) q,λb u q n _ _=>{u.slots,k b u (B b n) q},λb u q n _=>by rw [aC (D b n)];exact n,λb u q _=>?_,
  λb xs q=>by rw [aC (j b _ q λz=>z)];exact q,λb u xs q=>by rw [aC (j b _ q λz=>z)];exact q,λb ps q=>{#[],by rw [aC (j b _ q λz=>z),q];simp}};by_cases d:b=e
 ·subst d;exact y
 ·exact {u,k b u d q}
end
def HC (h:Heap) (H:Hp):List Addr:=(List.range h.objs.size).filter λa=>(H a).isSome
def rB (h:Heap) (H:Hp):Heap:=PySem.W.hideAll h (HC h H)
def Gc (h:Heap) (H:Hp):(rB h H).objs.size=h.objs.size:=PySem.W.hideAll_size _ _
def Nq {h:Heap} {H:Hp} {b:Addr} {o:Obj} (e:h.get? b=some o) (n:H b=none):(rB h H).get? b=some o:=
 PySem.W.hideAll_get _ e λd=>by
  have q:(H b).isSome=true:=(t7.mp d).2
  rw [n] at q;simp at q
def Tm {h:Heap} {H:Hp} {b:Addr} {o:Obj} (e:(rB h H).get? b=some o):h.get? b=some o/\H b=none:=by
 let d:h.get? b=some o:=PySem.W.of_hideAll (HC h H) e;refine {d,?_};cases q:H b with
 | none=>rfl
 | some x=>
  let i:b ∈ HC h H:=t7.mpr {C7.mpr (i4 d),by simp [q]};let z:(rB h H).get? b=none:=PySem.W.hideAll_none (HC h H) i;rw [z] at e;cases e
def oF (g h:Heap) (L:Addr):List (Addr × Obj):=(List.range h.objs.size).filterMap λa=>if a=L\/(g.get? a).isSome=true then none else(h.get? a).map λo=>(a,o)
def jB {g h:Heap} {L a:Addr} {o:Obj} (h1:a≠L) (h2:g.get? a=none) (d:h.get? a=some o):(a,o) ∈ oF g h L:=
 G4.mpr {a,C7.mpr (i4 d),by simp [h1,h2,d]}
def pP {g h:Heap} {L:Addr} {p:Addr × Obj} (hp:p ∈ oF g h L):p.1≠L/\g.get? p.1=none/\h.get? p.1=some p.2:=by
 let (b,_,e):=G4.mp hp;split at e
 ·cases e
 ·rename_i hn;cases q:h.get? b with
  | none=>rw [q] at e;simp at e
  | some u=>
   rw [q] at e;simp only [Option.map_some,N3] at e;subst e;refine {λz=>hn (.inl z),?_,q};show g.get? b=none;cases r:g.get? b with
   | none=>rfl
   | some v=>exact(hn (.inr (by simp [r]))).elim
def pR {g h:Heap} {L:Addr}:News g L h (oF g h L):=λp d=>let ⟨a,b,c⟩:=pP d;{(c),a,b}
structure Mod (K:PySem.W.Frag) (mg:Str->Option Value) (base:Heap):Prop where
 kin:K.In base
 glob:base.Ns mainGlobals mg
 blt:∃mb,base.Ns builtinsNs mb/\∀x:Str,x≠"__name__"->mb x=bootBuiltins x
 nolimit:base.NoLimit
structure Cx where
 prog:Program
 w:World
 K:PySem.W.Frag
 mg:Str->Option Value
 base:Heap
 A:Around
 N:List Str
 s₀:Shared
 H₀:Hp
 env:Env
 outer:List Env
 stack:List Env
 ex:List Addr
 fn:Str->Bool
 calm:Bool
 pn:List (Addr × Obj)
 xe:Value->Shared->Prop
def kU (l:List Env):List Addr:=l.filterMap (·.frame)
abbrev Cx.fs (X:Cx):List Addr:=kU X.outer
def Xo (sc:Scope) (x:Str):Prop:=sc.names.lookup x=some .local\/sc.names.lookup x=some .cell\/sc.names.lookup x=some .free
def Ay (sc:Scope) (x:Str):Prop:=sc.names.lookup x=some .local\/sc.names.lookup x=some .cell
def JN (env:Env) (h:Heap) (m:Str->Option Value) (x:Str) (u:Value):Prop:=
 (env.kindOf x=some .local/\m x=some u)\/((env.kindOf x=some .cell\/env.kindOf x=some .free)/\∃c,env.cells.lookup x=some c/\h.IsCell c (some u))
structure Cx.Ok (X:Cx):Prop where
 mod:Mod X.K X.mg X.base
 kind:X.env.scope.kind=.function
 glob:X.env.globals=mainGlobals
 blt:X.env.builtins=builtinsNs
 above:X.s₀.heap.objs.size<=X.env.locals
 inj:∀x y c,X.env.cells.lookup x=some c->X.env.cells.lookup y=some c->x=y
 has:∀x,(X.env.kindOf x=some .cell\/X.env.kindOf x=some .free)->∃c,X.env.cells.lookup x=some c
 cab:∀x c,X.fn x=true->X.env.cells.lookup x=some c->X.s₀.heap.objs.size<=c
 hd:X.calm=true->X.A.handled=none
 frames:X.A.frames=some X.stack
 stk:X.stack=X.outer\/(X.stack=X.env::X.outer/\X.env.frame=some X.env.locals)
 exf:∀b ∈ X.ex,b≠X.env.locals/\∀x c,X.env.cells.lookup x=some c->c≠b
 bs:∀b o,X.base.get? b=some o->X.s₀.heap.get? b=some o/\X.H₀ b=none
 bsz:X.base.objs.size<=X.s₀.heap.objs.size
 noex:∀b o,X.base.get? b=some o->b ∉ X.ex
 exfs:∀b ∈ X.ex,b ∉ X.fs
 funs:X.s₀.heap.FunFrames X.base X.outer
 frf:∀b ∈ X.fs,X.H₀ b=none
structure aO (X:Cx) (pins:List (Addr × Obj)) (σ:List (Option V)) (H:Hp) (s:Shared):Prop where
 ok:X.Ok
 os:s.os=X.s₀.os
 bare:AllBare s.gens
 base:Un X.fs X.ex X.H₀ H X.s₀.heap s.heap
 loc:∃m,s.heap.Ns X.env.locals m/\∀(i:Nat) (x:Str) (v:V),X.N[i]?=some x->σ[i]?=some (some v)->Xo X.env.scope x->∃u,bJ v u/\JN X.env s.heap m x u
 cell:∀x c,X.env.cells.lookup x=some c->∃v,s.heap.IsCell c v
 free:H X.env.locals=none
 freeC:∀x c,X.env.cells.lookup x=some c->H c=none
 pin:∀p ∈ X.pn++pins,s.heap.get? p.1=some p.2/\H p.1=none/\p.1≠X.env.locals/\p.1 ∉ X.fs/\∀v,p.2.data≠.cell v
 hok:kH X.prog X.w H s.heap
 len:σ.length=X.N.length
section
variable {X:Cx} {pins:List (Addr × Obj)} {σ:List (Option V)} {H H':Hp} {s:Shared} {h':Heap}
def Cx.Ok.nofr (i:X.Ok) {b:Addr} {o:Obj} (e:X.base.get? b=some o):b ∉ X.fs:=λd=>by
 have:=(i.funs.mem d).1
 rw [e] at this;cases this
theorem aO.bs (I:aO X pins σ H s):∀b o,X.base.get? b=some o->s.heap.get? b=some o/\H b=none:=λb o e=>
 {I.base.keep b o (I.ok.bs b o e).1 (I.ok.bs b o e).2 (I.ok.nofr e) (I.ok.noex b o e),I.base.free b o (I.ok.bs b o e).1 (I.ok.bs b o e).2 (I.ok.noex b o e)}
def aO.bk (I:aO X pins σ H s):∀b o,X.base.get? b=some o->s.heap.get? b=some o:=λb o e=>(I.bs b o e).1
theorem aO.mod (I:aO X pins σ H s):Mod X.K X.mg X.base:=I.ok.mod
def aO.kIn (I:aO X pins σ H s):X.K.In s.heap:=I.ok.mod.kin.keeps I.bk
def aO.fr (I:aO X pins σ H s):∃m,Fr X.base X.env.locals s.heap m:=
 let ⟨m,hn,_⟩:=I.loc
 {m,hn,I.bk,l7 I.ok.bsz I.ok.above}
theorem aO.lt (I:aO X pins σ H s):X.env.locals<s.heap.objs.size:=let ⟨_,hn,_⟩:=I.loc;hn.lt
def aO.sz (I:aO X pins σ H s):X.s₀.heap.objs.size<=s.heap.objs.size:=l7 I.ok.above (B5 I.lt)
def aO.nofs (I:aO X pins σ H s) {a:Addr} (h:s.heap.objs.size<=a):a ∉ X.fs:=λd=>by
 let (_,o,i,_):=I.ok.funs.mem d
 exact absurd (k7 (i4 i) (l7 I.sz h)) (x6 _)
def aO.cne (I:aO X pins σ H s):∀x c,X.env.cells.lookup x=some c->c≠X.env.locals:=λx c e z=>by
 let (v,o,n,j):=I.cell x c e
 let (m,(o',es,q,d,i,_),_):=I.loc
 rw [z,d] at n;cases n;rw [i] at j;cases j
theorem aO.funs (I:aO X pins σ H s):s.heap.FunFrames X.base X.outer:=by
 let j:∀(l:List Env),(∀b ∈ kU l,b ∈ X.fs)->X.s₀.heap.FunFrames X.base l->s.heap.FunFrames X.base l:=by
  intro l
  induction l with
  | nil=>intro _ _;trivial
  | cons env r ih=>
   intro q G;let (J,(L,o,d,F,y,B),D):=G;let n:L ∈ X.fs:=q L (by unfold kU;rw [L5,d];exact i0);let (M,e):=I.base.slot L o y (I.ok.frf L n) n λz=>I.ok.exfs L z n;exact {J,{L,_,d,F,e,B},ih (λb i=>q b (by unfold kU;rw [L5,d];exact d0 _ i)) D}
 exact j X.outer (λ_ i=>i) I.ok.funs
theorem aO.stack (I:aO X pins σ H s):s.heap.FunFrames X.base X.stack:=by
 rcases I.ok.stk with e|⟨e,i⟩
 ·rw [e];exact I.funs
 ·rw [e];let (m,d,_):=I.loc;refine .cons (by rw [I.ok.kind];decide) i d ?_ I.funs;exact Heap.get?_none_of_le (l7 I.ok.bsz I.ok.above)
def aO.stkSub (I:aO X pins σ H s):∀b ∈ kU X.stack,b ∈ X.env.locals::X.fs:=λb d=>by
 rcases I.ok.stk with e|⟨e,i⟩
 ·rw [e] at d;exact d0 _ d
 ·rw [e] at d
  unfold kU at d
  rw [L5,i] at d
  exact d
def aO.stkFree (I:aO X pins σ H s):∀b ∈ kU X.stack,H b=none:=λb hb=>by
 rcases g8.mp (I.stkSub b hb) with e|hb
 ·rw [e];exact I.free
 ·let (_,o,d,_):=I.ok.funs.mem hb
  exact I.base.free b o d (I.ok.frf b hb) λz=>I.ok.exfs b z hb
def aO.step {g':Array GenState} {t':Nat} {d':Drawn} {ch:List Addr} (I:aO X pins σ H s)
  (D:∀b ∈ ch,(b ∈ X.ex\/X.s₀.heap.objs.size<=b)/\b≠X.env.locals/\(∀x c,X.env.cells.lookup x=some c->c≠b)/\∀p ∈ X.pn++pins,p.1≠b)
  (F:∀b o,b≠X.env.locals->b ∉ X.fs->b ∉ ch->s.heap.get? b=some o->H b=none->h'.get? b=some o)
  (M:∀b o,b≠X.env.locals->b ∈ X.fs->b ∉ ch->s.heap.get? b=some o->H b=none->∃sl,h'.get? b=some { o with slots:=sl }) (y:∀b o,b ∉ ch->s.heap.get? b=some o->H b=none->H' b=none)
  (N:∀b o,b ∉ ch->s.heap.get? b=some o->∃o',h'.get? b=some o')
  (W:∀b xs,H b=some (.tup xs)->H' b=some (.tup xs)) (Y:∀b o u,H b=some (.frz o u)->H' b=some (.frz o u)) (Z:∀b ps,H b=some (.tbl ps)->∃a0,H' b=some (.tbl (ps++a0)))
  (ns:∀m,s.heap.Ns X.env.locals m->h'.Ns X.env.locals m) (a2:kH X.prog X.w H' h') (hg:AllBare g'):
  aO X pins σ H' { s with heap:=h',gens:=g',drawn:=d',toks:=t' }:=by
 let a1:∀b o,X.s₀.heap.get? b=some o->b≠X.env.locals:=λb o e=>j8 (k7 (i4 e) I.ok.above);let L:∀b o,X.s₀.heap.get? b=some o->b ∉ X.ex->b ∉ ch:=λb o e j O=>by
  rcases (D b O).1 with z|z
  ·exact j z
  ·exact absurd (k7 (i4 e) z) (x6 _)
 let G:∀x c,X.env.cells.lookup x=some c->∀v,s.heap.IsCell c v->h'.IsCell c v:=λx c e v ⟨o,S,hd⟩=>by
  let B:c ∉ ch:=λz=>(D c z).2.2.1 x c e rfl;by_cases hc:c ∈ X.fs
  ·let (sl,q):=M c o (I.cne x c e) hc B S (I.freeC x c e);exact {_,q,hd}
  ·exact {o,F c o (I.cne x c e) hc B S (I.freeC x c e),hd}
 refine {I.ok,I.os,hg,{λb o e n O j=>?_,λb o e n O j=>?_,λb o e n j=>?_,λb o e j=>?_,λb xs e=>W b xs (I.base.tups b xs e),λb o xs e=>Y b o xs (I.base.frzs b o xs e),λb ps e=>?_},?_,λx c e=>?_,?_,λx c e=>?_,λp hp=>?_,a2,I.len}
 ·exact F b o (a1 b o e) O (L b o e j) (I.base.keep b o e n O j) (I.base.free b o e n j)
 ·let (sl,J):=I.base.slot b o e n O j;let (a3,U):=M b _ (a1 b o e) O (L b o e j) J (I.base.free b o e n j);exact {(a3),U}
 ·let (o',J):=I.base.there b o e j;exact y b o' (L b o e j) J (I.base.free b o e n j)
 ·let (o',J):=I.base.there b o e j;exact N b o' (L b o e j) J
 ·let (m1,J):=I.base.tbls b ps e;let (m2,U):=Z b _ J;exact {m1++m2,by rw [U,Array.append_assoc]}
 ·let (m,hn,hl):=I.loc;refine {m,ns m hn,λi x v J U e3=>?_};let (u,r,l):=hl i x v J U e3;refine {u,r,?_};rcases l with l|⟨k,c,e,z⟩
  ·exact .inl l
  ·exact .inr {k,c,e,G x c e _ z}
 ·let (v,z):=I.cell x c e;exact {v,G x c e v z}
 ·let (m,(o,_,_,S,_),_):=I.loc;exact y _ o (λz=>(D _ z).2.1 rfl) S I.free
 ·let (v,o,S,hd):=I.cell x c e;exact y c o (λz=>(D c z).2.2.1 x c e rfl) S (I.freeC x c e)
 ·let (e,n,ne,nf,d):=I.pin p hp;let B:p.1 ∉ ch:=λz=>(D p.1 z).2.2.2 p hp rfl;exact {F p.1 p.2 ne nf B e n,y p.1 p.2 B e n,ne,nf,d}
def aO.un {t':Nat} (I:aO X pins σ H s) (u:Un X.fs [] H H' s.heap h') (j:kH X.prog X.w H' h'):aO X pins σ H' { s with heap:=h',toks:=t' }:=by
 let (m,(o,es,M,B,r),_):=id I.loc;let (J,G):=u.any B I.free (by simp);exact I.step (g':=s.gens) (d':=s.drawn) (ch:=[]) (λ_ z=>nomatch z) (λb o _ q _ e n=>u.keep b o e n q (by simp)) (λb o _ q _ e n=>u.slot b o e n q (by simp)) (λb o _ e n=>u.free b o e n (by simp)) (λb o _ e=>u.there b o e (by simp)) u.tups u.frzs u.tbls (λL D=>by
  let (o',i,y,d,F):=D
  rw [B] at d;cases d
  exact {_,i,y,G,F}) j I.bare
def aO.call {g':Array GenState} {t':Nat} {d':Drawn} {ch:List Addr} (I:aO X pins σ H s) (u:Un (kU X.stack) ch H H' s.heap h') (y:kH X.prog X.w H' h') (M:AllBare g')
  (i:∀b ∈ ch,(b ∈ X.ex\/X.s₀.heap.objs.size<=b)/\b≠X.env.locals/\(∀x c,X.env.cells.lookup x=some c->c≠b)/\∀p ∈ X.pn++pins,p.1≠b):
  aO X pins σ H' { s with heap:=h',gens:=g',drawn:=d',toks:=t' }:=by
 let (m,(o,es,S,F,r),_):=id I.loc;let (N,B):=u.any F I.free λz=>(i _ z).2.1 rfl;exact I.step (ch:=ch) i (λb o B J d e n=>u.keep b o e n (λz=>(g8.mp (I.stkSub b z)).elim B J) d) (λb o _ _ d e n=>u.any e n d) (λb o d e n=>u.free b o e n d) (λb o d e=>u.there b o e d) u.tups u.frzs u.tbls (λO G=>by
  let (o',q,D,j,L):=G
  rw [F] at j;cases j
  exact {_,q,D,B,L}) y M
def aO.turned {t':Nat} {it:Addr} (I:aO X pins σ H s) (k:∀b o,b≠it->s.heap.get? b=some o->h'.get? b=some o) (G:H it=none) (j:it≠X.env.locals)
  (h1:it ∈ X.ex\/X.s₀.heap.objs.size<=it) (h2:∀x c,X.env.cells.lookup x=some c->c≠it) (F:∀p ∈ X.pn++pins,p.1≠it):aO X pins σ H { s with heap:=h',toks:=t' }:=by
 let i:∀b u,H b=some u->b≠it:=λb u e z=>by rw [z,G] at e;cases e
 refine I.step (g':=s.gens) (d':=s.drawn) (ch:=[it]) (λb D=>?_) (λb o _ _ d e _=>k b o (λz=>d (by simp [z])) e) (λb o _ _ d e _=>{o.slots,k b o (λz=>d (by simp [z])) e}) (λ_ _ _ _ n=>n)
  (λb o d e=>{o,k b o (λz=>d (by simp [z])) e}) (λ_ _ e=>e) (λ_ _ _ e=>e) (λb ps e=>{#[],by rw [e];simp}) (λm B=>?_) (λb u e=>?_) I.bare
 ·let e:b=it:=by simpa using D
  subst e;exact {(h1),j,h2,F}
 ·let (o,es,J,y,r):=B;exact {o,es,J,k _ o (E2 j) y,r}
 ·refine(I.hok b u e).stay (λc v d q=>k c v ?_ q) (λ_ q=>q) λ_ _ q=>q;rcases d with z|z
  ·rw [z];exact i b u e
  ·exact i c _ z
def aO.tok (I:aO X pins σ H s) (t:Nat):aO X pins σ H { s with toks:=t }:=I.un (h':=s.heap) (t':=t) Un.refl I.hok
theorem aO.kept {t':Nat} (I:aO X pins σ H s) (k:∀b u,s.heap.get? b=some u->h'.get? b=some u):aO X pins σ H { s with heap:=h',toks:=t' }:=I.un (Un.kept k) (I.hok.kept k)
theorem aO.laid {a:Addr} {o:HO} {t':Nat} (I:aO X pins σ H s) (k:∀b u,s.heap.get? b=some u->h'.get? b=some u) (d:s.heap.objs.size<=a) (i:bL X.prog X.w (aR H a o) h' a o):
  aO X pins σ (aR H a o) { s with heap:=h',toks:=t' }:=I.un (Un.laid k d (I.hok.fresh d)) (I.hok.laid k d i)
theorem aO.write {x e:Addr} {o:HO} {t':Nat} (I:aO X pins σ H s) (n:GW (H x)) (j:e=x\/H e=some (.own x)) (k:∀b u,b≠e->s.heap.get? b=some u->h'.get? b=some u) (d:∃u,h'.get? e=some u)
  (i:bL X.prog X.w (aR H x o) h' x o):aO X pins σ (aR H x o) { s with heap:=h',toks:=t' }:=I.un (Un.write n j k d) (I.hok.write n j k d i)
def aO.weak {d:List (Option V)} (I:aO X pins σ H s) (y:d.length=σ.length) (w:∀(i:Nat) v,d[i]?=some (some v)->σ[i]?=some (some v)):aO X pins d H s:=
 ⟨I.ok,I.os,I.bare,I.base,let ⟨m,hn,hl'⟩:=I.loc;{m,hn,λi x v q n j=>hl' i x v q (w i v n) j},I.cell,I.free,I.freeC,I.pin,I.hok,y.trans I.len⟩
def aO.pins_of {pins':List (Addr × Obj)} (I:aO X pins σ H s) (h:∀p ∈ pins',s.heap.get? p.1=some p.2/\H p.1=none/\p.1≠X.env.locals/\p.1 ∉ X.fs/\∀v,p.2.data≠.cell v):aO X pins' σ H s:=
 {I.ok,I.os,I.bare,I.base,I.loc,I.cell,I.free,I.freeC,λp d=>(j1.mp d).elim (λz=>I.pin p (A4 _ z)) (h p),I.hok,I.len}
def wX {N:List Str} (n:N.Nodup) {i j:Nat} {x:Str} (a:N[i]?=some x) (b:N[j]?=some x):i=j:=by
 let (h1,q):=c8.mp a;let (h2,d):=c8.mp b;exact(List.getElem_inj n).mp (q.trans d.symm)
def rQ {M:Model} {A:Around} {E:Value->Shared->Prop} {i:Nat} {x:Str} {v:V} {u:Value} {Q:Unit->Shared->Prop} (I:aO X pins σ H s) (hN:X.N.Nodup) (hi:X.N[i]?=some x) (G:Ay X.env.scope x) (r:bJ v u)
  (h:∀s',aO X pins (σ.set i (some v)) H s'->(∃a,Heap.SameBut a s.heap s'.heap/\(a=X.env.locals\/X.env.cells.lookup x=some a))->Q () s') (hf:X.fn x=true\/X.env.scope.names.lookup x=some .local:=by first|exact .inl rfl|exact .inr rfl|assumption):wpAny M A (storeName X.env x u) Q E s:=by
 let (m,hn,hl):=id I.loc;let a0:(X.env.scope.kind == .class || (X.env.scope.kind == .module && X.env.locals != X.env.globals))=false:=by rw [I.ok.kind];rfl
 let Z:i<σ.length:=by rw [I.len];exact(c8.mp hi).1
 let O:=I.cne;let D:∀{a:Addr} {h':Heap},(∃o,s.heap.get? a=some o/\H a=none)->Heap.SameBut a s.heap h'->kH X.prog X.w H h':=λ{a h'} ha B b ob e=>by
  let (_,_,J):=ha;refine(I.hok b ob e).stay (λc w' hc q=>(B.2 c ?_).trans q) (λ_ q=>q) λ_ _ q=>q;rintro rfl;rcases hc with rfl|hc
  ·rw [J] at e;cases e
  ·rw [J] at hc;cases hc
 rcases G with hk|hk
 ·refine wpAny_storeName_local hk hn (λh' a4 B=>?_) a0;let (oL,_,_,a5,_):=id hn;refine h _ {I.ok,I.os,I.bare,{λb o e n S G=>?_,λb o e n S G=>?_,I.base.free,λb o e G=>?_,I.base.tups,I.base.frzs,I.base.tbls},{_,a4,λj y v' F L e3=>?_},λy c e=>?_,I.free,I.freeC,λp hp=>?_,D {(oL),a5,I.free} B,by simpa using I.len} {_,B,.inl rfl}
  ·exact(B.2 b (j8 (k7 (i4 e) I.ok.above))).trans (I.base.keep b o e n S G)
  ·let (sl,F):=I.base.slot b o e n S G;exact {sl,(B.2 b (j8 (k7 (i4 e) I.ok.above))).trans F}
  ·let (o',F):=I.base.there b o e G;exact {o',(B.2 b (j8 (k7 (i4 e) I.ok.above))).trans F}
  ·by_cases W:j=i
   ·subst W;rw [hi] at F;cases F;rw [E5 Z] at L;cases L;exact {u,r,.inl {hk,by simp}}
   ·rw [D3 (E2 W)] at L;let (u',r',q):=hl j y v' F L e3;refine {u',r',?_};rcases q with ⟨k,e⟩|⟨k,c,e,z⟩
    ·refine .inl {k,?_};have:y≠x:=λe=>W (wX hN F (e ▸ hi));simp [this,e]
    ·exact .inr {k,c,e,z.sameBut B (O y c e)}
  ·let (w',z):=I.cell y c e;exact {w',z.sameBut B (O y c e)}
  ·let (e,n,ne,nf,d):=I.pin p hp;exact {(B.2 p.1 ne).trans e,n,ne,nf,d}
 ·let U:X.fn x=true:=by
   rcases hf with z|z
   ·exact z
   ·rw [z] at hk;cases hk
  let (c,hc):=I.ok.has x (.inl hk);let (w',z):=I.cell x c hc;refine wpAny_storeName_cell I.ok.kind hk hc z (λh' a3 B=>?_);let (oc,a2,Y):=id z;refine h { s with heap:=h' } {I.ok,I.os,I.bare,{λb o e n S G=>?_,λb o e n S G=>?_,I.base.free,λb o e G=>?_,I.base.tups,I.base.frzs,I.base.tbls},{m,hn.sameBut B (E2 (O x c hc)),λj y v' F L e3=>?_},λy c' e=>?_,I.free,I.freeC,λp hp=>?_,D {oc,a2,I.freeC x c hc} B,by simpa using I.len} {c,B,.inr hc}
  ·exact(B.2 b (j8 (k7 (i4 e) (I.ok.cab x c U hc)))).trans (I.base.keep b o e n S G)
  ·let (sl,F):=I.base.slot b o e n S G;exact {sl,(B.2 b (j8 (k7 (i4 e) (I.ok.cab x c U hc)))).trans F}
  ·let (o',F):=I.base.there b o e G;exact {o',(B.2 b (j8 (k7 (i4 e) (I.ok.cab x c U hc)))).trans F}
  ·by_cases W:j=i
   ·subst W;rw [hi] at F;cases F;rw [E5 Z] at L;cases L;exact {u,r,.inr {.inl hk,c,hc,a3}}
   ·rw [D3 (E2 W)] at L;let (u',r',q):=hl j y v' F L e3;refine {u',r',?_};rcases q with q|⟨k,c',e,z'⟩
    ·exact .inl q
    ·refine .inr {k,c',e,z'.sameBut B ?_};rintro rfl;exact W (wX hN F (I.ok.inj _ _ _ e hc ▸ hi))
  ·by_cases a1:c'=c
   ·subst a1;exact {_,a3}
   ·let (w2,z2):=I.cell y c' e;exact {w2,z2.sameBut B a1}
  ·let (e,n,ne,nf,d):=I.pin p hp;refine {(B.2 p.1 ?_).trans e,n,ne,nf,d};intro q;rw [q,a2] at e;let q':oc=p.2:=Option.some.inj e;exact d w' (by rw [<- q'];exact Y)
def oU {M:Model} {A:Around} {E:Value->Shared->Prop} {i:Nat} {x:Str} {v:V} {u:Value} {Q:Unit->Shared->Prop} (I:aO X pins σ H s) (d:X.N.Nodup) (hi:X.N[i]?=some x) (j:Ay X.env.scope x) (r:bJ v u)
  (h:∀s',aO X pins (σ.set i (some v)) H s'->Q () s') (n:X.fn x=true\/X.env.scope.names.lookup x=some .local:=by first|exact .inl rfl|exact .inr rfl|assumption):wpAny M A (storeName X.env x u) Q E s:=
 rQ I d hi j r (λs' q _=>h s' q) n
def aO.call' {s':Shared} {ch:List Addr} (I:aO X pins σ H s) (j:s'.os=s.os) (u:Un (kU X.stack) ch H H' s.heap s'.heap) (i:kH X.prog X.w H' s'.heap) (n:AllBare s'.gens)
  (d:∀b ∈ ch,(b ∈ X.ex\/X.s₀.heap.objs.size<=b)/\b≠X.env.locals/\(∀x c,X.env.cells.lookup x=some c->c≠b)/\∀p ∈ X.pn++pins,p.1≠b):aO X pins σ H' s':=by
 let (h',g',d',t',o'):=s';let e:o'=s.os:=j;subst e;exact I.call (g':=g') (t':=t') (d':=d') u i n d
end
abbrev XK:=Value->Option Addr->Hp->Prop
abbrev St:=List (Option V)
abbrev VK:=V->Hp->Prop
abbrev TE:=St->Hp->VK->Prop
abbrev TT:=St->Hp->(Bool->Hp->Prop)->Prop
abbrev TA:=St->Hp->(List V->Hp->Prop)->Prop
structure eK where
 nx:St->Hp->Prop
 rt:VK
 bk:St->Hp->Prop:=λ_ _=>False
 ct:St->Hp->Prop:=λ_ _=>False
abbrev TS:=eK->St->Hp->Prop
def EP (X:Cx) (pins:List (Addr × Obj)) (σ:St) (Q:VK) (u:Value) (s':Shared):Prop:=∃v H',aO X pins σ H' s'/\bJ v u/\Q v H'
def TP (X:Cx) (pins:List (Addr × Obj)) (σ:St) (Q:Bool->Hp->Prop) (b:Bool) (s':Shared):Prop:=∃H',aO X pins σ H' s'/\Q b H'
def AP (X:Cx) (pins:List (Addr × Obj)) (σ:St) (Q:List V->Hp->Prop) (us:List Value) (s':Shared):Prop:=∃vs H',aO X pins σ H' s'/\bG vs us/\Q vs H'
def SP (X:Cx) (pins:List (Addr × Obj)) (D:eK) (f:Flow) (s':Shared):Prop:=
 match f with
 | .next=>∃ σ' H',aO X pins σ' H' s'/\D.nx σ' H'
 | .brk=>∃ σ' H',aO X pins σ' H' s'/\D.bk σ' H'
 | .cont=>∃ σ' H',aO X pins σ' H' s'/\D.ct σ' H'
 | .ret u=>∃v σ' H',aO X pins σ' H' s'/\bJ v u/\D.rt v H'
def PE (X:Cx) (e:Expr) (t:TE):Prop:=
 ∀ ⦃pins:List (Addr × Obj)⦄ (s:Shared) (σ:St) (H:Hp) (Q:VK),aO X pins σ H s->t σ H Q->wpAny (model X.prog X.w) X.A (eval e X.env) (EP X pins σ Q) X.xe s
def PT (X:Cx) (e:Expr) (t:TT):Prop:=
 ∀ ⦃pins:List (Addr × Obj)⦄ (s:Shared) (σ:St) (H:Hp) (Q:Bool->Hp->Prop),aO X pins σ H s->t σ H Q->wpAny (model X.prog X.w) X.A (isTrue e X.env (eval e X.env)) (TP X pins σ Q) X.xe s
def PW (X:Cx) (e:Expr) (t:TT):Prop:=
 ∀ ⦃whole:Sem Value⦄ (pins:List (Addr × Obj)) (s:Shared) (σ:St) (H:Hp) (Q:Bool->Hp->Prop),aO X pins σ H s->t σ H Q->wpAny (model X.prog X.w) X.A (isTrue e X.env whole) (TP X pins σ Q) X.xe s
def PW.pt {X:Cx} {e:Expr} {t:TT} (h:PW X e t):PT X e t:=@h _
def PA (X:Cx) (es:List Expr) (t:TA):Prop:=
 ∀ ⦃pos:Pos⦄ (pins:List (Addr × Obj)) (s:Shared) (σ:St) (H:Hp) (Q:List V->Hp->Prop),aO X pins σ H s->t σ H Q->wpAny (model X.prog X.w) X.A (spliced (backTo pos (starEach es X.env))) (AP X pins σ Q) X.xe s
def PS (X:Cx) (st:Stmt) (t:TS):Prop:=
 ∀ ⦃pins:List (Addr × Obj)⦄ (s:Shared) (σ:St) (H:Hp) (D:eK),aO X pins σ H s->t D σ H->wpAny (model X.prog X.w) X.A (exec st X.env) (SP X pins D) X.xe s
def qX (X:Cx) (st:List Stmt) (t:TS):Prop:=
 ∀ ⦃pins:List (Addr × Obj)⦄ (s:Shared) (σ:St) (H:Hp) (D:eK),aO X pins σ H s->t D σ H->wpAny (model X.prog X.w) X.A (execs st X.env) (SP X pins D) X.xe s
def gM {α:Type} {t:Sem α} {Q d:α->Shared->Prop} {M:Model} {A:Around} {E:Value->Shared->Prop} {s:Shared} (h:wpAny M A t Q E s) (i:∀a s,Q a s->d a s):wpAny M A t d E s:=v6 h i λ_ _ x=>x
def eY {X:Cx} {pins:List (Addr × Obj)} {σ:St} {Q:VK} {R:Value->Shared->Prop} {t:Sem Value} {M:Model} {A:Around} {E:Value->Shared->Prop} {s:Shared} (h:wpAny M A t (EP X pins σ Q) E s) (k:∀v s x H,aO X pins σ H s->bJ x v->Q x H->R v s):wpAny M A t R E s:=gM h λ_ _ z=>z.elim λ_ z=>z.elim λ_ z=>k _ _ _ _ z.1 z.2.1 z.2.2
def uZ {X:Cx} {pins:List (Addr × Obj)} {σ:St} {Q:List V->Hp->Prop} {R:List Value->Shared->Prop} {t:Sem (List Value)} {M:Model} {A:Around} {E:Value->Shared->Prop} {s:Shared} (h:wpAny M A t (AP X pins σ Q) E s) (k:∀v s x H,aO X pins σ H s->bG x v->Q x H->R v s):wpAny M A t R E s:=gM h λ_ _ z=>z.elim λ_ z=>z.elim λ_ z=>k _ _ _ _ z.1 z.2.1 z.2.2
section
variable {X:Cx}
inductive BY (i:Nat) (σ:St) (H:Hp) (Q:VK):Prop|mk (v:_) (_:σ[i]?=some (some v)) (_:Q v H)
def iL (i:Nat):TE:=λσ H Q=>BY i σ H Q
def tC (v:V):TE:=λ_ H Q=>Q v H
def zF {i:Nat} {x:Str} {pos:Pos} (F:X.N[i]?=some x) (B:Xo X.env.scope x) (q:(x == ("__debug__":Str))=false:=by decide) (n:(x == ("__classdict__":Str))=false:=by decide):PE X (.Name x pos) (iL i):=by
 intro pins s σ H Q I h;let (v,e,h):=h;let (m,D,G):=I.loc;let (u,r,l):=G i x v F e B;let j:EP X pins σ Q u s:={(v),H,I,r,h};rcases l with ⟨hk,z⟩|⟨hk,c,y,d⟩
 ·exact wpAny_Name (wpAny_loadName_local I.ok.kind hk D z j) q
 ·rcases hk with hk|hk
  ·exact wpAny_Name (wpAny_loadName_cell I.ok.kind hk y d j) q
  ·exact wpAny_Name (wpAny_loadName_free I.ok.kind hk y d j n) q
def aX {i j pos}:PE X (.Constant (.int i) j pos) (tC (.int i)):=λ_ _ _ H _ I h=>wpAny_Constant_int {.int i,H,I.tok _,{_,rfl},h}
def mM {b j pos}:PE X (.Constant (.bool b) j pos) (tC (.bl b)):=λ_ _ _ H _ I h=>Constant_bool {.bl b,H,I,rfl,h}
def gB {j pos}:PE X (.Constant .none j pos) (tC .non):=λ_ _ _ H _ I h=>Constant_none {.non,H,I,rfl,h}
def eP {x j pos}:PE X (.Constant (.str x) j pos) (tC (.str x)):=λ_ _ _ H _ I h=>Calls.Constant_str {.str x,H,I.tok _,{_,rfl},h}
def Gl (X:Cx) (x:Str):Prop:=X.env.kindOf x=some .globalImplicit
def lH {E:Value->Shared->Prop} {pins:List (Addr × Obj)} {s:Shared} {σ:St} {H:Hp} {x:Str} {u:Value} {pos:Pos} {Q:Value->Shared->Prop} (I:aO X pins σ H s) (j:Gl X x) (i:X.mg x=some u) (h:Q u s)
  (d:(x == ("__debug__":Str))=false:=by decide):wpAny (model X.prog X.w) X.A (eval (.Name x pos) X.env) Q E s:=
 Calls.Name_function_global I.ok.kind j (Calls.loadGlobal_global (by rw [I.ok.glob];exact I.mod.glob.keeps I.bk) i h) d
def jC {E:Value->Shared->Prop} {pins:List (Addr × Obj)} {s:Shared} {σ:St} {H:Hp} {x:Str} {u:Value} {pos:Pos} {Q:Value->Shared->Prop} (I:aO X pins σ H s) (q:Gl X x) (d:X.mg x=none) (j:bootBuiltins x=some u) (h:Q u s)
  (n:x≠"__name__":=by decide) (i:(x == ("__debug__":Str))=false:=by decide):wpAny (model X.prog X.w) X.A (eval (.Name x pos) X.env) Q E s:=by
 let (y,h1,h2):=I.mod.blt;exact Calls.Name_function_global I.ok.kind q (Calls.loadGlobal_builtin (by rw [I.ok.glob];exact I.mod.glob.keeps I.bk) d (by rw [I.ok.blt];exact h1.keeps I.bk) ((h2 x n).trans j) h) i
def Sn {x:Str} {v:V} {u:Value} {pos:Pos} (j:Gl X x) (i:X.mg x=some u) (r:bJ v u) (d:(x == ("__debug__":Str))=false:=by decide):PE X (.Name x pos) (tC v):=
 λ_ _ _ H _ I h=>lH I j i {(v),H,I,r,h} d
def fQ {x:Str} {v:V} {u:Value} {pos:Pos} (q:Gl X x) (d:X.mg x=none) (j:bootBuiltins x=some u) (r:bJ v u) (n:x≠"__name__":=by decide) (i:(x == ("__debug__":Str))=false:=by decide):PE X (.Name x pos) (tC v):=
 λ_ _ _ H _ I h=>jC I q d j {(v),H,I,r,h} n i
variable {a b:Expr} {ta tb:TE} {pos:Pos}
def PC (X:Cx) (op:CmpOp) (a b:Expr) (t:TE):Prop:=
 ∀ ⦃pins:List (Addr × Obj)⦄ (s:Shared) (σ:St) (H:Hp) (Q:VK),aO X pins σ H s->t σ H Q ->
  wpAny (model X.prog X.w) X.A (eval a X.env) (λv s₁=>wpAny (model X.prog X.w) X.A (eval b X.env) (λu s₂=>wpAny (model X.prog X.w) X.A (compareOp op v u) (EP X pins σ Q) X.xe s₂) X.xe s₁) X.xe s
def tB (t:TE):TT:=λσ H Q=>t σ H λx H1=>∃c,x=.bl c/\Q c H1
def Kw {op:CmpOp} {t:TE} (h:PC X op a b t) (h1:behindInMarks op b=false:=by first|exact nobehind _ (by decide) (by decide)|rfl):PT X (.Compare a [op] [b] pos) (tB t):=by
 intro pins s σ H Q I y;refine wpAny_isTrue_Compare1 (gM (h s σ H _ I y) λv D h1=>gM h1 λu B h2=>gM h2 λc F i=>?_) h1;let (x,H1,z,j,n):=i;let (d,rfl,q):=n;cases j;exact A8 {(H1),z,q}
def bY {e:Expr} {t:TE} (h:PE X e t) (z:∀i,isTrue e X.env i=(do let v <- i;standAt e.pos;holding [v] (truthy v)):=by intro _;rfl):PT X e (tB t):=by
 intro pins s σ H Q I y;refine isTrue_plain (eY (h s σ H _ I y) λv D x H1 B j n=>?_) (z _);let (d,rfl,q):=n;cases j;exact A8 {(H1),B,q}
variable {tA tB':TT} {rest:List Expr}
def IE (t u:TT):TT:=λσ H Q=>t σ H λc H1=>if c=true then u σ H1 Q else Q false H1
def JV (t u:TT):TT:=λσ H Q=>t σ H λc H1=>if c=true then Q true H1 else u σ H1 Q
def DP (t:TT):TT:=λσ H Q=>t σ H λc H1=>Q (!c) H1
def gE (d:PT X a tA):PW X (.BoolOp .And [a] pos) tA:=by
 intro i pins s σ H Q I h;refine isTrue_and (gM (d s σ H Q I h) λc j e=>?_);cases c with
 | true=>exact isTrue_and_nil e
 | false=>exact e
def dP (d:PT X a tA):PW X (.BoolOp .Or [a] pos) tA:=by
 intro i pins s σ H Q I h;refine isTrue_or (gM (d s σ H Q I h) λc j e=>?_);cases c with
 | false=>exact isTrue_or_nil e
 | true=>exact e
def iV (y:PT X a tA) (q:PW X (.BoolOp .And (b::rest) pos) tB'):PW X (.BoolOp .And (a::b::rest) pos) (IE tA tB'):=by
 intro z pins s σ H Q I h;refine isTrue_and (gM (y s σ H _ I h) λc n d=>?_);let (H1,j,i):=d;cases c with
 | true=>exact q pins n σ H1 Q j i
 | false=>exact {(H1),j,i}
def eN (y:PT X a tA) (q:PW X (.BoolOp .Or (b::rest) pos) tB'):PW X (.BoolOp .Or (a::b::rest) pos) (JV tA tB'):=by
 intro z pins s σ H Q I h;refine isTrue_or (gM (y s σ H _ I h) λc n d=>?_);let (H1,j,i):=d;cases c with
 | true=>exact {(H1),j,i}
 | false=>exact q pins n σ H1 Q j i
def cC (d:PT X a tA):PT X (.UnaryOp .Not a pos) (DP tA):=by
 intro pins s σ H Q I h;exact isTrue_not (d s σ H (λc H1=>Q (!c) H1) I h)
inductive Vx (tb:TE) (σ:St) (Q:VK) (x:V) (H1:Hp):Prop|mk (c:_) (_:x=.bl c) (_:if c=true then tb σ H1 Q else Q (.bl false) H1)
def Ij (ta tb:TE):TE:=λσ H Q=>ta σ H λx H1=>Vx tb σ Q x H1
def DO (ta:TE):TE:=λσ H Q=>ta σ H λx H1=>∃c,x=.bl c/\Q (.bl (!c)) H1
def gA {op} {t:TE} (h:PE X a t):PE X (.BoolOp op [a] pos) t:=λpins s σ H Q I d=>BoolOp_one (h s σ H Q I d)
def eQ (y:PE X a ta) (n:PE X (.BoolOp .And (b::rest) pos) tb):PE X (.BoolOp .And (a::b::rest) pos) (Ij ta tb):=by
 intro pins s σ H Q I h;refine BoolOp_and (eY (y s σ H _ I h) λv j x H1 i q d=>?_);let (c,rfl,d):=d;cases q;refine A8 ?_;cases c with
 | true=>exact n j σ H1 Q i d
 | false=>exact {.bl false,H1,i,rfl,d}
def zG (j:PE X a ta):PE X (.UnaryOp .Not a pos) (DO ta):=by
 intro pins s σ H Q I h;refine UnaryOp_ (eY (j s σ H _ I h) λv q x H1 n i d=>?_);let (c,rfl,d):=d;cases i;exact not_of (A8 {.bl (!c),H1,n,rfl,d})
end
def dD (K:PySem.W.Frag) (H:Hp) (a:Addr) (xs:List V):Prop:=
 Rd H a (.lst xs) \/
  ∃(o:Obj) (its:Array Value) (n:Nat),K.lookup a=some o/\o.cls=.type "list"/\o.dict=none/\o.data=.seq its n/\its.size<=sizeLine/\bG xs its.toList
def cA (K:PySem.W.Frag) (H:Hp) (a:Addr) (xs:List V):Prop:=
 Rd H a (.tup xs) \/
  ∃(o:Obj) (its:Array Value) (n:Nat),K.lookup a=some o/\o.cls=.type "tuple"/\o.data=.seq its n/\its.size<=sizeLine/\bG xs its.toList
def JJ:Value->Option V
 | .none=>some .non
 | .bool b=>some (.bl b)
 | .int i _=>some (.int i)
 | .str x _=>some (.str x)
 | .bytes b _=>some (.byt b)
 | .float b _=>some (.flt b)
 | .ref a=>some (.ref a)
 | .type n=>some (.ty n)
 | _=>none
def bJ.abs {x:V} {u:Value} (r:bJ x u):JJ u=some x:=by
 cases x with
 | non=>cases r;rfl
 | bl _=>cases r;rfl
 | int _=>let (t,rfl):=r;rfl
 | str _=>let (t,rfl):=r;rfl
 | byt _=>let (t,rfl):=r;rfl
 | flt _=>let (t,rfl):=r;rfl
 | ref _=>cases r;rfl
 | ty _=>cases r;rfl
theorem bJ.inj {x y:V} {u:Value} (r:bJ x u) (q:bJ y u):x=y:=Option.some.inj (r.abs.symm.trans q.abs)
theorem bG.inj {xs ys:List V} {us:List Value} (p:bG xs us) (k:bG ys us):xs=ys:=by
 induction p generalizing ys with
 | nil=>cases k;rfl
 | cons r _ ih=>
  cases k with
  | cons r' t'=>rw [r.inj r',ih t']
section
variable {X:Cx} {pins:List (Addr × Obj)} {σ:St} {H:Hp} {s:Shared} {a:Addr} {xs ys:List V}
def dD.of {K:PySem.W.Frag} (h:H a=some (.lst xs)):dD K H a xs:=.inl (.inl h)
def cA.of {K:PySem.W.Frag} (h:H a=some (.tup xs)):cA K H a xs:=.inl (.inl h)
def aO.list (I:aO X pins σ H s) (h:dD X.K H a xs):∃d:List Value,bG xs d/\PlainL s.heap a d.toArray/\xs.length<=sizeLine:=by
 rcases h with h|⟨o,d,n,y,q,j,i,B,r⟩
 ·let (z,d,n,r,e):=h.ok I.hok;exact {d,r,{_,n,e,rfl,rfl,rfl},z}
 ·refine {d.toList,r,{o,n,I.kIn a o y,q,j,by simpa using i},?_};let e:=r.length;simp only [l9] at e;omega
def aO.tuple (I:aO X pins σ H s) (h:cA X.K H a xs):∃d:List Value,bG xs d/\IsTup s.heap a d.toArray/\xs.length<=sizeLine:=by
 rcases h with h|⟨o,d,n,q,j,i,y,r⟩
 ·let (z,d,r,p):=h.ok I.hok;exact {(d),r,p,z}
 ·refine {d.toList,r,{o,I.kIn a o q,j,n,by simpa using i},?_};let e:=r.length;simp only [l9] at e;omega
def aO.list_inj (I:aO X pins σ H s) (h:dD X.K H a xs) (h':dD X.K H a ys):xs=ys:=by
 let (j,r,(o,n,e,_,_,d),_):=I.list h;let (i,B,(o',D,q,_,_,y),_):=I.list h';rw [e] at q;cases q;rw [d] at y;injection y with z _;have:j=i:=by simpa using congrArg Array.toList z
 subst this;exact r.inj B
def aO.tuple_inj (I:aO X pins σ H s) (h:cA X.K H a xs) (h':cA X.K H a ys):xs=ys:=by
 let (j,r,(o,e,_,n,d),_):=I.tuple h;let (i,B,(o',q,_,D,y),_):=I.tuple h';rw [e] at q;cases q;rw [d] at y;injection y with z _;have:j=i:=by simpa using congrArg Array.toList z
 subst this;exact r.inj B
end
abbrev Cx.wish (X:Cx) (E:Value->Shared->Prop):Cx:={ X with xe:=E }
abbrev Cx.nox (X:Cx):Cx:=X.wish λ_ _=>False
theorem Cx.Ok.wish {X:Cx} (d:X.Ok) (E:Value->Shared->Prop):(X.wish E).Ok:=
 {(d.mod),d.kind,d.glob,d.blt,d.above,d.inj,d.has,d.cab,d.hd,d.frames,d.stk,d.exf,d.bs,d.bsz,d.noex,d.exfs,d.funs,d.frf}
def Cx.Ok.unwish {X:Cx} {E:Value->Shared->Prop} (d:(X.wish E).Ok):X.Ok:=
 {(d.mod),d.kind,d.glob,d.blt,d.above,d.inj,d.has,d.cab,d.hd,d.frames,d.stk,d.exf,d.bs,d.bsz,d.noex,d.exfs,d.funs,d.frf}
section
variable {X:Cx} {pins:List (Addr × Obj)} {σ:St} {H:Hp} {s:Shared} {E:Value->Shared->Prop}
theorem aO.wish (I:aO X pins σ H s) (E:Value->Shared->Prop):aO (X.wish E) pins σ H s:={I.ok.wish E,I.os,I.bare,I.base,I.loc,I.cell,I.free,I.freeC,I.pin,I.hok,I.len}
theorem aO.unwish (I:aO (X.wish E) pins σ H s):aO X pins σ H s:={(I.ok.unwish),I.os,I.bare,I.base,I.loc,I.cell,I.free,I.freeC,I.pin,I.hok,I.len}
theorem SP.unwish {D:eK} {f:Flow} {s':Shared} (h:SP (X.wish E) pins D f s'):SP X pins D f s':=by
 cases f with
 | next=>let (d,H',I,q):=h;exact {(d),H',I.unwish,q}
 | brk=>let (d,H',I,q):=h;exact {(d),H',I.unwish,q}
 | cont=>let (d,H',I,q):=h;exact {(d),H',I.unwish,q}
 | ret u=>let (v,d,H',I,r,q):=h;exact {(v),d,H',I.unwish,r,q}
theorem PE.nox {e:Expr} {t:TE} (h:PE X.nox e t):PE X e t:=λpins s σ H Q I d=>
 v6 (h s σ H Q (I.wish _) d) (λ_ _ ⟨v,H',I',r,q⟩=>{(v),H',I'.unwish,r,q}) λ_ _ z=>False.elim z
theorem qX.nox {st:List Stmt} {t:TS} (h:qX X.nox st t):qX X st t:=λpins s σ H D I d=>
 v6 (h s σ H D (I.wish _) d) (λ_ _ q=>q.unwish) λ_ _ z=>False.elim z
end
section
variable {X:Cx} {st:Stmt} {rest:List Stmt} {t u:TS} {e:Expr} {te:TE} {pos:Pos}
def Bj:TS:=λD σ H=>D.nx σ H
def Qo (t u:TS):TS:=λD σ H=>t { D with nx:=u D } σ H
def aY:qX X [] Bj:=λ_ _ σ H _ I h=>L7 {(σ),H,I,h}
def aF (h1:PS X st t) (h2:qX X rest u):qX X (st::rest) (Qo t u):=by
 intro pins s σ H D I h;refine wpAny_execs_cons (gM (h1 s σ H { D with nx:=u D } I h) λf i q=>?_);cases f with
 | next=>
  let (d,H',j,q):=q;exact h2 i d H' D j q
 | ret v=>exact q
 | brk=>exact q
 | cont=>exact q
def aH (h1:PS X st t):qX X [st] t:=by
 intro pins s σ H D I h;refine wpAny_execs_cons (gM (h1 s σ H D I h) λf d q=>?_);cases f with
 | next=>exact L7 q
 | ret v=>exact q
 | brk=>exact q
 | cont=>exact q
def aO.quiet {pins:List (Addr × Obj)} {σ:St} {H:Hp} {s:Shared} (I:aO X pins σ H s):interactive X.env=false:=by simp [interactive,I.ok.kind]
def DU (te:TE):TS:=λD σ H=>te σ H λ_ H1=>D.nx σ H1
def cJ (j:PE X e te) (d:swapsWith e none pos.line X.env=pure false:=by rfl):PS X (.Expr e pos) (DU te):=by
 intro pins s σ H D I h;exact wpAny_Expr_any (eY (j s σ H _ I h) λv q x H1 n y i=>{(σ),H1,n,i}) I.quiet d
def Xy (te:TE):TS:=λD σ H=>te σ H D.rt
def bB (j:PE X e te):PS X (.Return (some e) pos) (Xy te):=by
 intro pins s σ H D I h;exact wpAny_Return_some (eY (j s σ H _ I h) λv q x H1 n d i=>{(x),σ,H1,n,d,i})
def DT (c:TT) (t u:TS):TS:=λD σ H=>c σ H λb H1=>if b=true then t D σ H1 else u D σ H1
def bQ {c:Expr} {a b:List Stmt} {tc:TT} (B:PT X c tc) (z:qX X a t) (y:qX X b u):PS X (.If c a b pos) (DT tc t u):=by
 intro pins s σ H D I h;refine wpAny_If (gM (B s σ H _ I h) λd j i=>?_);let (H1,q,n):=i;cases d with
 | true=>exact z j σ H1 D q n
 | false=>exact y j σ H1 D q n
def Ie:TS:=λ_ _ _=>False
def pE:PS X st Ie:=λ_ _ _ _ _ _ h=>h.elim
def cU {d:List Stmt}:qX X d Ie:=λ_ _ _ _ _ _ h=>h.elim
end
abbrev TG:=V->St->Hp->(St->Hp->Prop)->Prop
abbrev Uv:=List V->St->Hp->(St->Hp->Prop)->Prop
def PG (X:Cx) (target:Expr) (t:TG):Prop:=
 ∀ ⦃pins:List (Addr × Obj)⦄ (s:Shared) (σ:St) (H:Hp) (v:V) (u:Value) (Q:St->Hp->Prop),aO X pins σ H s->bJ v u->t v σ H Q ->
  wpAny (model X.prog X.w) X.A (assign target X.env u) (λ_ s'=>∃ σ' H',aO X pins σ' H' s'/\Q σ' H') X.xe s
def HL (X:Cx) (ts:List Expr) (t:Uv):Prop:=
 ∀ ⦃pins:List (Addr × Obj)⦄ (s:Shared) (σ:St) (H:Hp) (vs:List V) (us:List Value) (Q:St->Hp->Prop),aO X pins σ H s->bG vs us->t vs σ H Q ->
  wpAny (model X.prog X.w) X.A (assignInOrder ((assignEach ts X.env).map (·.2)) us) (λ_ s'=>∃ σ' H',aO X pins σ' H' s'/\Q σ' H') X.xe s
abbrev BL:=V->V->V->Hp->(Hp->Prop)->Prop
def GU (X:Cx) (t:BL):Prop:=
 ∀(pins:List (Addr × Obj)) (s:Shared) (σ:St) (H:Hp) (o i v:V) (ov iv u:Value) (Q:Hp->Prop),aO X pins σ H s->bJ o ov->bJ i iv->bJ v u->t o i v H Q ->
  wpAny (model X.prog X.w) X.A (setItem ov iv u) (λ_ s'=>∃H',aO X pins σ H' s'/\Q H') X.xe s
abbrev HH:=V->V->Hp->VK->Prop
def KL (X:Cx) (op:Operator) (t:HH):Prop:=
 ∀(pins:List (Addr × Obj)) (s:Shared) (σ:St) (H:Hp) (x y:V) (v u:Value) (Q:VK),aO X pins σ H s->bJ x v->bJ y u->t x y H Q ->
  wpAny (model X.prog X.w) X.A (inplaceOp op v u) (EP X pins σ Q) X.xe s
section
variable {X:Cx} {pos:Pos}
def cS (i:Nat):TG:=λv σ H Q=>Q (σ.set i (some v)) H
def aW {i:Nat} {x:Str} (d:X.N.Nodup) (hi:X.N[i]?=some x) (j:Ay X.env.scope x) (n:X.fn x=true\/X.env.scope.names.lookup x=some .local:=by first|exact .inl rfl|exact .inr rfl|assumption):PG X (.Name x pos) (cS i):=by
 intro pins s σ H v u Q I r h;exact wpAny_assign_Name (oU I d hi j r (λs' q=>{_,H,q,h}) n)
def Gg:Uv:=λvs σ H Q=>vs=[]/\Q σ H
inductive Vy (t:TG) (u:Uv) (vs:List V) (σ:St) (H:Hp) (Q:St->Hp->Prop):Prop|mk (v:_) (r:_) (_:vs=v::r) (_:t v σ H λσ' H'=>u r σ' H' Q)
def hZ (t:TG) (u:Uv):Uv:=λvs σ H Q=>Vy t u vs σ H Q
def eO:HL X [] Gg:=by
 intro pins s σ H d i Q I r h;let (e,h):=h;subst e;cases r;exact assignInOrder_nil {(σ),H,I,h}
def bH {e:Expr} {es:List Expr} {t:TG} {u:Uv} (h1:PG X e t) (h2:HL X es u)
  (j:(assignEach (e::es) X.env).map (·.2)=assign e X.env::(assignEach es X.env).map (·.2):=by rfl):HL X (e::es) (hZ t u):=by
 intro pins s σ H D B Q I r h;let (v,F,q,h):=h;subst q;cases r with
 | cons r rr=>
  rw [j];refine assignInOrder_cons (gM (h1 s σ H _ _ _ I r h) λ_ i d=>?_);let (z,H1,y,n):=d;exact h2 i z H1 _ _ Q y rr n
inductive CH (K:PySem.W.Frag) (n:Nat) (t:Uv) (v:V) (σ:St) (H:Hp) (Q:St->Hp->Prop):Prop|mk (a:_) (xs:_) (_:v=.ref a) (_:cA K H a xs) (_:xs.length=n) (_:t xs σ H Q)
def Gf (K:PySem.W.Frag) (n:Nat) (t:Uv):TG:=λv σ H Q=>CH K n t v σ H Q
def fZ {es:List Expr} {k:Nat} {t:Uv} {n:Nat} (B:X.calm=true) (h:HL X es t)
  (G:(assignEach es X.env).length=n:=by rfl) (i:(assignEach es X.env).findIdx? (·.1)=none:=by rfl):PG X (.Tuple es k pos) (Gf X.K n t):=by
 intro pins s σ H v u Q I r d;let (a,xs,F,D,y,d):=d;subst F;cases r;let (q,j,L,M):=I.tuple D;refine assign_Tuple_tuple (I.ok.hd B) L (by simp [G,<- y,j.length]) i λh' z=>?_;let J:aO X pins σ H { s with heap:=h' }:=I.kept (t':=s.toks) λb o e=>z b o (j8 (i4 e)) e;exact h _ σ H xs _ Q J (by simpa using j) d
def JH (to ti:TE) (t:BL):TG:=λv σ H Q=>to σ H λo H1=>ti σ H1 λi H2=>t o i v H2 λH3=>Q σ H3
def Zu {o i:Expr} {to q:TE} {t:BL} (W:PE X o to) (hi:PE X i q) (G:GU X t)
  (L:∀v,assign (.Subscript o i pos) X.env v=(do
   let d <- holding [v] (eval o X.env)
   let j <- holding [v,d] (eval i X.env)
   standAt pos
   holding [v,d,j] (setItem d j v)
   release [v,d,j] []):=by intro _;rfl):PG X (.Subscript o i pos) (JH to q t):=by
 intro pins s σ H v u Q I r h;rw [L];refine c6 (w9 (eY (W s σ H _ I h) λd F x H1 J O B=>?_));refine c6 (w9 (eY (hi F σ H1 _ J B) λj z y H2 M N U=>?_));refine c6 (O4 (c6 (w9 (gM (G pins z σ H2 x y v d j u _ M O N r U) λ_ Z n=>?_))));let (Y,S,D):=n;exact wpAny_release {(σ),Y,S,D}
def Ii (te:TE) (g:TG):TS:=λD σ H=>te σ H λx H1=>g x σ H1 D.nx
def La {tg e:Expr} {te:TE} {g:TG} (z:PE X e te) (F:PG X tg g) (i:swapsWithSole [tg] e pos.line X.env=pure false:=by rfl) (y:swappedStores [tg] e X.env=pure none:=by rfl)
  (h1:(assignEach [tg] X.env).map (·.2)=[assign tg X.env]:=by rfl):PS X (.Assign [tg] e pos) (Ii te g):=by
 intro pins s σ H D I h;refine wpAny_Assign_stores (eY (z s σ H _ I h) λv d x H1 B j n=>?_) i y;rw [h1];exact gM (F d σ H1 x v _ B j n) λ_ G q=>q
def eI {i:Nat} {x:Str} {e:Expr} {te:TE} {pos':Pos} (G:X.N.Nodup) (hi:X.N[i]?=some x) (q:Ay X.env.scope x) (F:PE X e te) (d:swapsWith e (some (.Name x pos')) pos.line X.env=pure false:=by rfl) (j:X.fn x=true\/X.env.scope.names.lookup x=some .local:=by first|exact .inl rfl|exact .inr rfl|assumption):
  PS X (.Assign [.Name x pos'] e pos) (Ii te (cS i)):=by
 intro pins s σ H D I h;refine wpAny_Assign_Name (eY (F s σ H _ I h) λv M y H1 J z B=>?_) d;exact oU J G hi q z (λL n=>{_,H1,n,B}) j
def ID (i:Nat) (te:TE) (ti:HH):TS:=λD σ H=>∃x,σ[i]?=some (some x)/\te σ H λy H1=>ti x y H1 λz H2=>D.nx (σ.set i (some z)) H2
def Zr {i:Nat} {x:Str} {e:Expr} {te:TE} {op:Operator} {B:HH} {pos':Pos} (Y:X.N.Nodup) (hi:X.N[i]?=some x) (n:Ay X.env.scope x) (M:PE X e te) (ho:KL X op B) (U:X.fn x=true\/X.env.scope.names.lookup x=some .local:=by first|exact .inl rfl|exact .inr rfl|assumption):
  PS X (.AugAssign (.Name x pos') op e pos) (ID i te B):=by
 intro pins s σ H D I h;let (v,W,h):=h;let (m,O,hl):=I.loc;let j:Xo X.env.scope x:=by rcases n with k|k;exact .inl k;exact .inr (.inl k)
 let (u,r,l):=hl i x v hi W j;refine wpAny_AugAssign_Name ?_;let q:wpAny (model X.prog X.w) X.A (eval e X.env) (λw s₂=>wpAny (model X.prog X.w) X.A (inplaceOp op u w) (λr Z=>wpAny (model X.prog X.w) X.A (storeName X.env x r) (λ_=>SP X pins D .next) X.xe Z) X.xe s₂) X.xe s:=by
  refine eY (M s σ H _ I h) λw J y H1 S r1 G=>?_;refine eY (ho pins J σ H1 v y u w _ S r r1 G) λz s2 zv H2 I2 r2 q2=>?_;exact oU I2 Y hi n r2 (λs3 I3=>{_,H2,I3,q2}) U
 rcases l with ⟨hk,F⟩|⟨hk,c,L,d⟩
 ·exact wpAny_loadName_local I.ok.kind hk O F q
 ·rcases hk with hk|hk
  ·exact wpAny_loadName_cell I.ok.kind hk L d q
  ·rcases n with k|k
   ·have:X.env.scope.names.lookup x=some .free:=hk;rw [k] at this;cases this
   ·have:X.env.scope.names.lookup x=some .free:=hk;rw [k] at this;cases this
def KW (f:Int->Int->Int):HH:=λx y H Q=>∃i j,x=.int i/\y=.int j/\Q (.int (f i j)) H
def AU:KL X .Add (KW λi j=>i+j):=by
 intro pins s σ H x y v u Q I z n h;let (i,j,B,d,q):=h;subst B;subst d;let (t,rfl):=z;let (D,rfl):=n;exact iadd_int {.int _,H,I.tok _,{_,rfl},q}
def Xu (c:TT) (tb:TS):TS:=λD σ H=>∃W:Nat->St->Hp->Prop,(∃m,W m σ H)/\∀m σ H,W m σ H ->
 c σ H λb H1=>if b=true then ∃N:St->Hp->Prop,(∀ σ' H',N σ' H'->∃m',m'<m/\W m' σ' H')/\tb { D with nx:=N,ct:=N,bk:=D.nx } σ H1 else D.nx σ H1
def Kx {c:Expr} {d:List Stmt} {tc:TT} {tb:TS} (Z:PassesOwn (model X.prog X.w) X.A X.env X.xe) (hc:PT X c tc) (hb:qX X d tb):PS X (.While c d [] pos) (Xu tc tb):=by
 intro pins s σ H D I h;let (W,(m0,w0),i):=h;refine wpAny_While (codeAny_whileLoop (λn s'=>∃S H',aO X pins S H' s'/\W n S H') ?_ m0 {(σ),H,I,w0});rintro n s1 ⟨z,H1,I1,w1⟩;refine E8 Z (gM (hc s1 z H1 _ I1 (i n z H1 w1)) λb s2 O=>?_);let (H2,Y,B):=O;cases b with
 | true=>
  let (N,U,B):=B;rw [if_pos rfl];refine E8 Z (gM (hb s2 z H2 _ Y B) λf s3 y=>?_);cases f with
  | next=>
   let (j,q,L,G):=y;let (M,F,J):=U j q G;exact {(M),F,j,q,L,J}
  | cont=>
   let (j,q,L,G):=y;let (M,F,J):=U j q G;exact {(M),F,j,q,L,J}
  | brk=>exact y
  | ret v=>exact y
 | false=>
  rw [if_neg q8];exact L7 {(z),H2,Y,B}
end
structure It where
 go:Nat->Hp->Prop
 yld:Nat->Hp->V->Hp->Prop
 stop:Nat->Hp->Prop
def lP (X:Cx) (pins:List (Addr × Obj)) (H:Hp) (b:Addr):Prop:=
 H b=none/\b≠X.env.locals/\b ∉ X.fs/\(b ∈ X.ex\/X.s₀.heap.objs.size<=b)/\(∀x c,X.env.cells.lookup x=some c->c≠b)/\∀p ∈ X.pn++pins,p.1≠b
def aO.fpOk {X:Cx} {pins:List (Addr × Obj)} {σ:St} {H H':Hp} {s:Shared} {b:Addr} (I:aO X pins σ H s) (d:s.heap.objs.size<=b) (i:H' b=none):lP X pins H' b:=by
 refine {i,J6 (k7 I.lt d),I.nofs d,.inr (l7 I.sz d),λx c e z=>?_,λp j z=>?_}
 ·let (v,q):=I.cell x c e;exact absurd (k7 q.lt (by rw [z];exact d)) (x6 _)
 ·exact absurd (k7 (i4 (I.pin p j).1) (by rw [z];exact d)) (x6 _)
structure Am (P:Program) (w:World) (K:PySem.W.Frag) (hd:Option Value) (tg:Expr) (J:It) (fp:List Addr) (it:Addr) (tn:Nat->Heap->Prop):Prop where
 mem:it ∈ fp
 obj:∀i h,tn i h->∀b ∈ fp,∃o,h.get? b=some o/\∀v,o.data≠.cell v
 keep:∀i h h',tn i h->(∀b ∈ fp,∀o,h.get? b=some o->h'.get? b=some o)->tn i h'
 item:∀(X:Cx),X.prog=P->X.w=w->X.K=K->X.A.handled=hd->∀(i:Nat) (pins:List (Addr × Obj)) (s:Shared) (σ:St) (H:Hp) (E:Value->Shared->Prop),aO X pins σ H s->(∀b ∈ fp,lP X pins H b)->tn i s.heap->J.go i H ->
  wpAny (model P w) X.A (pyNext (.ref it)) (λr s1=>∃u,r=some u /\
   wpAny (model P w) X.A (letOwnedTupleGo tg (.ref it) u) (λ_ s2=>∃x H',aO X pins σ H' s2/\bJ x u/\J.yld i H x H'/\tn (i+1) s2.heap/\∀b ∈ fp,H' b=none) E s1) E s
 done:∀(X:Cx),X.prog=P->X.w=w->X.K=K->X.A.handled=hd->∀(i:Nat) (pins:List (Addr × Obj)) (s:Shared) (σ:St) (H:Hp) (E:Value->Shared->Prop),aO X pins σ H s->(∀b ∈ fp,lP X pins H b)->tn i s.heap->J.stop i H ->
  wpAny (model P w) X.A (pyNext (.ref it)) (λr s1=>r=none/\aO X pins σ H s1) E s
 self:∀(A:Around) (i:Nat) (s:Shared) (Q:Value->Shared->Prop) (E:Value->Shared->Prop),tn i s.heap->Q (.ref it) s->wpAny (model P w) A (pyIter (.ref it)) Q E s
abbrev TI:=St->Hp->(It->Hp->Prop)->Prop
def KM (X:Cx) (pins:List (Addr × Obj)) (σ:St) (tg:Expr) (R:It->Hp->Prop) (itv:Value) (s2:Shared):Prop:=
 ∃(it:Addr) (fp:List Addr) (tn:Nat->Heap->Prop) (J:It) (H':Hp),itv=.ref it/\aO X pins σ H' s2/\Am X.prog X.w X.K X.A.handled tg J fp it tn/\tn 0 s2.heap/\(∀b ∈ fp,lP X pins H' b)/\R J H'
def PI (X:Cx) (tg iter:Expr) (wi:TI):Prop:=
 ∀ ⦃pins:List (Addr × Obj)⦄ (s:Shared) (σ:St) (H:Hp) (R:It->Hp->Prop),aO X pins σ H s->wi σ H R ->
  wpAny (model X.prog X.w) X.A (eval iter X.env) (λv s1=>wpAny (model X.prog X.w) X.A (pyIter v) (KM X pins σ tg R) X.xe s1) X.xe s
def xI {M:Model} {A:Around} {E:Value->Shared->Prop} {s:Shared} {tg:Expr} {it:Addr} {u:Value} {o:Obj} {n:String} {vs:Array Value} {Q:Unit->Shared->Prop} (q:s.heap.get? it=some o) (j:o.cls=.type n) (i:o.data=.fields vs)
  (y:["enumerate","zip","dict_itemiterator","dict_reverseitemiterator","odict_iterator","itertools.zip_longest","itertools.pairwise"].contains n=false) (d:Q () s):wpAny M A (letOwnedTupleGo tg (.ref it) u) Q E s:=by
 unfold letOwnedTupleGo;cases tg <;> first
  | exact g9 d
  | (cases u <;> first
    | exact g9 d
    | (refine c6 (wpAny_load q ?_)
       rw [j,i]
       show wpAny M A (if (["enumerate","zip","dict_itemiterator","dict_reverseitemiterator","odict_iterator","itertools.zip_longest","itertools.pairwise"].contains n && vs[0]? == some (rawInt _))=true then _ else _) Q E s
       rw [if_neg (by intro h;rw [y,Bool.false_and] at h;cases h)]
       exact g9 d))
def Hl (K:PySem.W.Frag) (a:Addr):It:=
 ⟨λi H=>∃xs x,dD K H a xs/\xs[i]?=some x,λi H x H'=>H'=H/\∀xs,dD K H a xs->xs[i]?=some x,λi H=>∃xs,dD K H a xs/\xs.length<=i⟩
def Vu (K:PySem.W.Frag) (a:Addr):It:=
 ⟨λi H=>∃xs x,cA K H a xs/\xs[i]?=some x,λi H x H'=>H'=H/\∀xs,cA K H a xs->xs[i]?=some x,λi H=>∃xs,cA K H a xs/\xs.length<=i⟩
def BW (lo:Int) (n:Nat):It:=⟨λi _=>i<n,λi H x H'=>H'=H/\x=.int (lo+i),λi _=>n<=i⟩
def rO {P:Program} {n:Option Value} {w:World} {K:PySem.W.Frag} {tg:Expr} (a it:Addr) (e0:n=none):Am P w K n tg (Hl K a) [it] it (λi h=>h.IsListIter it a i) where
 mem:=by simp
 obj:=λi h st b j=>by
  let e:b=it:=by simpa using j
  subst e
  let (o,e,c,d):=st
  exact {o,e,λv z=>by rw [d] at z;cases z}
 keep:=λi h h' st k=>st.at λo e=>k it (by simp) o e
 item:=by
  intro X J N G Z i pins s σ H E I y st F;subst J N G;let (xs,x,B,S):=F;let (D,U,p,hz):=I.list B;let (u,hu,ru):=U.get S;let (M,O,f2,Y,f4,L):=y it (by simp);refine wpAny_pyNext_list_item st p.isList (x:=u) (by simpa using hu) λh' q sb=>?_;let I1:aO X pins σ H { s with heap:=h' }:=I.turned (t':=s.toks) (λb o j e=>(sb.2 b j).trans e) M O Y f4 L;let (o,e,c,d):=id q;exact {u,rfl,xI (s:={ s with heap:=h' }) e c d (by decide) {x,H,I1,ru,{rfl,λys hy=>by rw [I.list_inj hy B];exact S},q,λb j=>(y b j).1}}
 done:=by
  intro X J N G Z i pins s σ H E I y st F;subst J N G;let (xs,B,S):=F;let (D,U,p,hz):=I.list B;let (M,O,f2,Y,f4,L):=y it (by simp);let hl:=U.length;exact wpAny_pyNext_list_end (Z.trans e0) st p.isList (by simp;omega) λh' eb=>{rfl,I.turned (t':=s.toks) (λb o j e=>eb b o j e) M O Y f4 L}
 self:=λ_ _ _ _ _ st h=>wpAny_pyIter_listiter st h
def oR {P:Program} {q:Option Value} {w:World} {K:PySem.W.Frag} {tg:Expr} (a it:Addr) (e0:q=none):Am P w K q tg (Vu K a) [it] it (λi h=>h.IsTupleIter it a i) where
 mem:=by simp
 obj:=λi h st b n=>by
  let e:b=it:=by simpa using n
  subst e
  let (o,e,c,d):=st
  exact {o,e,λv z=>by rw [d] at z;cases z}
 keep:=λi h h' st k=>st.at λo e=>k it (by simp) o e
 item:=by
  intro X J N G Z i pins s σ H E I B st F;subst J N G;let (xs,x,D,S):=F;let (j,U,p,hz):=I.tuple D;let (u,hu,ru):=U.get S;let (M,O,f2,Y,f4,L):=B it (by simp);refine wpAny_pyNext_tuple_item st (show s.heap.IsTuple a j.toArray from p) (x:=u) (by simpa using hu) λh' y sb=>?_;let I1:aO X pins σ H { s with heap:=h' }:=I.turned (t':=s.toks) (λb o n e=>(sb.2 b n).trans e) M O Y f4 L;let (o,e,c,d):=id y;exact {u,rfl,xI (s:={ s with heap:=h' }) e c d (by decide) {x,H,I1,ru,{rfl,λys hy=>by rw [I.tuple_inj hy D];exact S},y,λb n=>(B b n).1}}
 done:=by
  intro X J N G Z i pins s σ H E I B st F;subst J N G;let (xs,D,S):=F;let (j,U,p,hz):=I.tuple D;let (M,O,f2,Y,f4,L):=B it (by simp);let hl:=U.length;exact wpAny_pyNext_tuple_end (Z.trans e0) st (show s.heap.IsTuple a j.toArray from p) (by simp;omega) λh' eb=>{rfl,I.turned (t':=s.toks) (λb o n e=>eb b o n e) M O Y f4 L}
 self:=λ_ _ _ _ _ st h=>wpAny_pyIter_tupleiter st h
def yM {P:Program} {j:Option Value} {w:World} {K:PySem.W.Frag} {tg:Expr} (it:Addr) (lo:Int) (n:Nat) (S:j=none):Am P w K j tg (BW lo n) [it] it (λi h=>IsRangeIter h it (lo+(i:Nat) * 1) ((n:Int)-(i:Nat)) 1) where
 mem:=by simp
 obj:=λi h st b d=>by
  let e:b=it:=by simpa using d
  subst e
  exact⟨_,st,λv z=>by
   let z':Data.fields _=Data.cell v:=z
   cases z'⟩
 keep:=λi h h' st k=>k it (by simp) _ st
 item:=by
  intro X G M F D i pins s σ H E I y st B;subst G M F;let (L,N,f2,O,f4,J):=y it (by simp);let W:=Walks.range (prog:=X.prog) (w:=X.w) (D.trans S) it lo 1 n;refine W.item i s _ _ B st λv h' tk U q Z=>?_;let (t,rfl):=U;let Y:aO X pins σ H { s with heap:=h',toks:=tk }:=I.turned (λb o d e=>Z b o (by simpa using d) e) L N O f4 J;refine {_,rfl,xI (s:={ s with heap:=h',toks:=tk }) (n:="range_iterator") q rfl rfl (by decide) {.int (lo+i),H,Y,{t,?_},{(rfl),rfl},q,λb d=>(y b d).1}};rw [Int.mul_one]
 done:=by
  intro X G M F D i pins s σ H E I y st B;subst G M F;let (L,N,f2,O,f4,J):=y it (by simp);exact wpAny_pyNext_range_end (D.trans S) st (by have:n<=i:=B;omega) λh' eb=>{rfl,I.turned (t':=s.toks) (λb o d e=>eb b o d e) L N O f4 J}
 self:=λ_ _ _ _ _ st h=>wpAny_pyIter_rangeiter st h
section
variable {X:Cx} {tg:Expr}
def FT (K:PySem.W.Frag) (tl:TE):TI:=λσ H R=>tl σ H λx H1=>∃a,x=.ref a/\(∃xs,dD K H1 a xs)/\R (Hl K a) H1
def JB (K:PySem.W.Frag) (tl:TE):TI:=λσ H R=>tl σ H λx H1=>∃a,x=.ref a/\(∃xs,cA K H1 a xs)/\R (Vu K a) H1
def iF {l:Expr} {tl:TE} (F:PE X l tl) (j:X.calm=true:=by rfl):PI X tg l (FT X.K tl):=by
 intro pins s σ H R I h;refine eY (F s σ H _ I h) λv d x H1 i z B=>?_;let (a,e,(xs,D),q):=B;subst e;cases z;let (n,J,p,G):=i.list D;refine N4 p.isList ?_;refine {d.heap.objs.size,[d.heap.objs.size],_,_,H1,rfl,i.kept (t':=d.toks) λb o e=>f6 _ e,rO a _ (I.ok.hd j),{_,i9 _ rfl,rfl,rfl},λb y=>?_,q};let e:b=d.heap.objs.size:=by simpa using y
 subst e;exact i.fpOk (c9 _) (i.hok.fresh (c9 _))
def fY {l:Expr} {tl:TE} (F:PE X l tl) (n:X.calm=true:=by rfl):PI X tg l (JB X.K tl):=by
 intro pins s σ H R I h;refine eY (F s σ H _ I h) λv d x H1 i z B=>?_;let (a,e,(xs,D),q):=B;subst e;cases z;let (j,J,p,G):=i.tuple D;refine Q2 (show d.heap.IsTuple a j.toArray from p) ?_;refine {d.heap.objs.size,[d.heap.objs.size],_,_,H1,rfl,i.kept (t':=d.toks) λb o e=>f6 _ e,oR a _ (I.ok.hd n),{_,i9 _ rfl,rfl,rfl},λb y=>?_,q};let e:b=d.heap.objs.size:=by simpa using y
 subst e;exact i.fpOk (c9 _) (i.hok.fresh (c9 _))
def wD {pins:List (Addr × Obj)} {σ:St} {H:Hp} {s:Shared} {R:It->Hp->Prop} {E:Value->Shared->Prop} {lo hi:Int} {t u v:Tok} {tk:Nat} (i:X.calm=true) (I:aO X pins σ H s) (h1:-(2 ^ 62)<=lo) (h2:lo<2 ^ 62) (z:-(2 ^ 62)<=hi) (y:hi<2 ^ 62)
  (q:R (BW lo (hi-lo).toNat) H):wpAny (model X.prog X.w) X.A (pyIter (.ref s.heap.objs.size)) (KM X pins σ tg R) E { s with heap:=s.heap.push { cls:=.type "range",data:=.fields #[.int lo t,.int hi u,.int 1 v] },toks:=tk }:=by
 refine wpAny_pyIter_range (IsRange.new ..) (small_one h1 h2 z y) ?_;let d:aO X pins σ H { s with heap:=s.heap.push { cls:=.type "range",data:=.fields #[.int lo t,.int hi u,.int 1 v] },toks:=tk }:=I.kept λb o e=>f6 _ e;refine {(s.heap.push { cls:=.type "range",data:=.fields #[.int lo t,.int hi u,.int 1 v] }).objs.size,[(s.heap.push { cls:=.type "range",data:=.fields #[.int lo t,.int hi u,.int 1 v] }).objs.size],_,_,H,rfl,
  d.kept (t':=tk) λb o e=>f6 _ e,yM _ lo (hi-lo).toNat (I.ok.hd i),?_,λb n=>?_,q}
 ·let B:lo+((0:Nat):Int) * 1=lo:=by simp
  let j:(((hi-lo).toNat:Nat):Int)-((0:Nat):Int)=Builtin.Range.rangeSize lo hi 1:=by rw [rangeSize_one];split <;> omega
  show IsRangeIter _ _ (lo+((0:Nat):Int) * 1) ((((hi-lo).toNat:Nat):Int)-((0:Nat):Int)) 1;rw [B,j];exact i9 _ rfl
 ·let e:b=(s.heap.push { cls:=.type "range",data:=.fields #[.int lo t,.int hi u,.int 1 v] }).objs.size:=by simpa using n
  subst e;exact d.fpOk (c9 _) (d.hok.fresh (c9 _))
def FS (ta:TA):TI:=λσ H R=>ta σ H λvs H1=>∃j:Int,vs=[.int j]/\-(2 ^ 62)<=j/\j<2 ^ 62/\R (BW 0 j.toNat) H1
def FR (ta:TA):TI:=λσ H R=>ta σ H λvs H1=>∃i j:Int,vs=[.int i,.int j]/\(-(2 ^ 62)<=i/\i<2 ^ 62/\-(2 ^ 62)<=j/\j<2 ^ 62)/\R (BW i (j-i).toNat) H1
def sB {a:Expr} {ta:TA} {p pos:Pos} (G:Gl X "range") (n:X.mg "range"=none) (B:PA X [a] ta) (y:starEach [a] X.env=[(false,eval a X.env)]:=by rfl) (i:X.calm=true:=by rfl):PI X tg (.Call (.Name "range" p) [a] [] pos) (FS ta):=by
 intro pins s σ H R I h;refine Call_ (jC I G n boot_range (K4 (uZ (B pins s σ H _ I h) λJ L M H1 F z d=>?_) y rfl));let (j,e,d,D,q):=d;subst e;cases z with
 | cons r rr=>
  cases rr;let (t,rfl):=r;exact call_range_1 (wD i F ∎ ∎ d D (by simpa using q))
def jT {a b:Expr} {ta:TA} {p pos:Pos} (N:Gl X "range") (z:X.mg "range"=none) (G:PA X [a,b] ta) (B:starEach [a,b] X.env=[(false,eval a X.env),(false,eval b X.env)]:=by rfl) (d:starEach [b] X.env=[(false,eval b X.env)]:=by rfl) (y:X.calm=true:=by rfl):
  PI X tg (.Call (.Name "range" p) [a,b] [] pos) (FR ta):=by
 intro pins s σ H R I h;refine Call_ (jC I N z boot_range (K4 (uZ (G pins s σ H _ I h) λO S U H1 M F n=>?_) (by rw [B,d]) (by rw [d];rfl)));let (i,j,e,(n,L,J,D),q):=n;subst e;cases F with
 | cons r rr=>
  cases rr with
  | cons r' rr=>
   cases rr;let (t,rfl):=r;let (W,rfl):=r';exact call_range_2 (wD y M n L J D q)
def IA (wi:TI) (g:TG) (tb:TS):TS:=λD σ H=>wi σ H λJ H1=>∃W:Nat->Nat->St->Hp->Prop,(∃m,W 0 m σ H1)/\∀i m σ H,W i m σ H ->
 (J.stop i H/\D.nx σ H)\/(J.go i H/\∃N:St->Hp->Prop,(∀ σ' H',N σ' H'->∃m',m'<m/\W (i+1) m' σ' H')/\∀x H',J.yld i H x H'->g x σ H' λσ2 H2=>tb { D with nx:=N,ct:=N,bk:=D.nx } σ2 H2)
def gN (fp:List Addr) (h:Heap):List (Addr × Obj):=fp.filterMap λb=>(h.get? b).map λo=>(b,o)
def fB {d:List Addr} {h:Heap} {b:Addr} {o:Obj} (i:b ∈ d) (e:h.get? b=some o):(b,o) ∈ gN d h:=G4.mpr {b,i,by rw [e];rfl}
def Fk {d:List Addr} {h:Heap} {p:Addr × Obj} (j:p ∈ gN d h):p.1 ∈ d/\h.get? p.1=some p.2:=by
 let (b,i,e):=G4.mp j;cases q:h.get? b with
 | none=>rw [q] at e;cases e
 | some o=>
  rw [q] at e;let n:(b,o)=p:=Option.some.inj e;subst n;exact {(i),q}
def aO.pinned {pins:List (Addr × Obj)} {σ:St} {H:Hp} {s:Shared} {i:List Addr} (I:aO X pins σ H s) (q:∀b ∈ i,lP X pins H b) (G:∀b ∈ i,∃o,s.heap.get? b=some o/\∀v,o.data≠.cell v):aO X (pins++gN i s.heap) σ H s:=
 I.pins_of λp D=>(j1.mp D).elim (λz=>I.pin p (j3 _ z)) λz=>by
  let (n,e):=Fk z
  let (y,F,B,_):=q p.1 n
  let (o,j,d):=G p.1 n
  rw [e] at j;cases j
  exact {(e),y,F,B,d}
def aO.unpinned {pins pl:List (Addr × Obj)} {σ:St} {H:Hp} {s:Shared} (I:aO X (pins++pl) σ H s):aO X pins σ H s:=I.pins_of λp d=>I.pin p (j3 _ (A4 _ d))
def eJ {L:Expr} {M:List Stmt} {wi:TI} {g:TG} {tb:TS} {pos:Pos} (hp:PassesOwn (model X.prog X.w) X.A X.env X.xe) (hc:X.calm=true) (hi:PI X tg L wi) (hg:PG X tg g) (G:qX X M tb)
  (hs:∀x,foldedSetIterable L X.env x=pure x:=by intro _;rfl):PS X (.For tg L M [] pos) (IA wi g tb):=by
 intro pins s σ H D I h;refine wpAny_For (gM (hi s σ H _ I h) λv s1 h1=>gM h1 λa6 s2 h2=>?_) hs;let (it,fp,tn,J,H2,e,I2,T,a5,f2,W,(m0,w0),a2):=h2;subst e;let z:∀{H':Hp},(∀b ∈ fp,H' b=none)->∀b ∈ fp,lP X pins H' b:=λhn b G=>{hn b G,(f2 b G).2};refine codeAny_forLoop_any (λn s'=>∃i Z H',aO X pins Z H' s'/\tn i s'.heap/\(∀b ∈ fp,H' b=none)/\W i n Z H') ?_ m0 {0,σ,H2,I2,a5,λb G=>(f2 b G).1,w0};rintro n s3 ⟨i,σ3,H3,I3,a1,Y,w3⟩;rcases a2 i n σ3 H3 w3 with ⟨U,qn⟩|⟨go,N,hN,a0⟩
 ·refine E8 hp (gM (T.done X rfl rfl rfl rfl i pins s3 σ3 H3 X.xe I3 (z Y) a1 U) λr s4 j=>?_);let (hr,I4):=j;subst hr;exact L7 {(σ3),H3,I4,qn}
 ·refine E8 hp (gM (T.item X rfl rfl rfl rfl i pins s3 σ3 H3 X.xe I3 (z Y) a1 go) λr s4 j=>?_);let (u,hr,h4):=j;subst hr;refine E8 hp (gM h4 λ_ s5 j=>?_);let (x,H5,I5,r5,y5,S,a3):=j;let a4:=I5.pinned (z a3) (T.obj _ _ S);refine E8 hp (gM (hg s5 σ3 H5 x u _ a4 r5 (a0 x H5 y5)) λ_ s6 j=>?_);let (σ6,H6,I6,q6):=j;refine E8 hp (gM (G s6 σ6 H6 _ I6 q6) λf s7 O=>?_);let y:∀{F:St} {B:Hp},aO X (pins++gN fp s5.heap) F B s7->N F B->∃m,m<n/\∃i Z H',aO X pins Z H' s7/\tn i s7.heap/\(∀b ∈ fp,H' b=none)/\W i m Z H':=λ{F B} q n7=>by
   let (m',hm,w7):=hN F B n7;refine {m',hm,i+1,F,B,q.unpinned,T.keep _ _ _ S λb G o e=>(q.pin (b,o) (j3 _ (j3 _ (fB G e)))).1,λb G=>?_,w7};let (o,e,d):=T.obj _ _ S b G;exact(q.pin (b,o) (j3 _ (j3 _ (fB G e)))).2.1
  cases f with
  | next=>let (F,B,q,n7):=O;exact y q n7
  | cont=>let (F,B,q,n7):=O;exact y q n7
  | brk=>let (F,B,q,O):=O;exact {(F),B,q.unpinned,O}
  | ret v=>let (x7,F,B,q,r7,O):=O;exact {(x7),F,B,q.unpinned,r7,O}
end
def lM {K:PySem.W.Frag} {a:Addr} {xs:List V} {g:TG} {tb:TS} {D:eK} {σ:St} {H:Hp} (d:Nat->St->Hp->Prop) (I:d 0 σ H) (L:∀i σ H,i<=xs.length->d i σ H->dD K H a xs)
  (F:∀i x σ H,xs[i]?=some x->d i σ H->g x σ H λn H2=>tb { D with nx:=d (i+1),ct:=d (i+1),bk:=D.nx } n H2) (G:∀ σ H,d xs.length σ H->D.nx σ H):
  ∃W:Nat->Nat->St->Hp->Prop,(∃m,W 0 m σ H)/\∀i m σ H,W i m σ H ->
   ((Hl K a).stop i H/\D.nx σ H)\/((Hl K a).go i H/\∃N:St->Hp->Prop,(∀z H',N z H'->∃B,B<m/\W (i+1) B z H')/\∀x H',(Hl K a).yld i H x H'->g x σ H' λn H2=>tb { D with nx:=N,ct:=N,bk:=D.nx } n H2):=by
 refine {λi m σ H=>m=xs.length-i/\i<=xs.length/\d i σ H,{xs.length,by simp,i5 _,I},?_};rintro i m σ H ⟨rfl,hi,p⟩;let q:=L i σ H hi p;by_cases j:i<xs.length
 ·refine .inr {{xs,xs[i],q,by simp [j]},d (i+1),λz H' J=>{xs.length-(i+1),∎,rfl,j,J},λx H' y=>?_};let (e,y):=y;subst e;exact F i x σ _ (y xs q) p
 ·let e:i=xs.length:=∎;subst e;exact .inl {{xs,q,c9 _},G σ H p}
def lL {K:PySem.W.Frag} {a:Addr} {xs:List V} {g:TG} {tb:TS} {D:eK} {σ:St} {H:Hp} (d:Nat->St->Hp->Prop) (I:d 0 σ H) (L:∀i σ H,i<=xs.length->d i σ H->cA K H a xs)
  (F:∀i x σ H,xs[i]?=some x->d i σ H->g x σ H λn H2=>tb { D with nx:=d (i+1),ct:=d (i+1),bk:=D.nx } n H2) (G:∀ σ H,d xs.length σ H->D.nx σ H):
  ∃W:Nat->Nat->St->Hp->Prop,(∃m,W 0 m σ H)/\∀i m σ H,W i m σ H ->
   ((Vu K a).stop i H/\D.nx σ H)\/((Vu K a).go i H/\∃N:St->Hp->Prop,(∀z H',N z H'->∃B,B<m/\W (i+1) B z H')/\∀x H',(Vu K a).yld i H x H'->g x σ H' λn H2=>tb { D with nx:=N,ct:=N,bk:=D.nx } n H2):=by
 refine {λi m σ H=>m=xs.length-i/\i<=xs.length/\d i σ H,{xs.length,by simp,i5 _,I},?_};rintro i m σ H ⟨rfl,hi,p⟩;let q:=L i σ H hi p;by_cases j:i<xs.length
 ·refine .inr {{xs,xs[i],q,by simp [j]},d (i+1),λz H' J=>{xs.length-(i+1),∎,rfl,j,J},λx H' y=>?_};let (e,y):=y;subst e;exact F i x σ _ (y xs q) p
 ·let e:i=xs.length:=∎;subst e;exact .inl {{xs,q,c9 _},G σ H p}
def jW {lo:Int} {n:Nat} {g:TG} {tb:TS} {D:eK} {σ:St} {H:Hp} (d:Nat->St->Hp->Prop) (I:d 0 σ H)
  (F:∀i σ H,i<n->d i σ H->g (.int (lo+i)) σ H λq H2=>tb { D with nx:=d (i+1),ct:=d (i+1),bk:=D.nx } q H2) (G:∀ σ H,d n σ H->D.nx σ H):
  ∃W:Nat->Nat->St->Hp->Prop,(∃m,W 0 m σ H)/\∀i m σ H,W i m σ H ->
   ((BW lo n).stop i H/\D.nx σ H)\/((BW lo n).go i H/\∃N:St->Hp->Prop,(∀z H',N z H'->∃B,B<m/\W (i+1) B z H')/\∀x H',(BW lo n).yld i H x H'->g x σ H' λq H2=>tb { D with nx:=N,ct:=N,bk:=D.nx } q H2):=by
 refine {λi m σ H=>m=n-i/\i<=n/\d i σ H,{n,by simp,i5 _,I},?_};rintro i m σ H ⟨rfl,hi,p⟩;by_cases j:i<n
 ·refine .inr {j,d (i+1),λz H' J=>{n-(i+1),∎,rfl,j,J},λx H' y=>?_};let (e,y):=y;subst e y;exact F i σ _ j p
 ·let e:i=n:=∎;subst e;exact .inl {c9 _,G σ H p}
abbrev R2:=V->V->Hp->VK->Prop
def kM (X:Cx) (f:Value->Value->Sem Value) (r:R2):Prop:=
 ∀(pins:List (Addr × Obj)) (s:Shared) (σ:St) (H:Hp) (x y:V) (v u:Value) (Q:VK),aO X pins σ H s->bJ x v->bJ y u->r x y H Q ->
  wpAny (model X.prog X.w) X.A (f v u) (EP X pins σ Q) X.xe s
def JK (X:Cx) (f:Value->Sem Value) (r:V->Hp->VK->Prop):Prop:=
 ∀(pins:List (Addr × Obj)) (s:Shared) (σ:St) (H:Hp) (x:V) (v:Value) (Q:VK),aO X pins σ H s->bJ x v->r x H Q ->
  wpAny (model X.prog X.w) X.A (f v) (EP X pins σ Q) X.xe s
def fP (X:Cx) (f:Value) (r:List V->Hp->VK->Prop):Prop:=
 ∀(pins:List (Addr × Obj)) (s:Shared) (σ:St) (H:Hp) (xs:List V) (us:List Value) (Q:VK),aO X pins σ H s->bG xs us->r xs H Q ->
  wpAny (model X.prog X.w) X.A (call f us) (EP X pins σ Q) X.xe s
def JL (X:Cx) (r:V->Hp->(Bool->Hp->Prop)->Prop):Prop:=
 ∀(pins:List (Addr × Obj)) (s:Shared) (σ:St) (H:Hp) (x:V) (v:Value) (Q:Bool->Hp->Prop),aO X pins σ H s->bJ x v->r x H Q ->
  wpAny (model X.prog X.w) X.A (truthy v) (TP X pins σ Q) X.xe s
def Qe (r:R2) (ta tb:TE):TE:=λσ H Q=>ta σ H λx H1=>tb σ H1 λy H2=>r x y H2 Q
def JT (r:V->Hp->VK->Prop) (ta:TE):TE:=λσ H Q=>ta σ H λx H1=>r x H1 Q
inductive JQ (C:Int->Int->Prop) (g:Int->Int->V) (x y:V) (H:Hp) (Q:VK):Prop|mk (i:_) (j:_) (_:x=.int i) (_:y=.int j) (_:C i j) (_:Q (g i j) H)
def rI (C:Int->Int->Prop) (g:Int->Int->V):R2:=λx y H Q=>JQ C g x y H Q
inductive GZ (g:Int->Int->V) (x y:V) (H:Hp) (Q:VK):Prop|mk (i:_) (j:_) (_:x=.int i) (_:y=.int j) (_:Q (g i j) H)
def Sd (g:Int->Int->V):R2:=λx y H Q=>GZ g x y H Q
def rU (g:Int->V):V->Hp->VK->Prop:=λx H Q=>∃i,x=.int i/\Q (g i) H
section
variable {X:Cx} {a b c:Expr} {ta tb tc:TE} {pos:Pos}
def BI (G:PE X a ta) (z:PE X b tb) {pins:List (Addr × Obj)} {s:Shared} {σ:St} {H:Hp} {R:V->V->Hp->Prop} (I:aO X pins σ H s)
  (h:ta σ H λx H1=>tb σ H1 λy H2=>R x y H2) {Q:Value->Shared->Prop} {f:Value->Value->Sem Value}
  (n:∀v u d x y H2,aO X pins σ H2 d->bJ x v->bJ y u->R x y H2->wpAny (model X.prog X.w) X.A (f v u) Q X.xe d):
  wpAny (model X.prog X.w) X.A (eval a X.env) (λv i=>wpAny (model X.prog X.w) X.A (eval b X.env) (λu J=>wpAny (model X.prog X.w) X.A (f v u) Q X.xe J) X.xe i) X.xe s:=by
 refine eY (G s σ H _ I h) λv j x H1 M D F=>?_;refine eY (z j σ H1 _ M F) λu d y H2 q B L=>?_;exact n v u d x y H2 q D B L
def cI {op:Operator} {r:R2} (B:kM X (binaryOp op) r) (n:PE X a ta) (j:PE X b tb):PE X (.BinOp a op b pos) (Qe r ta tb):=by
 intro pins s σ H Q I h;exact wpAny_BinOp (BI n j I h λv u d x y H2 i z D q=>B pins d σ H2 x y v u Q i z D q)
def Xc {op:UnaryOp} {r:V->Hp->VK->Prop} (q:JK X (unaryOp op) r) (n:PE X a ta):PE X (.UnaryOp op a pos) (JT r ta):=by
 intro pins s σ H Q I h;exact UnaryOp_ (eY (n s σ H _ I h) λv d x H1 y i j=>q pins d σ H1 x v Q y i j)
def FA {f:Value->Value->Sem Value} {C:Int->Int->Prop} {g:Int->Int->Int}
  (d:∀(i j:Int) (t u:Tok) (s:Shared) (Q:Value->Shared->Prop) (E:Value->Shared->Prop),C i j->Q (.int (g i j) s.toks) { s with toks:=s.toks+1 }->wpAny (model X.prog X.w) X.A (f (.int i t) (.int j u)) Q E s):
  kM X f (rI C λi j=>.int (g i j)):=by
 intro pins s σ H x y v u Q I n D h;let (i,j,rfl,rfl,z,q):=h;let (t,rfl):=n;let (B,rfl):=D;exact d i j t B s _ _ z {.int (g i j),H,I.tok _,{_,rfl},q}
def EZ {f:Value->Value->Sem Value} {g:Int->Int->Int}
  (d:∀(i j:Int) (t u:Tok) (s:Shared) (Q:Value->Shared->Prop) (E:Value->Shared->Prop),Q (.int (g i j) s.toks) { s with toks:=s.toks+1 }->wpAny (model X.prog X.w) X.A (f (.int i t) (.int j u)) Q E s):
  kM X f (Sd λi j=>.int (g i j)):=by
 intro pins s σ H x y v u Q I z n h;let (i,j,rfl,rfl,q):=h;let (t,rfl):=z;let (B,rfl):=n;exact d i j t B s _ _ {.int (g i j),H,I.tok _,{_,rfl},q}
def Ss {f:Value->Value->Sem Value} {g:Int->Int->Bool}
  (d:∀(i j:Int) (t u:Tok) (s:Shared) (Q:Value->Shared->Prop) (E:Value->Shared->Prop),Q (.bool (g i j)) s->wpAny (model X.prog X.w) X.A (f (.int i t) (.int j u)) Q E s):
  kM X f (Sd λi j=>.bl (g i j)):=by
 intro pins s σ H x y v u Q I z n h;let (i,j,rfl,rfl,q):=h;let (t,rfl):=z;let (B,rfl):=n;exact d i j t B s _ _ {.bl (g i j),H,I,rfl,q}
def JR (i j:Int):Prop:=0<j/\j<1073741824
def HB (i j:Int):Prop:=0<=j/\j<=1000000/\i.natAbs<2 ^ 64
def Hi (i j:Int):Prop:=(-(2 ^ 64)<i/\i<2 ^ 64)\/(-(2 ^ 64)<j/\j<2 ^ 64)
def Hi.ok {i j:Int} (h:Hi i j):IntMulOk i j:=by
 rcases h with ⟨h1,h2⟩|⟨h1,h2⟩
 ·exact .of_left (intBits_le_64 h1 h2)
 ·exact .of_right (intBits_le_64 h1 h2)
def eR:kM X (binaryOp .Add) (Sd λi j=>.int (i+j)):=EZ λ_ _ _ _ _ _ _ q=>add_int q
def mD:kM X (binaryOp .Sub) (Sd λi j=>.int (i-j)):=EZ λ_ _ _ _ _ _ _ q=>sub_int q
def zJ:kM X (binaryOp .Mult) (rI Hi λi j=>.int (i * j)):=FA λ_ _ _ _ _ _ _ d q=>mul_int q d.ok
def Sq:kM X (binaryOp .FloorDiv) (rI JR λi j=>.int (i / j)):=FA λi j _ _ _ _ _ d q=>by
 have h1:(0:Int)<j:=d.1
 have h2:j<1073741824:=d.2
 exact floordiv_int ∎ (by rw [Int.fdiv_eq_ediv_of_nonneg i ∎];exact q) (.inl (PyProof.noPylong_small ∎))
def iY:kM X (binaryOp .Mod) (rI (λ_ j=>0<j) λi j=>.int (i % j)):=FA λi j _ _ _ _ _ d q=>by
 have h1:(0:Int)<j:=d
 exact mod_int' ∎ (by rw [Int.fmod_eq_emod_of_nonneg i ∎];exact q)
def Zz:kM X (binaryOp .Pow) (rI HB λi j=>.int (i ^ j.toNat)):=FA λ_ _ _ _ _ _ _ d q=>pow_int_small d.1 d.2.1 d.2.2 q
def KQ {f:Value->Sem Value} {g:Int->Int}
  (d:∀(i:Int) (t:Tok) (s:Shared) (Q:Value->Shared->Prop) (E:Value->Shared->Prop),Q (.int (g i) s.toks) { s with toks:=s.toks+1 }->wpAny (model X.prog X.w) X.A (f (.int i t)) Q E s):
  JK X f (rU λi=>.int (g i)):=by
 intro pins s σ H x v Q I j h;let (i,rfl,q):=h;let (t,rfl):=j;exact d i t s _ _ {.int (g i),H,I.tok _,{_,rfl},q}
def Hx:JK X (unaryOp .USub) (rU λi=>.int (-i)):=KQ λ_ _ _ _ _ q=>neg_int q
def Rj:V->V->Bool
 | .non,.non=>true | .non,.int _=>true | .int _,.non=>true | .non,.bl _=>true | .bl _,.non=>true | .non,.str _=>true | .str _,.non=>true
 | .int _,.int _=>true | .bl _,.bl _=>true | .str _,.str _=>true | .byt _,.byt _=>true
 | .int _,.str _=>true | .str _,.int _=>true | .bl _,.str _=>true | .str _,.bl _=>true
 | _,_=>false
def KR:R2:=λx y H Q=>Rj x y=true/\Q (.bl (decide (x=y))) H
def JW:R2:=λx y H Q=>Rj x y=true/\Q (.bl (!decide (x=y))) H
def oD {i j:Int}:decide (V.int i=V.int j)=(i == j):=by
 rw [E9];simp
def Oi {i j:Bool}:decide (V.bl i=V.bl j)=(i == j):=by
 rw [E9];simp
def Du {i j:Str}:decide (V.str i=V.str j)=(i == j):=by
 rw [E9];simp
def Dv {i j:Array UInt8}:decide (V.byt i=V.byt j)=(i.toList == j.toList):=by
 rw [E9];cases i;cases j;simp
def bU {pins:List (Addr × Obj)} {σ:St} {H:Hp} {s:Shared} {Q:VK} {k k':Bool} (I:aO X pins σ H s) (q:Q (.bl k) H) (e:k=k'):EP X pins σ Q (.bool k') s:=by
 subst e;exact {.bl k,H,I,rfl,q}
def wM:kM X (compareOp .Eq) KR:=by
 intro pins s σ H x y v u Q I B d h;let (z,q):=h;cases x with
 | non=>
  cases B;cases y with
  | non=>cases d;exact PySem.EqNone.eq_none_none (bU I q (by simp))
  | bl j=>cases d;exact PySem.EqNone.eq_none_bool (bU I q (by simp))
  | int j=>let (n,rfl):=d;exact PySem.EqNone.eq_none_int (bU I q (by simp))
  | str j=>let (n,rfl):=d;exact PySem.EqNone.eq_none_str (bU I q (by simp))
  | _=>exact absurd (show false=true from z) q8
 | bl i=>
  cases B;cases y with
  | non=>cases d;exact PySem.EqNone.eq_bool_none (bU I q (by simp))
  | bl j=>cases d;exact eq_bool (bU I q Oi)
  | str j=>let (n,rfl):=d;exact PySem.EqMixed.eq_bool_str (bU I q (by simp))
  | _=>exact absurd (show false=true from z) q8
 | int i=>
  let (t,rfl):=B;cases y with
  | non=>cases d;exact PySem.EqNone.eq_int_none (bU I q (by simp))
  | int j=>let (n,rfl):=d;exact eq_int (bU I q oD)
  | str j=>let (n,rfl):=d;exact PySem.EqMixed.eq_int_str (bU I q (by simp))
  | _=>exact absurd (show false=true from z) q8
 | str i=>
  let (t,rfl):=B;cases y with
  | non=>cases d;exact PySem.EqNone.eq_str_none (bU I q (by simp))
  | bl j=>cases d;exact PySem.EqMixed.eq_str_bool (bU I q (by simp))
  | int j=>let (n,rfl):=d;exact PySem.EqMixed.eq_str_int (bU I q (by simp))
  | str j=>let (n,rfl):=d;exact eq_str (bU I q Du)
  | _=>exact absurd (show false=true from z) q8
 | byt i=>
  let (t,rfl):=B;cases y with
  | byt j=>let (n,rfl):=d;exact PySem.W.eq_bytes (bU I q Dv)
  | _=>exact absurd (show false=true from z) q8
 | _=>cases y <;> exact absurd (show false=true from z) q8
def sC:kM X (compareOp .NotEq) JW:=by
 intro pins s σ H x y v u Q I B d h;let (z,q):=h;cases x with
 | non=>
  cases B;cases y with
  | non=>cases d;exact PySem.EqNone.ne_none_none (bU I q (by simp))
  | bl j=>cases d;exact PySem.EqNone.ne_none_bool (bU I q (by simp))
  | int j=>let (n,rfl):=d;exact PySem.EqNone.ne_none_int (bU I q (by simp))
  | str j=>let (n,rfl):=d;exact PySem.EqNone.ne_none_str (bU I q (by simp))
  | _=>exact absurd (show false=true from z) q8
 | bl i=>
  cases B;cases y with
  | non=>cases d;exact PySem.EqNone.ne_bool_none (bU I q (by simp))
  | bl j=>cases d;exact ne_bool (bU I q (congrArg not Oi))
  | str j=>let (n,rfl):=d;exact PySem.EqMixed.ne_bool_str (bU I q (by simp))
  | _=>exact absurd (show false=true from z) q8
 | int i=>
  let (t,rfl):=B;cases y with
  | non=>cases d;exact PySem.EqNone.ne_int_none (bU I q (by simp))
  | int j=>let (n,rfl):=d;exact ne_int (bU I q (congrArg not oD))
  | str j=>let (n,rfl):=d;exact PySem.EqMixed.ne_int_str (bU I q (by simp))
  | _=>exact absurd (show false=true from z) q8
 | str i=>
  let (t,rfl):=B;cases y with
  | non=>cases d;exact PySem.EqNone.ne_str_none (bU I q (by simp))
  | bl j=>cases d;exact PySem.EqMixed.ne_str_bool (bU I q (by simp))
  | int j=>let (n,rfl):=d;exact PySem.EqMixed.ne_str_int (bU I q (by simp))
  | str j=>let (n,rfl):=d;exact ne_str (bU I q (congrArg not Du))
  | _=>exact absurd (show false=true from z) q8
 | byt i=>
  let (t,rfl):=B;cases y with
  | byt j=>let (n,rfl):=d;exact PySem.W.ne_bytes (bU I q (congrArg not Dv))
  | _=>exact absurd (show false=true from z) q8
 | _=>cases y <;> exact absurd (show false=true from z) q8
def iJ:kM X (compareOp .Lt) (Sd λi j=>.bl (decide (i<j))):=Ss λ_ _ _ _ _ _ _ q=>lt_int q
def fO:kM X (compareOp .LtE) (Sd λi j=>.bl (decide (i<=j))):=Ss λ_ _ _ _ _ _ _ q=>le_int q
def Lv:kM X (compareOp .Gt) (Sd λi j=>.bl (decide (j<i))):=Ss λ_ _ _ _ _ _ _ q=>gt_int q
def Xd:kM X (compareOp .GtE) (Sd λi j=>.bl (decide (j<=i))):=Ss λ_ _ _ _ _ _ _ q=>ge_int q
def Lu:kM X (compareOp .Is) (λx y H Q=>y=.non/\Q (.bl (decide (x=.non))) H):=by
 intro pins s σ H x y v u Q I d i h;let (rfl,q):=h;cases i;refine is_none_gen (bU I q ?_);cases x <;> first
  | (cases d;rfl)
  | (let (t,rfl):=d;rfl)
def nZ:kM X (compareOp .IsNot) (λx y H Q=>y=.non/\Q (.bl (!decide (x=.non))) H):=by
 intro pins s σ H x y v u Q I d i h;let (rfl,q):=h;cases i;refine isnot_none_gen (bU I q ?_);cases x <;> first
  | (cases d;rfl)
  | (let (t,rfl):=d;rfl)
def bO (b:Expr) {op:CmpOp} (h:op≠.In:=by decide) (h2:op≠.NotIn:=by decide):behindInMarks op b=false:=by
 let i:(op == CmpOp.In)=false:=by cases op <;> first|rfl|exact absurd rfl h
 let d:(op == CmpOp.NotIn)=false:=by cases op <;> first|rfl|exact absurd rfl h2
 cases b <;> simp [behindInMarks,i,d]
def dF {op:CmpOp} {r:R2} (D:kM X (compareOp op) r) (z:PE X a ta) (n:PE X b tb) (i:behindInMarks op b=false):PE X (.Compare a [op] [b] pos) (Qe r ta tb):=by
 intro pins s σ H Q I h;exact wpAny_Compare1 (BI z n I h λv u d x y H2 j B F q=>D pins d σ H2 x y v u Q j B F q) i
inductive Vv (x:V) (H':Hp) (Q:Bool->Hp->Prop):Prop|mk (k:_) (_:x=.bl k) (_:Q k H')
def Ic (t:TE):TT:=λσ H Q=>t σ H λx H'=>Vv x H' Q
def cH {op:CmpOp} {r:R2} (N:kM X (compareOp op) r) (J:PE X a ta) (B:PE X b tb) (i:behindInMarks op b=false):PT X (.Compare a [op] [b] pos) (Ic (Qe r ta tb)):=by
 intro pins s σ H Q I h;refine wpAny_isTrue_Compare1 (eY (J s σ H _ I h) λv j x H1 O G F=>eY (B j σ H1 _ O F) λu d y H2 q D M=>
  eY (N pins d σ H2 x y v u _ q G D M) λc U z S L n ⟨k,e,q3⟩=>?_) i;subst e;cases n;exact A8 {(S),L,q3}
def Ih (r r':R2) (ta tb tc:TE):TE:=λσ H Q=>ta σ H λx H1=>tb σ H1 λy H2=>r x y H2 λz H3=>∃k,z=.bl k /\
 (if k=true then tc σ H3 λw' H4=>r' y w' H4 Q else Q (.bl false) H3)
def wI {op i:CmpOp} {r r':R2} (ho:kM X (compareOp op) r) (j:kM X (compareOp i) r') (Y:PE X a ta) (hb:PE X b tb) (N:PE X c tc)
  (F:lastMarks [op,i] [b,c]=false:=by with_unfolding_all rfl):PE X (.Compare a [op,i] [b,c] pos) (Ih r r' ta tb tc):=by
 intro pins s σ H Q I h;refine Compare_chain (eY (Y s σ H _ I h) λv J x H1 S r1 G=>chain_link (eY (hb J σ H1 _ S G) λu D y H2 I2 n q2=>
  eY (ho pins D σ H2 x y v u _ I2 r1 n q2) λd U z B q L ⟨k,e,q3⟩=>?_)) F;subst e;cases L;refine A8 ?_;cases k with
 | false=>exact ite_ff {.bl false,B,q,rfl,q3}
 | true=>exact ite_tt (chain_last (eY (N U σ B _ q q3) λw' O z' M I4 Z W=>j pins O σ M y z' u w' Q I4 n Z W))
def iW {op i:CmpOp} {r r':R2} (ho:kM X (compareOp op) r) (j:kM X (compareOp i) r') (ha:PE X a ta) (hb:PE X b tb) (Z:PE X c tc)
  (G:lastMarks [op,i] [b,c]=false:=by with_unfolding_all rfl):PT X (.Compare a [op,i] [b,c] pos) (Ic (Ih r r' ta tb tc)):=by
 intro pins s σ H Q I h;refine isTrue_chain (eY (ha s σ H _ I h) λv U x H1 I1 r1 M=>test_link (eY (hb U σ H1 _ I1 M) λu F y H2 I2 q q2=>
  eY (ho pins F σ H2 x y v u _ I2 r1 q q2) λd s3 z D B W ⟨k,e,q3⟩=>?_)) G;subst e;cases W;refine A8 ?_;cases k with
 | false=>
  let (k',J,S):=q3;cases J;exact ite_ff {(D),B,S}
 | true=>
  refine ite_tt (test_last (eY (Z s3 σ D _ B q3) λw' s4 z' Y I4 r4 q4=>eY (j pins s4 σ Y y z' u w' _ I4 q r4 q4) λd' s5 z2 O I5 r5 n=>?_));let (k2,L,N):=n;subst L;cases r5;exact A8 {(O),I5,N}
def BK (K:PySem.W.Frag) (x:V) (H:Hp) (k:Bool):Prop:=
 match x with
 | .non=>k=false
 | .bl b=>k=b
 | .int i=>k=(i != 0)
 | .str y=>y.length<=sizeLine/\k=((y.length:Int) != 0)
 | .byt y=>y.size<=sizeLine/\k=((y.size:Int) != 0)
 | .ref p=>(∃xs,dD K H p xs/\k=!xs.isEmpty)\/(∃xs,cA K H p xs/\k=!xs.isEmpty)\/∃kvs,H p=some (.dK kvs)/\k=!kvs.isEmpty
 | _=>False
def zY {κ:Type} {kvs:List (κ × V)} {vs:List (κ × Value)} (r:KV kvs vs):(!vs.isEmpty)=!kvs.isEmpty:=by
 cases r <;> rfl
def pX {xs:List V} {its:List Value} (r:bG xs its):(!its.toArray.isEmpty)=!xs.isEmpty:=by
 cases r <;> simp
def mE:(sizeLine:Nat)<2 ^ 63:=by rw [sizeLine_eq];decide
def Xs:JL X (λx H Q=>∃k,BK X.K x H k/\Q k H):=by
 intro pins s σ H x v Q I rx h;let (k,e,q):=h;let hl:=mE;let hs:sizeLine=16777216:=sizeLine_eq;cases x with
 | non=>
  cases rx;let e':k=false:=e;subst e';exact truthy_none {(H),I,q}
 | bl b=>
  cases rx;let e':k=b:=e;subst e';exact A8 {(H),I,q}
 | int i=>
  let (t,rfl):=rx;let e':k=(i != 0):=e;subst e';exact PySem.P.truthy_int {(H),I,q}
 | str y=>
  let (t,rfl):=rx;obtain⟨hy,e'⟩:y.length<=sizeLine/\k=((y.length:Int) != 0):=e;subst e';exact PySem.P.truthy_str ∎ {H,I.tok _,q}
 | byt y=>
  let (t,rfl):=rx;obtain⟨hy,e'⟩:y.size<=sizeLine/\k=((y.size:Int) != 0):=e;subst e';exact PySem.W.truthy_bytes ∎ {H,I.tok _,q}
 | ref p=>
  cases rx;let e':(∃xs,dD X.K H p xs/\k=!xs.isEmpty)\/(∃xs,cA X.K H p xs/\k=!xs.isEmpty)\/∃kvs,H p=some (.dK kvs)/\k=!kvs.isEmpty:=e;rcases e' with ⟨xs,hx,e'⟩|⟨xs,hx,e'⟩|⟨kvs,hx,e'⟩
  ·subst e';let (its,r,pl,hz):=I.list hx;let hlen:=r.length;exact wpAny_truthy_list pl.isList (by simp only [j6];omega) {H,I.tok _,by rw [pX r];exact q}
  ·subst e';let (its,r,pl,hz):=I.tuple hx;let hlen:=r.length;exact truthy_tuple pl (by simp only [j6];omega) {H,I.tok _,by rw [pX r];exact q}
  ·subst e';obtain⟨hz,hS,vs,r,m⟩:kvs.length<=sizeLine/\(p == sysModules)=false/\∃vs,KV kvs vs/\s.heap.DictOf (cK X.prog X.w) p vs:=I.hok p _ hx;let hlen:kvs.length=vs.length:=Paired.length r;exact wpAny_truthy_dict hS m ∎ {H,I.tok _,by rw [zY r];exact q}
 | _=>exact(show False from e).elim
def hH (q:PE X a ta) (y:∀d,isTrue a X.env d=(do let v <- d;standAt a.pos;holding [v] (truthy v))):
  PT X a (λσ H Q=>ta σ H λx H'=>∃k,BK X.K x H' k/\Q k H'):=by
 intro pins s σ H Q I h;exact isTrue_plain (eY (q s σ H _ I h) λv i x H1 z j n=>Xs pins i σ H1 x v Q z j n) (y _)
def iT {x:V} {us:List Value} (r:bG [x] us):∃u,us=[u]/\bJ x u:=by
 cases r with
 | cons r1 r2=>cases r2;exact {_,rfl,r1}
def Hv {x y:V} {us:List Value} (r:bG [x,y] us):∃u d,us=[u,d]/\bJ x u/\bJ y d:=by
 cases r with
 | cons r1 r2=>
  cases r2 with
  | cons r3 r4=>cases r4;exact {_,_,rfl,r1,r3}
def Gw (n:X.calm=true):fP X (.builtin "max") (λxs H Q=>∃i j,xs=[.int i,.int j]/\Q (.int (if j > i then j else i)) H):=by
 intro pins s σ H xs y Q I r h;let (i,j,rfl,q):=h;let (u,z,rfl,(t,rfl),(B,rfl)):=Hv r;refine max_two_ints (I.ok.hd n) λh' tk k=>{_,H,I.kept k,?_,q};by_cases d:j > i
 ·rw [if_pos d,if_pos d];exact {_,rfl}
 ·rw [if_neg d,if_neg d];exact {_,rfl}
end
structure Aw (h:Heap) (x dx C:Addr) (mA:Str->Option Value):Prop where
 obj:h.get? x=some (PySem.W.instObj C dx)
 ns:h.Ns1 dx mA
 ne:dx≠x
def Fq {h:Heap} {dx:Addr} {mA:Str->Option Value} (n:h.Ns1 dx mA):∃od,h.get? dx=some od/\∀name,PySem.W.lookIn name od=some (mA name):=by
 let (o,es,ep,ho,hd,hk,_,hm):=n;refine {o,ho,λname=>?_};let e:=hm name;unfold nsFind findBy at e;rw [<- Array.find?_toList] at e;unfold PySem.W.lookIn;rw [hd];dsimp only
 split
 ·rename_i y q;rw [q] at e;exact congrArg some e
 ·rename_i q;rw [q] at e;let a:es.toList.any (·.refKey)=false:=by
   rw [List.any_eq_false];intro y hy;let (z,t,hkey):=hk y (Array.mem_toList_iff.mp hy);simp [DictEntry.refKey,hkey]
  let a':¬ es.toList.any (·.refKey)=true:=by rw [a];exact q8
  rw [if_neg a'];exact congrArg some e
def Aw.look {h:Heap} {x dx C:Addr} {mA:Str->Option Value} (I:Aw h x dx C mA):∃d,PySem.W.InstAt h x (PySem.W.instObj C dx) C (some d)/\∀name,PySem.W.lookIn name d=some (mA name):=
 let ⟨d,ho,hl⟩:=Fq I.ns
 {d,{(I.obj),rfl,rfl,ho},hl}
section
variable {prog:Program} {w:World} {A:Around} {E:Value->Shared->Prop} {s:Shared} {K:PySem.W.Frag} {x dx C f:Addr} {mA:Str->Option Value} {name:Str} {v:Value}
def Ue {d:Bool} {Q:Value->Shared->Prop} (X:K.In s.heap) (I:Aw s.heap x dx C mA) (z:PySem.W.plainGet K C name=true) (q:PySem.W.hasDictIn K C=true)
  (j:PySem.W.findIn K (.ref C) name=some none) (n:mA name=some v) (i:PySem.W.handedIn v=true) (h:Q v { s with toks:=s.toks+1 }):
  wpAny (model prog w) A (getAttr (.ref x) name d) Q E s:=by
 let (B,J,y):=I.look;exact PySem.W.get_value X J (PySem.W.plainGet_of z).1 (PySem.W.findObj_own q j rfl (by rw [y,n])) i h
def Nt {pl:Sem Bool} {Q:Value × List Value->Shared->Prop} (X:K.In s.heap) (I:Aw s.heap x dx C mA) (d:PySem.W.plainGet K C name=true)
  (i:PySem.W.findIn K (.ref C) name=some (some (.ref f))) (y:PySem.W.isFn K (.ref f)=true) (q:mA name=none) (h:Q (.ref f,[.ref x]) s):
  wpAny (model prog w) A (getMethod (.ref x) name pl) Q E s:=by
 let (n,J,j):=I.look;exact PySem.W.method_fn X J (PySem.W.plainGet_of d).1 (PySem.W.plainGet_of d).2 i (beq_iff_eq.mp y) (by show (PySem.W.lookIn name n).map (·.isSome)=some false;rw [j,q];rfl) h
def Rg {ns:List Str} {Q:Unit->Shared->Prop} (X:K.In s.heap) (I:Aw s.heap x dx C mA)
  (F:PySem.W.findIn K (.ref C) "__setattr__"=some (some (.builtin "object.__setattr__"))) (O:PySem.W.plainOver K C=true) (S:PySem.W.takerIn K C name=some none) (B:PySem.W.hasDictIn K C=true)
  (L:PySem.Within mA ns) (hsz:ns.length<=sizeLine)
  (h:∀h',Aw h' x dx C (λy=>if y=name then some v else mA y)->Heap.SameBut dx s.heap h'->Q () { s with heap:=h',toks:=s.toks+2 }):
  wpAny (model prog w) A (setAttr (.ref x) name v) Q E s:=by
 let (od,J,U):=I.look;refine PySem.W.set_plain X J F (PySem.W.osa_open (s:={ s with toks:=s.toks+1 }) (r:=none) X J O S λb=>?_);let (Z,G,z):=PySem.W.any_some B;let M:s.heap.get? x=some {.ref C,some dx,.plain,#[]}:=I.obj;refine c6 (g9 (c6 (c6 (wpAny_loadPart M (c6 (PySem.W.Looks.here (s:={ s with toks:=s.toks+1 }) (PySem.W.looks_clsIn X G) ?_))))));rw [z];refine g9 (a:=some dx) (c6 (g9 (c6 ?_)));refine wpAny_nsSet1 (s:={ s with toks:=s.toks+1 }) I.ns λh' i d=>?_;let (Y,D,N,n,q,j):=i.count (PySem.Within.cons name v L);refine c6 (wpAny_lookBehind n (by rw [q];exact pastItsLine_dict (l7 j (by rw [j9];omega))) ?_);exact g9 (h _ {(d.2 _ (E2 I.ne)).trans I.obj,i,I.ne} d)
def Mt {R:Result->Shared->Prop} {vs:List Value} {kw:List (Str × Value)} (X:K.In s.heap) (j:PySem.W.makesIn K C=true)
  (hi:PySem.W.findIn K (.ref C) "__init__"=some (some (.ref f))) (n:PySem.W.typeIn K (.ref f)=some (.type "function"))
  (h:codeAny (model prog w) (A.under (.builtin "type.__call__" {.ref C::vs,kw})) (.call (.ref f) {.ref (s.heap.objs.size+1)::vs,kw}) (PySem.W.InitBack (s.heap.objs.size+1) R)
   { s with heap:=(s.heap.push PySem.W.emptyDict).push (PySem.W.instObj C s.heap.objs.size) }):
  codeAny (model prog w) A (.call (.ref C) {(vs),kw}) R s:=by
 let (q,g,d,t,y):=s;exact PySem.W.make_core (PySem.W.makes_of X j) (PySem.W.looks_findIn X hi) (λi=>PySem.W.bind_fn X i n) (.inl rfl) h
end
def cN (f:Str) (v:V):List (Str × V)->List (Str × V)
 | []=>[(f,v)]
 | (g,x)::r=>if g=f then(g,v)::r else(g,x)::cN f v r
theorem dS (f g:Str) (v:V):∀fs:List (Str × V),(cN f v fs).lookup g=if g=f then some v else fs.lookup g
 | []=>by
  show List.lookup g [(f,v)]=_
  by_cases h:g=f
  ·have d:(g == f)=true:=beq_iff_eq.mpr h
   simp only [List.lookup,d,if_pos h]
  ·have d:(g == f)=false:=beq_eq_false_iff_ne.mpr h
   simp only [List.lookup,d,if_neg h]
 | (k,x)::r=>by
  have j:=dS f g v r
  rw [show cN f v ((k,x)::r)=(if k=f then(k,v)::r else(k,x)::cN f v r) from rfl]
  by_cases i:k=f
  ·rw [if_pos i]
   by_cases h:g=k
   ·have d:(g == k)=true:=beq_iff_eq.mpr h
    simp only [List.lookup,d,if_pos (h.trans i)]
   ·have d:(g == k)=false:=beq_eq_false_iff_ne.mpr h
    simp only [List.lookup,d,if_neg (λe:g=f=>h (e.trans i.symm))]
  ·rw [if_neg i]
   by_cases h:g=k
   ·have d:(g == k)=true:=beq_iff_eq.mpr h
    simp only [List.lookup,d,if_neg (λe:g=f=>i (h.symm.trans e))]
   ·have d:(g == k)=false:=beq_eq_false_iff_ne.mpr h
    simp only [List.lookup,d]
    exact j
theorem mF (f:Str) (v:V):∀fs:List (Str × V),f ∈ (cN f v fs).map (·.1)/\∀g,g ∈ fs.map (·.1)->g ∈ (cN f v fs).map (·.1)
 | []=>{by simp [cN],λg h=>by simp at h}
 | (k,x)::r=>by
  let (i,j):=mF f v r
  rw [show cN f v ((k,x)::r)=(if k=f then(k,v)::r else(k,x)::cN f v r) from rfl]
  by_cases d:k=f
  ·rw [if_pos d]
   subst d
   exact {by simp,λg h=>by simpa using h}
  ·rw [if_neg d]
   refine {?_,λg h=>?_}
   ·rw [r6]
    exact d0 _ i
   ·rw [r6] at h ⊢
    rcases g8.mp h with e|e
    ·exact g8.mpr (.inl e)
    ·exact d0 _ (j g e)
theorem mQ (f:Str) (v:V):∀fs:List (Str × V),(cN f v fs).length<=fs.length+1
 | []=>by simp [cN]
 | (k,x)::r=>by
  have i:=mQ f v r
  rw [show cN f v ((k,x)::r)=(if k=f then(k,v)::r else(k,x)::cN f v r) from rfl]
  by_cases d:k=f
  ·rw [if_pos d,j9,j9];omega
  ·rw [if_neg d,j9,j9];omega
def iM.some_of {v:V} {o:Option Value} (r:iM (some v) o):∃u,o=some u/\bJ v u:=by
 cases o with
 | none=>exact(show False from r).elim
 | some u=>exact {(u),rfl,r}
def iM.none_of {o:Option Value} (r:iM none o):o=none:=by
 cases o with
 | none=>rfl
 | some u=>exact(show False from r).elim
def Ge {v:V} {u:Value} (r:bJ v u):PySem.W.handedIn u=true:=by
 cases v with
 | non=>cases (show u=Value.none from r);rfl
 | bl b=>cases (show u=Value.bool b from r);rfl
 | int i=>let (t,e):=(show ∃t,u=Value.int i t from r);cases e;rfl
 | str x=>let (t,e):=(show ∃t,u=Value.str x t from r);cases e;rfl
 | byt b=>let (t,e):=(show ∃t,u=Value.bytes b t from r);cases e;rfl
 | flt b=>let (t,e):=(show ∃t,u=Value.float b t from r);cases e;rfl
 | ref a=>cases (show u=Value.ref a from r);rfl
 | ty n=>cases (show u=Value.type n from r);rfl
section
variable {P:Program} {w:World} {H H':Hp} {h h':Heap} {a C dx:Addr} {fs fs':List (Str × V)}
def oB (i:kH P w H h) (e:H a=some (.ins C dx fs)):∃mA,Aw h a dx C mA/\(∀f,iM (fs.lookup f) (mA f))/\PySem.Within mA (fs.map (·.1))/\fs.length<=1000/\H dx=some (.own a):=by
 let (d,z,y,j,mA,n,r,q):=(show bL P w H h a (.ins C dx fs) from i a _ e);exact {mA,{(j),n,y},r,q,z,d}
end
structure oK (K:PySem.W.Frag) (C:Addr):Prop where
 pg:PySem.W.plainGet K C Str.empty=true
 hd:PySem.W.hasDictIn K C=true
 po:PySem.W.plainOver K C=true
 sa:PySem.W.findIn K (.ref C) "__setattr__"=some (some (.builtin "object.__setattr__"))
def oK.get {K:PySem.W.Frag} {C:Addr} (c:oK K C) (f:Str):PySem.W.plainGet K C f=true:=c.pg
def NoAttr (K:PySem.W.Frag) (C:Addr) (f:Str):Prop:=PySem.W.findIn K (.ref C) f=some none
def NoAttr.taker {K:PySem.W.Frag} {C:Addr} {f:Str} (n:NoAttr K C f):PySem.W.takerIn K C f=some none:=by
 unfold PySem.W.takerIn;rw [show PySem.W.findIn K (.ref C) f=some none from n];rfl
structure yG (K:PySem.W.Frag) (C:Addr) (m:Str) (f:Addr):Prop where
 at_:PySem.W.findIn K (.ref C) m=some (some (.ref f))
 fn:PySem.W.isFn K (.ref f)=true
 kp:PySem.W.keepIn K (.ref f)=true
section
variable {X:Cx} {pins:List (Addr × Obj)} {σ:St} {H:Hp} {s:Shared} {a C dx:Addr} {fs:List (Str × V)} {f:Str} {v:V} {A:Around} {E:Value->Shared->Prop}
def qA {b:Bool} {Q:Value->Shared->Prop} (I:aO X pins σ H s) (e:H a=some (.ins C dx fs)) (c:oK X.K C) (n:NoAttr X.K C f) (l:fs.lookup f=some v)
  (h:∀u s',aO X pins σ H s'->bJ v u->Q u s'):wpAny (model X.prog X.w) A (getAttr (.ref a) f b) Q E s:=by
 let (mA,O,r,_,_,_):=oB I.hok e
 let (u,i,d):=iM.some_of (v:=v) (o:=mA f) (by rw [<- l];exact r f)
 exact Ue I.kIn O (c.get f) c.hd n i (Ge d) (h u _ (I.tok _) d)
def kR {m:Str} {g:Addr} {pl:Sem Bool} {Q:Value × List Value->Shared->Prop} (I:aO X pins σ H s) (e:H a=some (.ins C dx fs)) (c:oK X.K C) (k:yG X.K C m g) (l:fs.lookup m=none)
  (h:Q (.ref g,[.ref a]) s):wpAny (model X.prog X.w) A (getMethod (.ref a) m pl) Q E s:=by
 let (mA,O,r,_,_,_):=oB I.hok e
 let d:mA m=none:=iM.none_of (by rw [<- l];exact r m)
 exact Nt I.kIn O (c.get m) k.at_ k.fn d h
def oX {y:V} {u:Value} {Q:Unit->Shared->Prop} (I:aO X pins σ H s) (e:H a=some (.ins C dx fs)) (c:oK X.K C) (n:NoAttr X.K C f) (M:fs.length<1000) (J:bJ y u)
  (h:∀s',aO X pins σ (aR H a (.ins C dx (cN f y fs))) s'->Q () s'):wpAny (model X.prog X.w) A (setAttr (.ref a) f u) Q E s:=by
 let (mA,O,r,i,_,j):=oB I.hok e;let D:(fs.map (·.1)).length<=sizeLine:=by rw [g7,sizeLine_eq];omega
 refine Rg I.kIn O c.sa c.po n.taker c.hd i D λh' d B=>h _ ?_;let G:∃o,h'.get? dx=some o:=let ⟨o,_,_,e',_⟩:=d.ns;{(o),e'};refine I.write (x:=a) (e:=dx) (by rw [e];exact E6) (.inr j) (λb q F z=>(B.2 b F).trans z) G ?_;refine {by rw [aC O.ne];exact j,?_,O.ne,d.obj,_,d.ns,λg=>?_,λg L=>?_}
 ·have:=mQ f y fs;omega
 ·show iM ((cN f y fs).lookup g) (if g=f then some u else mA g);rw [dS];by_cases q:g=f
  ·rw [if_pos q,if_pos q];exact J
  ·rw [if_neg q,if_neg q];exact r g
 ·by_cases q:g=f
  ·rw [q];exact(mF f y fs).1
  ·refine(mF f y fs).2 g (i g λz=>L ?_);show (if g=f then some u else mA g)=none;rw [if_neg q];exact z
def aO.made (I:aO X pins σ H s):aO X pins σ (aR (aR H s.heap.objs.size (.own (s.heap.objs.size+1))) (s.heap.objs.size+1) (.ins C s.heap.objs.size []))
  { s with heap:=(s.heap.push PySem.W.emptyDict).push (PySem.W.instObj C s.heap.objs.size) }:=by
 let d:(s.heap.push PySem.W.emptyDict).get? s.heap.objs.size=some PySem.W.emptyDict:=i9 s.heap rfl;let z:((s.heap.push PySem.W.emptyDict).push (PySem.W.instObj C s.heap.objs.size)).get? (s.heap.objs.size+1)=some (PySem.W.instObj C s.heap.objs.size):=by
  have:=i9 (s.heap.push PySem.W.emptyDict) (o:=PySem.W.instObj C s.heap.objs.size) rfl;rwa [E3] at this
 let n:(s.heap.push PySem.W.emptyDict).Ns s.heap.objs.size (λ_=>none):={PySem.W.emptyDict,#[],_,d,rfl,(λe B=>absurd B (by simp)),λ_=>rfl};let D:=I.laid (a:=s.heap.objs.size) (o:=.own (s.heap.objs.size+1)) (h':=s.heap.push PySem.W.emptyDict) (t':=s.toks) (λb u q=>f6 _ q) (c9 _) {_,d};refine D.laid (a:=s.heap.objs.size+1) (o:=.ins C s.heap.objs.size []) (t':=s.toks) (λb u q=>f6 _ q) (D4 (E3 _ _)) ?_;let i:s.heap.objs.size≠s.heap.objs.size+1:=j8 (K5 _);refine {by rw [aC i,aB],i5 _,i,z,λ_=>none,(Heap.Ns1.of_empty n).at λo q=>f6 _ q,λ_=>E6,λy j=>absurd rfl j}
def Uq {prog:Program} {w:World} {env:Env} {e:Expr} {f:Str} {pos:Pos} {s:Shared} {Q:Value->Shared->Prop} (d:attributeBase e f env (eval e env)=eval e env)
  (h:wpAny (model prog w) A (eval e env) (λo i=>wpAny (model prog w) A (getAttr o f true) Q E i) E s):wpAny (model prog w) A (eval (.Attribute e f pos) env) Q E s:=
 Attribute_any_ h (by rw [arm_eval_Attribute,d])
end
inductive BZ (K:PySem.W.Frag) (f:Str) (x:V) (H1:Hp) (Q:VK):Prop|mk (a:_) (C:_) (dx:_) (fs:_) (v:_) (_:x=.ref a) (_:H1 a=some (.ins C dx fs)) (_:oK K C) (_:NoAttr K C f) (_:fs.lookup f=some v) (_:Q v H1)
def Ig (K:PySem.W.Frag) (ta:TE) (f:Str):TE:=λσ H Q=>ta σ H λx H1=>BZ K f x H1 Q
inductive CA (K:PySem.W.Frag) (f:Str) (D:eK) (σ:St) (y x:V) (H2:Hp):Prop|mk (a:_) (C:_) (dx:_) (fs:_) (_:x=.ref a) (_:H2 a=some (.ins C dx fs)) (_:oK K C) (_:NoAttr K C f) (_:fs.length<1000) (_:D.nx σ (aR H2 a (.ins C dx (cN f y fs))))
def ES (K:PySem.W.Frag) (ta tv:TE) (f:Str):TS:=λD σ H=>tv σ H λy H1=>ta σ H1 λx H2=>CA K f D σ y x H2
def BX (X:Cx) (op:Operator) (rd:V->V->Hp->VK->Prop):Prop:=
 ∀(pins:List (Addr × Obj)) (s:Shared) (σ:St) (H:Hp) (x y:V) (u v:Value) (Q:VK),aO X pins σ H s->bJ x u->bJ y v->rd x y H Q->wpAny (model X.prog X.w) X.A (inplaceOp op u v) (EP X pins σ Q) X.xe s
def Ry (K:PySem.W.Frag) (ta tv:TE) (rd:V->V->Hp->VK->Prop) (f:Str):TS:=λD σ H=>ta σ H λx H1=>∃a C dx fs v,x=.ref a/\H1 a=some (.ins C dx fs)/\oK K C/\NoAttr K C f/\fs.lookup f=some v /\
 tv σ H1 λy H2=>rd v y H2 λz H3=>∃dx' fs',H3 a=some (.ins C dx' fs')/\fs'.length<1000/\D.nx σ (aR H3 a (.ins C dx' (cN f z fs')))
section
variable {X:Cx} {o e value:Expr} {f:Str} {pos pos' tpos:Pos} {ta tv:TE}
def aV (he:PE X e ta) (hb:attributeBase e f X.env (eval e X.env)=eval e X.env):PE X (.Attribute e f pos) (Ig X.K ta f):=by
 intro pins s σ H Q I h;refine Uq hb (eY (he s σ H _ I h) λu s1 x H1 I1 rx hUp=>?_);let (a,C,dx,fs,v,ex,ea,c,n,l,q):=hUp;subst ex;obtain rfl:u=Value.ref a:=rx;exact qA I1 ea c n l λu' s2 I2 ru=>{(v),H1,I2,ru,q}
def cD (ha:PE X o ta) (hv:PE X value tv) (hs:swapsWith value (some (.Attribute o f pos')) pos.line X.env=pure false):PS X (.Assign [.Attribute o f pos'] value pos) (ES X.K ta tv f):=by
 intro pins s σ H D I h;refine plainObj_wpAny_Assign_Attribute (eY (hv s σ H _ I h) λu s1 y H1 I1 ry q=>eY (ha s1 σ H1 _ I1 q) λov s2 x H2 I2 rx hUp=>?_) hs;let (a,C,dx,fs,ex,ea,c,n,l,q2):=hUp;subst ex;obtain rfl:ov=Value.ref a:=rx;exact oX I2 ea c n l ry λs3 I3=>{σ,_,I3,q2}
def fU {op:Operator} {rd:V->V->Hp->VK->Prop} (ha:PE X o ta) (hv:PE X value tv) (hop:BX X op rd):PS X (.AugAssign (.Attribute o f tpos) op value pos) (Ry X.K ta tv rd f):=by
 intro pins s σ H D I h;refine wpAny_AugAssign_AttributeAny (eY (ha s σ H _ I h) λov s1 x H1 I1 rx hUp=>?_);let (a,C,dx,fs,v,ex,ea,c,n,l,q):=hUp;subst ex;obtain rfl:ov=Value.ref a:=rx;refine qA I1 ea c n l λu s2 I2 ru=>eY (hv s2 σ H1 _ I2 q) λw3 s3 y H2 I3 ry q3=>eY (hop pins s3 σ H2 v y u w3 _ I3 ru ry q3) λw4 s4 z H3 I4 rz hUp=>?_;let (dx',fs',ea',l',q4):=hUp;exact oX I4 ea' c n l' rz λs5 I5=>{σ,_,I5,q4}
def IS:V->V->Hp->VK->Prop:=λx y H Q=>∃i j,x=.int i/\y=.int j/\Q (.int (i+j)) H
def pZ:BX X .Add IS:=by
 rintro pins s σ H x y u v Q I z n ⟨i,j,rfl,rfl,q⟩;let (t,rfl):=(show ∃t,u=Value.int i t from z);let (d,rfl):=(show ∃d,v=Value.int j d from n);exact PyProof.Rows.iadd_int {.int (i+j),H,I.tok _,{_,rfl},q}
end
section
variable {X:Cx} {pins:List (Addr × Obj)} {σ:St} {H:Hp} {s:Shared} {A:Around} {E:Value->Shared->Prop} {Q:Value->Shared->Prop} {c:Value} {b:Bool}
inductive jJ (K:PySem.W.Frag) (H:Hp):V->Value->Prop where
 | non:jJ K H .non (.type "NoneType")
 | bl (x:Bool):jJ K H (.bl x) (.type "bool")
 | int (i:Int):jJ K H (.int i) (.type "int")
 | str (x:Str):jJ K H (.str x) (.type "str")
 | flt (x:UInt64):jJ K H (.flt x) (.type "float")
 | lst {a:Addr} {xs:List V} (e:H a=some (.lst xs)):jJ K H (.ref a) (.type "list")
 | frz {a:Addr} {o:Obj} {xs:List V} (e:H a=some (.frz o (.lst xs))):jJ K H (.ref a) (.type "list")
 | tup {a:Addr} {xs:List V} (e:H a=some (.tup xs)):jJ K H (.ref a) (.type "tuple")
 | dK {a:Addr} {kvs:List (bZ × V)} (e:H a=some (.dK kvs)):jJ K H (.ref a) (.type "dict")
 | dT {a:Addr} {kvs:List (List bZ × V)} (e:H a=some (.dT kvs)):jJ K H (.ref a) (.type "dict")
 | ins {a C dx:Addr} {fs:List (Str × V)} (e:H a=some (.ins C dx fs)) (cl:oK K C) (ha:PySem.W.findIn K (.ref C) "__class__"=some (some (.builtin "object.__class__")))
   (hn:PySem.W.specialIn K (.builtin "object.__class__") "__get__"=some (some (.builtin "getset_descriptor.__get__"))) (htk:PySem.W.takesIn K (.builtin "object.__class__")=some true)
   (hm:PySem.W.mroIn K C (.type "object")=some true):jJ K H (.ref a) (.ref C)
def Fz {x:V} {u t:Value} (I:aO X pins σ H s) (d:bJ x u) (j:jJ X.K H x t) (e:PySem.W.kitOne X.K t c=some b) (h:∀tk,Q (.bool b) { s with toks:=tk }):
  wpAny (model X.prog X.w) A (call (.builtin "isinstance") [u,c]) Q E s:=by
 cases j with
 | non=>cases (show u=Value.none from d);exact PySem.W.kia_one PySem.W.kitx_none I.kIn E6 e (λz=>nomatch z) h
 | bl y=>cases (show u=Value.bool y from d);exact PySem.W.kia_one PySem.W.kitx_bool I.kIn E6 e (λz=>nomatch z) h
 | int i=>let (t,q):=(show ∃t,u=Value.int i t from d);cases q;exact PySem.W.kia_one PySem.W.kitx_int I.kIn E6 e (λz=>nomatch z) h
 | str y=>let (t,q):=(show ∃t,u=Value.str y t from d);cases q;exact PySem.W.kia_one PySem.W.kitx_str I.kIn E6 e (λz=>nomatch z) h
 | flt y=>let (t,q):=(show ∃t,u=Value.float y t from d);cases q;exact PySem.W.kia_one PySem.W.kitx_float I.kIn E6 e (λz=>nomatch z) h
 | @lst a xs ea=>
  cases (show u=Value.ref a from d);let (_,_,n,_,h1):=(show bL X.prog X.w H s.heap a (.lst xs) from I.hok a _ ea);exact PySem.W.kia_one PySem.W.kitx_list I.kIn {_,h1,rfl} e (λz=>nomatch z) h
 | @frz a ob xs ea=>
  cases (show u=Value.ref a from d);let (_,_,_,n,_,h1):=(show bL X.prog X.w H s.heap a (.frz ob (.lst xs)) from I.hok a _ ea);exact PySem.W.kia_one PySem.W.kitx_list I.kIn {_,h1,rfl} e (λz=>nomatch z) h
 | @tup a xs ea=>
  cases (show u=Value.ref a from d);let (_,_,_,p):=(show bL X.prog X.w H s.heap a (.tup xs) from I.hok a _ ea);let (o,h1,h2,_):=p;exact PySem.W.kia_one PySem.W.kitx_tuple I.kIn {(o),h1,h2} e (λz=>nomatch z) h
 | @dK a kvs ea=>
  cases (show u=Value.ref a from d);let (_,_,F,_,p):=(show bL X.prog X.w H s.heap a (.dK kvs) from I.hok a _ ea);let (o,es,B,h1,h2,_):=p;exact PySem.W.kia_one PySem.W.kitx_dict I.kIn {(o),h1,h2.1} e (λz=>nomatch z) h
 | @dT a kvs ea=>
  cases (show u=Value.ref a from d);let (_,_,xs,_,o,es,B,h1,h2,_):=(show bL X.prog X.w H s.heap a (.dT kvs) from I.hok a _ ea);exact PySem.W.kia_one PySem.W.kitx_dict I.kIn {(o),h1,h2.1} e (λz=>nomatch z) h
 | @ins a C dx fs ea cl ha hn htk hm=>
  cases (show u=Value.ref a from d);let (mA,O,_):=oB I.hok ea;let (D,J,_):=O.look;exact PySem.W.kia_one (PySem.W.kitx_own (cl.get _) cl.hd ha hn htk hm) I.kIn J e (λz=>nomatch z) h
end
structure Room (k:Nat) (A:Around):Prop where
 hd:A.handled=none
 dp:A.depth+3 * k+5<recursionLimit
 un:A.units+16 * k+200<cLine
def Room.mono {j k:Nat} {A:Around} (r:Room k A) (h:j<=k):Room j A:=⟨r.hd,by have:=r.dp;omega,by have:=r.un;omega⟩
theorem Room.deeper {k:Nat} {A:Around} (r:Room (k+1) A) (env:Env):Room k (A.deeper env):=
 ⟨r.hd,by have:=r.dp;show A.depth+1+3 * k+5<_;omega,by have:=r.un;show A.units+3+16 * k+200<_;omega⟩
theorem Room.in1 {k:Nat} {A:Around} (r:Room (k+1) A):Room k A.in1:=
 ⟨r.hd,by have:=r.dp;show A.depth+3 * k+5<_;omega,by have:=r.un;show A.units+1+16 * k+200<_;omega⟩
def zX {A:Around} {C:Addr} {us:List Value} {kw:List (Str × Value)}:(A.under (.builtin "type.__call__" {.ref C::us,kw})).depth=A.depth+1:=by
 first|rfl|simp [Around.under,Code.weight,Code.isCreation,Code.isGuard,Code.isCaller,Code.frames,Code.isFrame,guardIds]
def zW {A:Around} {C:Addr} {us:List Value} {kw:List (Str × Value)}:(A.under (.builtin "type.__call__" {.ref C::us,kw})).units=A.units+1:=by
 first|rfl|simp [Around.under,Code.cUnits,Code.frames,Code.isFrame]
def Room.make {k:Nat} {A:Around} (r:Room (k+1) A) (C:Addr) (us:List Value) (kw:List (Str × Value)):Room k (A.under (.builtin "type.__call__" {.ref C::us,kw})):=
 ⟨r.hd,by have:=r.dp;rw [zX];omega,by have:=r.un;rw [zW];omega⟩
theorem Room.depth {k:Nat} {A:Around} (r:Room k A):A.depth<recursionLimit:=by have:=r.dp;omega
theorem Room.units {k:Nat} {A:Around} (r:Room k A):A.units+64<cLine:=by have:=r.un;omega
def mV:TA:=λ_ H Q=>Q [] H
def iU (ta:TE) (tr:TA):TA:=λσ H Q=>ta σ H λx H1=>tr σ H1 λxs H2=>Q (x::xs) H2
section
variable {X:Cx} {e:Expr} {es:List Expr} {te:TE} {t:TA} {pos:Pos}
def aE:PA X [] mV:=λ_ _ _ _ H Q I h=>Calls.spliced_nil {[],H,I,.nil,h}
def aA (z:PE X e te) (D:PA X es t) (i:starEach (e::es) X.env=(false,eval e X.env)::starEach es X.env:=by rfl):PA X (e::es) (iU te t):=by
 intro pos pins s σ H Q I h;rw [i];show wpAny _ _ (spliced ((false,eval e X.env)::backTo pos (starEach es X.env))) _ _ s;refine Calls.spliced_cons (eY (z s σ H _ I h) λu d x H1 F q y=>?_);exact uZ (D pins d σ H1 _ F y) λJ G xs H2 j n B=>{x::xs,H2,j,.cons q n,B}
def Xv (t:TA):TE:=λσ H Q=>t σ H λxs H1=>xs.length<=sizeLine/\∀p,H1 p=none->Q (.ref p) (aR H1 p (.tup xs))
def HX (t:TA):TE:=λσ H Q=>t σ H λxs H1=>xs.length<=sizeLine/\∀p,H1 p=none->Q (.ref p) (aR H1 p (.lst xs))
def cE {x1} (h:PA X es t):PE X (.Tuple es x1 pos) (Xv t):=by
 intro pins s σ H Q I y;refine wpAny_Tuple_spliced (uZ (h pins s σ H _ I y) λj d xs H1 i r ⟨z,q⟩=>{by rw [<- r.length];exact z,?_});let n:H1 d.heap.objs.size=none:=i.hok.fresh (c9 _);refine {.ref d.heap.objs.size,aR H1 d.heap.objs.size (.tup xs),i.laid (t':=d.toks) (λb u e=>f6 _ e) (c9 _) ?_,rfl,q _ n};exact {z,j,r,{_,i9 _ rfl,rfl,_,rfl}}
def pH (h:PA X es t):PE X (.List es pos) (HX t):=by
 intro pins s σ H Q I y;refine wpAny_List_spliced (uZ (h pins s σ H _ I y) λj d xs H1 i r ⟨z,q⟩=>{by rw [<- r.length];exact z,?_});let n:H1 d.heap.objs.size=none:=i.hok.fresh (c9 _);refine {.ref d.heap.objs.size,aR H1 d.heap.objs.size (.lst xs),i.laid (t':=d.toks) (λb u e=>f6 _ e) (c9 _) ?_,rfl,q _ n};exact {z,j,0,r,i9 _ rfl}
end
abbrev Sp:=List V->Hp->VK->XK->Prop
abbrev mK:=List Env->Hp->Shared->XK->Value->Shared->Prop
structure uX (P:Program) (w:World) (K:PySem.W.Frag) (mg:Str->Option Value) (base:Heap) (A:Around) (outer:List Env) (s:Shared) (H:Hp):Prop where
 frames:A.frames=some outer
 mod:Mod K mg base
 bs:∀b o,base.get? b=some o->s.heap.get? b=some o/\H b=none
 bsz:base.objs.size<=s.heap.objs.size
 funs:s.heap.FunFrames base outer
 frf:∀b ∈ kU outer,H b=none
 hok:kH P w H s.heap
 bare:AllBare s.gens
def CE (outer:List Env) (P:Program) (w:World) (H:Hp) (s:Shared) (Q:VK) (u:Value) (s':Shared):Prop:=
 ∃v H',s'.os=s.os/\AllBare s'.gens/\Un (kU outer) [] H H' s.heap s'.heap/\kH P w H' s'.heap/\bJ v u/\Q v H'
def CR (CX:mK) (outer:List Env) (P:Program) (w:World) (H:Hp) (s:Shared) (Q:VK) (E:XK) (r:Result) (s':Shared):Prop:=
 match r with
 | .ok (.ret u)=>CE outer P w H s Q u s'
 | .ok _=>False
 | .error e=>CX outer H s E e s'
structure bK (P:Program) (w:World) (K:PySem.W.Frag) (mg:Str->Option Value) (base:Heap) (CX:mK) (k:Nat) (f:Addr) (fd:FuncData) (ps:List Str) (sp:Sp):Prop where
 len:∀vs H Q E,sp vs H Q E->vs.length=ps.length
 run:∀(A:Around) (outer:List Env) (s:Shared) (H:Hp) (args:Args) (us:List Value) (vs:List V) (Q:VK) (E:XK),Room k A->uX P w K mg base A outer s H->BindsTo s fd args (ps.zip us)->bG vs us->sp vs H Q E ->
  codeAny (model P w) A (.call (.ref f) args) (CR CX outer P w H s Q E) s
theorem bK.mono {P:Program} {w:World} {K:PySem.W.Frag} {mg:Str->Option Value} {base:Heap} {CX:mK} {j k:Nat} {f:Addr} {fd:FuncData} {ps:List Str} {sp:Sp} (F:bK P w K mg base CX j f fd ps sp) (h:j<=k):
  bK P w K mg base CX k f fd ps sp:={F.len,λA d s H i n q Q E y=>F.run A d s H i n q Q E (y.mono h)}
def bK.imp {P:Program} {w:World} {K:PySem.W.Frag} {mg:Str->Option Value} {base:Heap} {CX:mK} {k:Nat} {f:Addr} {fd:FuncData} {ps:List Str} {sp sp':Sp} (F:bK P w K mg base CX k f fd ps sp)
  (h:∀i H Q E,sp' i H Q E->sp i H Q E):bK P w K mg base CX k f fd ps sp':=
 {λi H Q E q=>F.len i H Q E (h _ _ _ _ q),λA d s H j n i Q E G D z B y=>F.run A d s H j n i Q E G D z B (h _ _ _ _ y)}
def uX.make {P:Program} {w:World} {K:PySem.W.Frag} {mg:Str->Option Value} {base:Heap} {A:Around} {outer:List Env} {s:Shared} {H:Hp} (e:uX P w K mg base A outer s H) (C:Addr) (us:List Value) (kw:List (Str × Value)):
  uX P w K mg base (A.under (.builtin "type.__call__" {.ref C::us,kw})) outer s H:=⟨by first|exact e.frames|(simpa [Around.under,Code.envs,Code.isFrame,pushEnvs] using e.frames),e.mod,e.bs,e.bsz,e.funs,e.frf,e.hok,e.bare⟩
section
variable {X:Cx} {pins:List (Addr × Obj)} {σ:St} {H:Hp} {s s':Shared}
def aO.env0 (I:aO X pins σ H s):uX X.prog X.w X.K X.mg X.base X.A X.stack s H:=
 {I.ok.frames,I.ok.mod,I.bs,l7 I.ok.bsz I.sz,I.stack,I.stkFree,I.hok,I.bare}
def aO.after {Q:VK} {u:Value} (I:aO X pins σ H s) (h:CE X.stack X.prog X.w H s Q u s'):EP X pins σ Q u s':=by
 let (v,H',D,i,y,n,r,q):=h;let (B,g,d,t,j):=s';obtain rfl:j=s.os:=D;exact {v,H',I.call (h':=B) (g':=g) (d':=d) (t':=t) (ch:=[]) y n i (λb z=>absurd z (by simp)),r,q}
end
def vJ (sp:Sp) (dvs:List V) (E:XK) (t:TA):TE:=λσ H Q=>t σ H λvs H1=>sp (vs++dvs) H1 Q E
inductive Vw (C:Addr) (m:Str) (sp:Sp) (dvs:List V) (E:XK) (t:TA) (σ:St) (Q:VK) (x:V) (H1:Hp):Prop|mk (a:_) (dx:_) (fs:_) (_:x=.ref a) (_:H1 a=some (.ins C dx fs)) (_:fs.lookup m=none) (_:t σ H1 λvs H2=>sp (x::(vs++dvs)) H2 Q E)
def oT (C:Addr) (m:Str) (sp:Sp) (dvs:List V) (E:XK) (ta:TE) (t:TA):TE:=λσ H Q=>ta σ H λx H1=>Vw C m sp dvs E t σ Q x H1
def DR (C:Addr) (sp:Sp) (dvs:List V) (E:XK) (t:TA):TE:=λσ H Q=>t σ H λvs H1=>∀x dx,H1 x=none->H1 dx=none->dx≠x ->
 sp (.ref x::(vs++dvs)) (aR (aR H1 dx (.own x)) x (.ins C dx [])) (λv H2=>v=.non/\Q (.ref x) H2) E
def eX (K:PySem.W.Frag) (fd:FuncData) (ps:List Str) (ds:List Value):Prop:=
 ∀(s:Shared) (us:List Value),K.In s.heap->(us++ds).length=ps.length->BindsTo s fd ⟨us,[]⟩ (ps.zip (us++ds))
def eX.all {K:PySem.W.Frag} {fd:FuncData} {ps:List Str} (h:∀d:List Value,d.length=ps.length->bindArgs fd {d,[]}=pure (ps.zip d)):eX K fd ps []:=λs d _ i=>by
 rw [x9] at i ⊢
 exact .of_eq (h d i)
def dX (CX:mK) (X:Cx) (E:XK):Prop:=∀(pins:List (Addr × Obj)) (σ:St) (H:Hp) (s:Shared) (e:Value) (s':Shared),aO X pins σ H s->CX X.stack H s E e s'->X.xe e s'
section
variable {X:Cx} {CX:mK} {k:Nat} {f C:Addr} {fd:FuncData} {ps:List Str} {sp:Sp} {dvs:List V} {ds:List Value} {E:XK} {x m:Str} {p pos apos:Pos} {e o:Expr} {es:List Expr} {ta:TE} {t:TA}
def tY {pins:List (Addr × Obj)} {σ:St} {H:Hp} {s:Shared} {Q:VK} {us:List Value} {vs:List V} (F:bK X.prog X.w X.K X.mg X.base CX k f fd ps sp) (y:Room k X.A) (j:eX X.K fd ps ds) (q:bG dvs ds) (n:dX CX X E)
  (I:aO X pins σ H s) (r:bG vs us) (h:sp (vs++dvs) H Q E):wpAny (model X.prog X.w) X.A (call (.ref f) us) (EP X pins σ Q) X.xe s:=by
 let i:bG (vs++dvs) (us++ds):=r.append q
 let z:(us++ds).length=ps.length:=by rw [<- i.length];exact F.len _ _ _ _ h
 refine K6 (D5 (F.run X.A X.stack s H {us,[]} (us++ds) (vs++dvs) Q E y I.env0 (j s us I.kIn z) i h) λr s' d=>?_);cases r with
 | error e=>exact n pins σ H s e s' I d
 | ok fl=>
  cases fl with
  | ret u=>exact I.after d
  | next=>exact False.elim d
  | brk=>exact False.elim d
  | cont=>exact False.elim d
def So (F:bK X.prog X.w X.K X.mg X.base CX k f fd ps sp) (y:Room k X.A) (M:Gl X x) (n:X.mg x=some (.ref f)) (L:PySem.W.keepIn X.K (.ref f)=true) (z:eX X.K fd ps ds) (B:bG dvs ds) (D:dX CX X E)
  (G:PA X (e::es) t) (d:(x == ("__debug__":Str))=false:=by decide) (J:starEach (e::es) X.env=(false,eval e X.env)::starEach es X.env:=by rfl) (i:(backTo pos (starEach es X.env)).any (·.1)=false:=by rfl):
  PE X (.Call (.Name x p) (e::es) [] pos) (vJ sp dvs E t):=by
 intro pins s σ H Q I h;refine C2 (lH I M n ?_ d);refine PySem.W.callWith_K (h₀:=X.base) I.ok.mod.kin L (uZ (G pins s σ H _ I h) λN O S H1 j r q=>{j.kIn,?_}) J i;exact tY F y z B D j r q
def Sm {pl:Sem Bool} (he:PE X o ta) (c:oK X.K C) (hm:yG X.K C m f) (F:bK X.prog X.w X.K X.mg X.base CX k f fd ps sp) (hr:Room k X.A) (hb:eX X.K fd ps ds) (hd:bG dvs ds) (hx:dX CX X E) (ha:PA X (e::es) t)
  (hst:starEach (e::es) X.env=(false,eval e X.env)::starEach es X.env:=by rfl) (hpl:(backTo pos (starEach es X.env)).any (·.1)=false:=by rfl)
  (ht:eval (.Call (.Attribute o m apos) (e::es) [] pos) X.env=(do
   let ov <- eval o X.env
   standAt apos.atName
   let (f,first) <- holding [ov] (getMethod ov m pl)
   callWith pos f first (backTo pos (starEach (e::es) X.env)) (backToKw pos (keywordEach [] X.env))):=by rfl):
  PE X (.Call (.Attribute o m apos) (e::es) [] pos) (oT C m sp dvs E ta t):=by
 intro pins s σ H Q I h;refine PySem.W.methodCall_KW (pl:=pl) (eY (he s σ H _ I h) λu s1 x H1 I1 rx hUp=>?_) ht;let (a,dx,fs,ex,ea,l,q):=hUp;subst ex;obtain rfl:u=Value.ref a:=rx;refine kR I1 ea c hm l ?_;refine PySem.W.callWith_K (first:=[.ref a]) (h₀:=X.base) I.ok.mod.kin hm.kp (uZ (ha pins s1 σ H1 _ I1 q) λus s2 vs H2 I2 r q2=>{I2.kIn,?_}) hst hpl
 exact tY (us:=.ref a::us) (vs:=.ref a::vs) F hr hb hd hx I2 (.cons rfl r) q2
def wG {pl:Sem Bool} (he:PE X o ta) (c:oK X.K C) (hm:yG X.K C m f) (F:bK X.prog X.w X.K X.mg X.base CX k f fd ps sp) (hr:Room k X.A) (hb:eX X.K fd ps ds) (hd:bG dvs ds) (hx:dX CX X E)
  (ht:eval (.Call (.Attribute o m apos) [] [] pos) X.env=(do
   let ov <- eval o X.env
   standAt apos.atName
   let (f,first) <- holding [ov] (getMethod ov m pl)
   callWith pos f first (backTo pos (starEach [] X.env)) (backToKw pos (keywordEach [] X.env))):=by rfl):
  PE X (.Call (.Attribute o m apos) [] [] pos) (oT C m sp dvs E ta mV):=by
 intro pins s σ H Q I h;refine PySem.W.methodCall_KW (pl:=pl) (eY (he s σ H _ I h) λu s1 x H1 I1 rx hUp=>?_) ht;let (a,dx,fs,ex,ea,l,q):=hUp;subst ex;obtain rfl:u=Value.ref a:=rx;refine kR I1 ea c hm l ?_;exact PySem.W.callWith_K0 (first:=[.ref a]) I1.kIn hm.kp (tY (us:=[.ref a]) (vs:=[.ref a]) F hr hb hd hx I1 (.cons rfl .nil) q)
structure Mk (K:PySem.W.Frag) (C f:Addr):Prop where
 makes:PySem.W.makesIn K C=true
 init:PySem.W.findIn K (.ref C) "__init__"=some (some (.ref f))
 fn:PySem.W.isFn K (.ref f)=true
 kp:PySem.W.keepIn K (.ref C)=true
def Kl {pins:List (Addr × Obj)} {σ:St} {H:Hp} {s:Shared} {Q:VK} {us:List Value} {vs:List V} (M:Mk X.K C f) (F:bK X.prog X.w X.K X.mg X.base CX k f fd ps sp) (L:Room (k+1) X.A) (q:eX X.K fd ps ds) (z:bG dvs ds)
  (y:dX CX X E) (I:aO X pins σ H s) (r:bG vs us)
  (h:∀x dx,H x=none->H dx=none->dx≠x->sp (.ref x::(vs++dvs)) (aR (aR H dx (.own x)) x (.ins C dx [])) (λv H2=>v=.non/\Q (.ref x) H2) E):
  wpAny (model X.prog X.w) X.A (call (.ref C) us) (EP X pins σ Q) X.xe s:=by
 let n:=h (s.heap.objs.size+1) s.heap.objs.size (I.hok.fresh (F6 _)) (I.hok.fresh (c9 _)) (j8 (K5 _));let i:=aO.made (C:=C) I;let j:bG (V.ref (s.heap.objs.size+1)::(vs++dvs)) (Value.ref (s.heap.objs.size+1)::(us++ds)):=.cons rfl (r.append z);let N:(Value.ref (s.heap.objs.size+1)::us++ds).length=ps.length:=by
  let e:=j.length;rw [F.len _ _ _ _ n] at e;exact e.symm
 refine K6 (Mt (f:=f) I.kIn M.makes M.init (beq_iff_eq.mp M.fn) (D5 (F.run _ X.stack _ _ {Value.ref (s.heap.objs.size+1)::us,[]} (Value.ref (s.heap.objs.size+1)::(us++ds)) _ _ E (L.make C us [])
  (i.env0.make C us []) (q _ (Value.ref (s.heap.objs.size+1)::us) i.kIn N) j n) λr s' d=>?_));cases r with
 | error e=>exact y pins σ _ _ e s' i d
 | ok fl=>
  cases fl with
  | ret u=>
   let (v,H',B,D,J,G):=i.after d;subst J;exact {D,{V.ref (s.heap.objs.size+1),H',B,rfl,G}}
  | next=>exact False.elim d
  | brk=>exact False.elim d
  | cont=>exact False.elim d
def jU (M:Mk X.K C f) (F:bK X.prog X.w X.K X.mg X.base CX k f fd ps sp) (J:Room (k+1) X.A) (L:Gl X x) (n:X.mg x=some (.ref C)) (y:eX X.K fd ps ds) (B:bG dvs ds) (z:dX CX X E)
  (D:PA X (e::es) t) (d:(x == ("__debug__":Str))=false:=by decide) (G:starEach (e::es) X.env=(false,eval e X.env)::starEach es X.env:=by rfl) (i:(backTo pos (starEach es X.env)).any (·.1)=false:=by rfl):
  PE X (.Call (.Name x p) (e::es) [] pos) (DR C sp dvs E t):=by
 intro pins s σ H Q I h;refine C2 (lH I L n ?_ d);refine PySem.W.callWith_K (h₀:=X.base) I.ok.mod.kin M.kp (uZ (D pins s σ H _ I h) λN O S H1 j r q=>{j.kIn,?_}) G i;exact Kl M F J y B z j r q
end
def PK (X:Cx) (kws:List Keyword) (t:TA):Prop:=
 ∀(pos:Pos) (pins:List (Addr × Obj)) (s:Shared) (σ:St) (H:Hp) (Q:List V->Hp->Prop),aO X pins σ H s->t σ H Q->wpAny (model X.prog X.w) X.A (evalAll ((backToKw pos (keywordEach kws X.env)).map (·.2))) (AP X pins σ Q) X.xe s
section
variable {X:Cx} {CX:mK} {k:Nat} {f C:Addr} {fd:FuncData} {ps ks:List Str} {sp:Sp} {E:XK} {x m:Str} {p pos apos kpos:Pos} {e o:Expr} {es:List Expr} {kws:List Keyword} {te ta:TE} {t tk:TA} {nm:Option Str}
def uC:PK X [] mV:=λ_ _ _ _ H Q I h=>wpAny_evalAll_nil {[],H,I,.nil,h}
def nV (y:PE X e te) (B:PK X kws t):PK X ({(nm),e,kpos}::kws) (iU te t):=by
 intro pos pins s σ H Q I h;show wpAny _ _ (evalAll ((do let v <- eval e X.env;standAt pos;pure v)::(backToKw pos (keywordEach kws X.env)).map (·.2))) _ _ s;refine wpAny_evalAll_cons (c6 (eY (y s σ H _ I h) λu d x H1 D n q=>c6 (O4 (g9 ?_))));exact uZ (B pos pins d σ H1 _ D q) λG F xs H2 i j z=>{x::xs,H2,i,.cons n j,z}
variable {g:List Value->List Value->List Value} {gV:List V->List V->List V}
end
structure aJ (N P:List Str) (sc:Scope):Prop where
 kind:sc.kind=.function
 co:sc.isCoroutine=false
 gen:sc.isGenerator=false
 nd:N.Nodup
 pre:N.take P.length=P
 par:∀x ∈ P,sc.names.lookup x=some .local\/sc.names.lookup x=some .cell
 nofree:∀y ∈ sc.names,y.2≠.free
theorem sU {i:Str->Option NameKind} {x:Str}:∀{d:List (Str × Value)} {m:Str->Option Value},(∀v,(x,v) ∉ d)->bindL i d m x=m x
 | [],_,_=>rfl
 | (n,v)::r,m,h=>by
  unfold bindL
  rw [sU λw j=>h w (d0 _ j)]
  split
  ·have:x≠n:=by rintro rfl;exact h v i0
   simp [this]
  ·rfl
theorem sW {i:Str->Option NameKind} {x:Str}:∀{d:List (Str × Value)} {m:Str->Option Value},(∀v,(x,v) ∉ d)->bindC i d m x=m x
 | [],_,_=>rfl
 | (n,v)::r,m,h=>by
  unfold bindC
  rw [sW λw j=>h w (d0 _ j)]
  split
  ·rfl
  ·have:x≠n:=by rintro rfl;exact h v i0
   simp [this]
theorem sV {d:Str->Option NameKind} {x:Str} {v:Value}:∀{P:List Str} {vs:List Value} {i:Nat} {m:Str->Option Value},P.Nodup->P[i]?=some x->vs[i]?=some v->d x=some .local ->
  bindL d (P.zip vs) m x=some v
 | [],_,_,_,_,h,_,_=>by simp at h
 | _::_,[],_,_,_,_,h,_=>by simp at h
 | p::P,w::vs,0,m,nd,h1,h2,hk=>by
  simp at h1 h2;subst h1;subst h2
  show bindL d ((p,w)::P.zip vs) m p=_
  unfold bindL
  rw [sU λv j=>(C0.mp nd).1 (G5 j).1,if_pos hk]
  simp
 | p::P,w::vs,i+1,m,nd,h1,h2,hk=>by
  show bindL d ((p,w)::P.zip vs) m x=_
  unfold bindL
  exact sV (i:=i) (C0.mp nd).2 (by simpa using h1) (by simpa using h2) hk
theorem sX {d:Str->Option NameKind} {x:Str} {v:Value}:∀{P:List Str} {vs:List Value} {i:Nat} {m:Str->Option Value},P.Nodup->P[i]?=some x->vs[i]?=some v->d x≠some .local ->
  bindC d (P.zip vs) m x=some v
 | [],_,_,_,_,h,_,_=>by simp at h
 | _::_,[],_,_,_,_,h,_=>by simp at h
 | p::P,w::vs,0,m,nd,h1,h2,hk=>by
  simp at h1 h2;subst h1;subst h2
  show bindC d ((p,w)::P.zip vs) m p=_
  unfold bindC
  rw [sW λv j=>(C0.mp nd).1 (G5 j).1,if_neg hk]
  simp
 | p::P,w::vs,i+1,m,nd,h1,h2,hk=>by
  show bindC d ((p,w)::P.zip vs) m x=_
  unfold bindC
  exact sX (i:=i) (C0.mp nd).2 (by simpa using h1) (by simpa using h2) hk
def dJ (N:List Str) (vs:List V):St:=vs.map some++List.replicate (N.length-vs.length) none
def jH (CX:mK) (P:Program) (w:World) (K:PySem.W.Frag) (mg:Str->Option Value) (base:Heap) (N:List Str) (qual:Str) (scope:Scope) (f:Addr) (cd:Value) (A:Around) (outer:List Env) (s:Shared) (H:Hp) (E:XK):Cx where
 prog:=P
 w:=w
 K:=K
 mg:=mg
 base:=base
 A:=A.deeper (envOfC qual scope s.heap.objs.size f cd)
 N:=N
 s₀:=s
 H₀:=H
 env:=envOfC qual scope s.heap.objs.size f cd
 outer:=outer
 stack:=envOfC qual scope s.heap.objs.size f cd::outer
 ex:=[]
 calm:=true
 fn:=λ_=>true
 pn:=[]
 xe:=λe s'=>wpAny (model P w) (A.deeper (envOfC qual scope s.heap.objs.size f cd)) (leaving (envOfC qual scope s.heap.objs.size f cd) e) (λ_ s''=>CX outer H s E e s'') (λe' s''=>CX outer H s E e' s'') s'
def xU {d:Scope} {n:Nat} {x:Str} (h:d.names.lookup x=some .cell):∃c,(cellsFrom n d.names []).lookup x=some c:=by
 let q:=PySem.W.cellsFrom_some d.names n [] (.inl h);exact M3.mp q
def sK {CX:mK} {P:Program} {w:World} {K:PySem.W.Frag} {mg:Str->Option Value} {base:Heap} {N ps:List Str} {j:Str} {d:Scope} {f:Addr} {G:Value} {A:Around} {outer:List Env} {s I:Shared} {H:Hp} {E:XK} {us:List Value} {vs:List V}
  (S:aJ N ps d) (M:A.handled=none) (B:uX P w K mg base A outer s H) (hl:vs.length=ps.length) (r:bG vs us)
  (x:InCallC s s.heap.objs.size (bindL (envOfC j d s.heap.objs.size f G).kindOf (ps.zip us) λ_=>none) (cellsFrom (s.heap.objs.size+1) d.names []) (bindC (envOfC j d s.heap.objs.size f G).kindOf (ps.zip us) λ_=>none) I):
  aO (jH CX P w K mg base N j d f G A outer s H E) [] (dJ N vs) H I:=by
 let Y:ps.length<=N.length:=by have:=congrArg List.length S.pre;rw [l0] at this;omega
 let (h1,tk,rfl,L):=x.done;let D:∀b:Addr,b ∉ (jH CX P w K mg base N j d f G A outer s H E).ex:=λb z=>absurd (show b ∈ ([]:List Addr) from z) (by simp);refine {{B.mod,S.kind,rfl,rfl,c9 _,λy z c h1 h2=>?_,λy hy=>?_,λy c _ h=>?_,λ_=>M,Around.frames_deeper B.frames,.inr {(rfl),rfl},λb z=>absurd z (D b),B.bs,B.bsz,λb _ _=>D b,λb z=>absurd z (D b),B.funs,B.frf},
  rfl,B.bare,Un.kept L,{_,x.toInCall.ns,λi y v h1 h2 Z=>?_},λy c h=>{_,x.cell y c h},B.hok.fresh (c9 _),λy c h=>?_,λp F=>absurd (show p ∈ ([]:List (Addr × Obj)) from F) (by simp),B.hok.kept L,?_}
 ·exact name_of_addr x.apart (PySem.mem_of_lookup h1) (PySem.mem_of_lookup h2)
 ·let hy:d.names.lookup y=some .cell\/d.names.lookup y=some .free:=hy;rcases hy with hy|hy
  ·exact xU hy
  ·exact absurd rfl (S.nofree _ (PySem.mem_of_lookup hy))
 ·exact B5 (x.above y c (PySem.mem_of_lookup h))
 ·let hi:i<vs.length:=by
   unfold dJ at h2;by_cases hi:i<vs.length
   ·exact hi
   ·rw [y7 (by simpa using hi)] at h2;rw [List.getElem?_replicate] at h2;split at h2 <;> cases h2
  let O:vs[i]?=some v:=by
   unfold dJ at h2;rw [w5 (by simpa using hi),i8] at h2;cases e:vs[i]? with
   | none=>rw [e] at h2;cases h2
   | some a=>rw [e] at h2;cases h2;rfl
  let (u,J,U):=r.get O;let F:ps[i]?=some y:=by
   rw [<- S.pre,v5 ∎];exact h1
  let HE:ps.Nodup:=by rw [<- S.pre];exact S.nd.sublist (N5 _ _)
  refine {u,U,?_};rcases S.par y (i6 F) with k|k
  ·exact .inl {k,sV HE F J k}
  ·let (c,e):=xU (n:=s.heap.objs.size+1) k;refine .inr {.inl k,c,e,?_};let q:=x.cell y c e;rw [sX HE F J (by show d.names.lookup y≠_;rw [k];decide)] at q;exact q
 ·exact B.hok.fresh (B5 (x.above y c (PySem.mem_of_lookup h)))
 ·unfold dJ;show _=N.length;rw [i7,g7,A9];omega
def Nx {CX:mK} {P:Program} {w:World} {K:PySem.W.Frag} {mg:Str->Option Value} {base:Heap} {k:Nat} {f:Addr} {name i:Str} {j:Arguments} {z:List Stmt} {d:Scope} {dV kV U pm cdv ct oc:Value} {an od:Option Addr}
  {Z:Array (Option Value)} {N ps:List Str} {sp:Sp} (lk:K.lookup f=some {oc,od,.func (PySem.W.fnOf name i j z d dV kV U pm an cdv ct),Z}) (a1:PySem.W.codeIn K cdv i=true) (S:aJ N ps d)
  (L:∀vs H Q E,sp vs H Q E->vs.length=ps.length)
  (D:∀(A:Around) (outer:List Env) (s:Shared) (H:Hp) (vs:List V) (Q:VK) (E:XK),Room k (A.deeper (envOfC i d s.heap.objs.size f cdv))->sp vs H Q E ->
   ∃t,qX (jH CX P w K mg base N i d f cdv A outer s H E) z t/\t { nx:=λ_ H'=>Q .non H',rt:=Q } (dJ N vs) H):
  bK P w K mg base CX (k+1) f (PySem.W.fnOf name i j z d dV kV U pm an cdv ct) ps sp:=by
 refine {L,λA outer s H a2 us vs Q E hr G hb r M=>?_};let hl:=L _ _ _ _ M;let KX:K.In s.heap:=G.mod.kin.keeps λb o e=>(G.bs b o e).1;let a0:s.heap.NoLimit:=G.mod.nolimit.keeps λb o e=>(G.bs b o e).1;let B:∀y ∈ ps.zip us,d.names.lookup y.1=some .local\/(d.names.lookup y.1=some .cell/\((cellsFrom (s.heap.objs.size+1) d.names []).lookup y.1).isSome=true):=λ⟨n,v⟩ hy=>by
  rcases S.par n (G5 hy).1 with q|q
  ·exact .inl q
  ·exact .inr {q,PySem.W.cellsFrom_some _ _ _ (.inl q)}
 refine codeAny_call_function hr.depth (KX _ _ lk) rfl S.co S.gen rfl (PySem.W.codeRec_of KX a1) (hb _ _ _ _ ?_);refine wpAny_newFunctionEnv_cells S.kind B λa3 he s1 x=>?_;subst he;refine {a0.keeps x.toInCall.keep,codeAny_func ?_};let (t,ht,hq):=D A outer s H vs Q E (hr.deeper _) M;let I:aO (jH CX P w K mg base N i d f cdv A outer s H E) [] (dJ N vs) H s1:=sK S hr.hd G hl r x;refine v6 (ht s1 (dJ N vs) H _ I hq) (λfl s' F=>?_) λe s' F=>F;let O:∀{Y:St} {H':Hp} {v:V} {u:Value},aO (jH CX P w K mg base N i d f cdv A outer s H E) [] Y H' s'->bJ v u->Q v H'->CE outer P w H s Q u s':=
  λ{Y H' v u} J rv q=>{(v),H',J.os,J.bare,J.base,J.hok,rv,q}
 cases fl with
 | ret u=>
  let (v,Y,H',J,rv,q):=F;exact O J rv q
 | next=>
  let (Y,H',J,q):=F;exact O (v:=V.non) (u:=Value.none) J rfl q
 | brk=>
  let (_,_,_,q):=F;exact False.elim q
 | cont=>
  let (_,_,_,q):=F;exact False.elim q
section
variable {X:Cx} {x:Str} {p pos:Pos} {e:Expr} {es:List Expr} {t:TA} {id T:String} {r:List V->Hp->VK->Prop}
def HD (r:List V->Hp->VK->Prop) (t:TA):TE:=λσ H Q=>t σ H λvs H1=>r vs H1 Q
def bF (F:fP X (.builtin id) r) (N:Gl X x) (j:X.mg x=none) (B:bootBuiltins x=some (.builtin id)) (D:PA X (e::es) t) (L:x≠"__name__":=by decide) (d:(x == ("__debug__":Str))=false:=by decide)
  (J:starEach (e::es) X.env=(false,eval e X.env)::starEach es X.env:=by rfl) (i:(backTo pos (starEach es X.env)).any (·.1)=false:=by rfl):PE X (.Call (.Name x p) (e::es) [] pos) (HD r t):=by
 intro pins s σ H Q I h;refine C2 (jC I N j B ?_ L d);exact PyProof.Rows.callWith_builtin1 (uZ (D pins s σ H _ I h) λn q G H1 M y z=>F pins q σ H1 G n Q M y z) J i
def dH (F:fP X (.type T) r) (N:Gl X x) (j:X.mg x=none) (B:bootBuiltins x=some (.type T)) (D:PA X (e::es) t) (L:x≠"__name__":=by decide) (d:(x == ("__debug__":Str))=false:=by decide)
  (J:starEach (e::es) X.env=(false,eval e X.env)::starEach es X.env:=by rfl) (i:(backTo pos (starEach es X.env)).any (·.1)=false:=by rfl):PE X (.Call (.Name x p) (e::es) [] pos) (HD r t):=by
 intro pins s σ H Q I h;refine C2 (jC I N j B ?_ L d);exact K4 (uZ (D pins s σ H _ I h) λn q G H1 M y z=>F pins q σ H1 G n Q M y z) J i
end
end L2
namespace HT
open PySem PyProof.Rows
def lexLt:List Int->List Int->Bool
 | [],[]=>false
 | [],_::_=>true
 | _::_,[]=>false
 | x::xs,y::ys=>if x=y then lexLt xs ys else decide (x<y)
def lexLt_cons (x y:Int) (xs ys:List Int):lexLt (x::xs) (y::ys)=if x=y then lexLt xs ys else decide (x<y):=rfl
def lexLt_nil_nil:lexLt [] []=false:=rfl
def pU (y:Int) (ys:List Int):lexLt [] (y::ys)=true:=rfl
def pV (x:Int) (xs:List Int):lexLt (x::xs) []=false:=rfl
def Ob (A:Around) (s:Shared) (a:Int) (t:Tok) (c:Int) (u:Tok):∃e,SeqAt.EqAt A s (.int a t) (.int c u) e/\(e=true↔a=c):=
 {(a == c),SeqAt.EqAt.int_int a t c u,by simp}
def Ks (A:Around) (s:Shared) (a:Int) (t:Tok) (c:Int) (u:Tok) (prog:Program) (w:World) (E:Value->Shared->Prop) (Q:Value->Shared->Prop) (h:Q (.bool (decide (a<c))) s):
  wpAny (model prog w) A (richCompare .Lt (.int a t) (.int c u)) Q E s:=
 (PyProof.Rows.lt_int h:wpAny (model prog w) A (compareOp .Lt (.int a t) (.int c u)) Q E s)
section
open PySem.SeqAt
open PySem.AutoSeq1 (wpAny_loadPart')
open PySem.MeetsSeq PySem.MeetsSeq2 PySem.MeetsSeq3
def qY (l b:Addr) (items items2:Array Value) (n n2:Nat) (dd dd2:Option Addr) (sl sl2:Array (Option Value)) (ns ms:List Int) (hi:IntsAre items.toList ns) (hj:IntsAre items2.toList ms):
  Meets (Builtin.«tuple.__lt__» {[.ref l,.ref b],[]})
   (λ_ R s=>s.heap.get? l=some { cls:=.type "tuple",dict:=dd,data:=.seq items n,slots:=sl }/\s.heap.get? b=some { cls:=.type "tuple",dict:=dd2,data:=.seq items2 n2,slots:=sl2 } /\
    R (.ok (.ret (.bool (lexLt ns ms)))) s):=
 .of_wp λprog w A R s h=>by
  let (hp,g,d,tk,os):=s;let (hl,hb,h):=h
  let f2:=AutoSeq1.sub_tuple_tuple
  let z1:items.size=ns.length:=by rw [<- hi.length];simp
  let z2:items2.size=ms.length:=by rw [<- hj.length];simp
  wp_walk using P2 hl,P2 hb,wpAny_forIn_list _ (λrest b s'=>b.1=none/\s'={(hp),g,d,tk,os}/\∃(vs ws:List Value) (ns' ms':List Int),rest=vs.zip ws /\
   IntsAre vs ns'/\IntsAre ws ms'/\ns'.length+items2.size=ms'.length+items.size/\R (.ok (.ret (.bool (lexLt ns' ms')))) {(hp),g,d,tk,os}) _
  case turn=>
   rintro⟨y,x⟩ rest b s' ⟨hb',rfl,vs,ws,ns',ms',hz,hvi,hwi,hlen,hR⟩
   cases hvi with
   | nil=>rw [List.zip_nil_left] at hz;cases hz
   | cons a t hvi'=>
    cases hwi with
    | nil=>rw [List.zip_nil_right] at hz;cases hz
    | cons c u hwi'=>
     rw [M4] at hz
     injection hz with hyx hrest
     injection hyx with hy hx
     subst hy hx
     rw [lexLt_cons] at hR
     simp only [j9] at hlen
     let (e,he,hiff):=Ob A.in1 {(hp),g,d,tk,os} a t c u
     refine c6 (he prog w _ _ ?_)
     cases e with
     | true=>
      rw [if_pos (hiff.mp rfl)] at hR
      wp_walk
      exact {rfl,rfl,_,_,_,_,hrest,hvi',hwi',∎,hR}
     | false=>
      rw [if_neg (λq=>absurd (hiff.mpr q) q8)] at hR
      let hri:=Ks A.in1 {(hp),g,d,tk,os} a t c u prog w
      wp_walk using hri
      exact {_,rfl,by simpa using hR}
  case fin=>
   rintro⟨b1,b2⟩ s' ⟨hb',rfl,vs,ws,ns',ms',hz,hvi,hwi,hlen,hR⟩
   simp only at hb'
   subst hb'
   let hv:lexLt ns' ms'=decide (items.size<items2.size):=by
    cases hvi with
    | nil=>
     cases hwi with
     | nil=>
      simp only [P3] at hlen;rw [lexLt_nil_nil];exact(decide_eq_false ∎).symm
     | cons c u hw=>
      simp only [P3,j9] at hlen;rw [pU];exact(decide_eq_true ∎).symm
    | cons a t hv=>
     cases hwi with
     | nil=>
      simp only [P3,j9] at hlen;rw [pV];exact(decide_eq_false ∎).symm
     | cons c u hw=>
      rw [M4] at hz;cases hz
   rw [hv] at hR;wp_walk;exact {_,rfl,by simpa [Builtin.Tuple.tupleCompareSizes] using hR}
  case h=>
   exact {rfl,rfl,items.toList,items2.toList,ns,ms,rfl,hi,hj,∎,h}
end
section
variable {prog:Program} {w:World} {A:Around} {E:Value->Shared->Prop} {s:Shared}
def lt_tupInts {l b:Addr} {items d:Array Value} {ns i:List Int} {Q:Value->Shared->Prop} (Y:IsTup s.heap l items) (U:IsTup s.heap b d) (hi:IntsAre items.toList ns) (W:IntsAre d.toList i)
  (O:A.units<cLine) (h:Q (.bool (lexLt ns i)) s):wpAny (model prog w) A (compareOp .Lt (.ref l) (.ref b)) Q E s:=by
 let ((N,dd,I,Z),J,M,n,L):=id Y;let ((G,B,D,z),j,q,S,y):=id U;simp only at M L q y;subst M L q y;exact richCompare_meets_room (op:=.Lt) {_,J,rfl} {_,j,rfl} PySem.F.slot_tuple_lt PySem.F.entry_tuple_lt (PySem.F.args_tuple_lt_2 _ _) (qY l b items d n S dd B Z z ns i hi W)
  {J,j,show Value.bool (lexLt ns i)≠Value.notImplemented/\Q (.bool (lexLt ns i)) s from {(λx=>nomatch x),h}} O
def sIx (n d:Nat):Option Int->Nat
 | none=>d
 | some v=>if v<0 then(v+(n:Int)).toNat else min v.toNat n
def sIx_none (n d:Nat):sIx n d none=d:=rfl
def sIx_nat (n d k:Nat):sIx n d (some (k:Int))=min k n:=by
 show (if (k:Int)<0 then((k:Int)+(n:Int)).toNat else min (k:Int).toNat n)=min k n;rw [if_neg ∎,N6]
def Zn (n d:Nat) (j:d<=n) (o:Option Int):sIx n d o<=n:=by
 cases o with
 | none=>exact j
 | some v=>
  show (if v<0 then(v+(n:Int)).toNat else min v.toNat n)<=n;by_cases i:v<0
  ·rw [if_pos i];omega
  ·rw [if_neg i];exact Nat.min_le_right _ _
def Ea (v:Int) (n d:Nat):(if v<0 then max (v+(n:Int)) 0 else min v (n:Int))=((sIx n d (some v):Nat):Int):=by
 show (if v<0 then max (v+(n:Int)) 0 else min v (n:Int))=(((if v<0 then(v+(n:Int)).toNat else min v.toNat n):Nat):Int);by_cases i:v<0
 ·simp only [if_pos i];omega
 ·simp only [if_neg i];omega
def Ak (lo hi:Option Int) (n:Nat):Builtin.Slice.sliceAdjust lo hi 1 (n:Int)=(((sIx n 0 lo:Nat):Int),((sIx n n hi:Nat):Int)):=by
 let h1:¬ ((1:Int)<0):=∎;unfold Builtin.Slice.sliceAdjust;simp only [h1,if_false];refine Prod.ext ?_ ?_
 ·cases lo with
  | none=>rfl
  | some v=>exact Ea v n 0
 ·cases hi with
  | none=>rfl
  | some v=>exact Ea v n n
def zE (i j:Nat):Builtin.Slice.slicePlaces (i:Int) (j:Int) 1=j-i:=by
 unfold Builtin.Slice.slicePlaces;let h1:(1:Int) > 0:=∎;simp only [h1,if_true,Int.ediv_one];split <;> omega
def oV {v:Value} {o:Option Int} {Q:Option Int->Shared->Prop} (p:IsPart v o) (h:Q o s):wpAny (model prog w) A (Builtin.Slice.slicePartIndex v) Q E s:=by
 cases p with
 | none=>exact slicePart_none h
 | int i t=>exact slicePart_int h
def gW {sl:Addr} {q j:Value} {lo hi:Option Int} {n:Nat} {Q:Int × Int × Nat->Shared->Prop} (y:s.heap.IsSliceOf sl q j .none) (pl:IsPart q lo) (z:IsPart j hi)
  (h:Q (((sIx n 0 lo:Nat):Int),1,sIx n n hi-sIx n 0 lo) s):wpAny (model prog w) A (Builtin.Slice.sliceApplied (.ref sl) (pure (n:Int))) Q E s:=by
 let (D,i,B,d):=id y;unfold Builtin.Slice.sliceApplied Builtin.Slice.sliceFields;refine c6 (c6 (A2 i d (x:=q) rfl (c6 (A2 i d (x:=j) rfl (c6 (A2 i d (x:=.none) rfl (g9 ?_)))))));refine c6 (slicePart_none ?_);show wpAny _ _ (if ((1:Int) == 0)=true then _ else _) _ _ s;rw [if_neg (by decide)];refine c6 (oV pl (c6 (oV z (c6 (g9 ?_)))));show wpAny _ _ (match Builtin.Slice.sliceAdjust lo hi 1 (n:Int) with|(lo,hi)=>pure (lo,(1:Int),Builtin.Slice.slicePlaces lo hi 1)) _ _ s;rw [Ak lo hi n];show wpAny _ _ (pure (((sIx n 0 lo:Nat):Int),(1:Int),Builtin.Slice.slicePlaces ((sIx n 0 lo:Nat):Int) ((sIx n n hi:Nat):Int) 1)) _ _ s;rw [zE];exact g9 h
def Lc (xs:Array Value) (i k:Nat):((List.range k).filterMap λ(m:Nat)=>xs[((i:Int)+(m:Int) * 1).toNat]?).toArray=((xs.toList.drop i).take k).toArray:=by
 let e:(λ(m:Nat)=>xs[((i:Int)+(m:Int) * 1).toNat]?)=λm=>xs[i+m]?:=by
  funext m;have:((i:Int)+(m:Int) * 1).toNat=i+m:=∎;rw [this]
 rw [e];have:=pick_run xs i k;rw [List.filterMap_map] at this;let d:((λx=>xs[x]?) ∘ λx=>i+x)=λm=>xs[i+m]?:=rfl;rw [d] at this;rw [this]
def getItem_tuple_cut {t sl:Addr} {items:Array Value} {F D:Value} {lo hi:Option Int} {Q:Value->Shared->Prop} (i:IsTup s.heap t items) (B:s.heap.IsSliceOf sl F D .none) (pl:IsPart F lo) (J:IsPart D hi)
  (I:¬ (sIx items.size 0 lo=0/\sIx items.size items.size hi=items.size))
  (h:Q (.ref s.heap.objs.size) { s with heap:=s.heap.push { cls:=.type "tuple",data:=.seq ((items.toList.drop (sIx items.size 0 lo)).take (sIx items.size items.size hi-sIx items.size 0 lo)).toArray } })
  (hsz:items.size<=sizeLine):wpAny (model prog w) A (getItem (.ref t) (.ref sl)) Q E s:=by
 let d:sizeOk (.seq ((items.toList.drop (sIx items.size 0 lo)).take (sIx items.size items.size hi-sIx items.size 0 lo)).toArray):=by
  show ((items.toList.drop (sIx items.size 0 lo)).take (sIx items.size items.size hi-sIx items.size 0 lo)).toArray.size<=sizeLine;rw [j6,l0,C3,l9];omega
 let M:sIx items.size items.size hi<=items.size:=Zn _ _ (c9 _) hi;let (L,z,n,G):=id B;let y:s.TypeIs (.ref sl) "slice":={(L),z,n};unfold getItem
 try with_reducible refine w9 ?_
 first|refine c6 (g9 ?_)|skip
 refine c6 (wpAny_sequenceKey i.typeIs (by decide) ?_);refine c6 (B1 (name:=Str.ofString "__getitem__") i.typeIs D0
  (E4 D0 i.typeIs entry_tuple_getitem ?_ (args_tuple_getitem _ _)));show wpAny _ _ (Builtin.Tuple.tupleItemsOf (.ref t) >>= _) _ _ s;refine c6 (tupleItemsOf_ i ?_);refine c6 (wpAny_typeOf y ?_);rw [if_pos (by decide)];refine c6 (gW B pl J ?_);let j:¬ ((((sIx items.size 0 lo:Nat):Int) == 0 && (1:Int) == 1 && (sIx items.size items.size hi-sIx items.size 0 lo) == items.size)=true):=by
  intro q;rw [B4,B4] at q;let N:((sIx items.size 0 lo:Nat):Int)=0:=eq_of_beq q.1.1;let O:sIx items.size items.size hi-sIx items.size 0 lo=items.size:=eq_of_beq q.2;exact I { ∎,∎}
 show wpAny _ _ (if (((sIx items.size 0 lo:Nat):Int) == 0 && (1:Int) == 1 && (sIx items.size items.size hi-sIx items.size 0 lo) == items.size)=true then _ else _) _ _ s;rw [if_neg j,Lc]
 first
  | exact c6 (m:=Builtin.Tuple.tupleExact _) (B8 (g9 {_,rfl,g9 h}) d)
  | exact c6 (m:=Builtin.Tuple.tupleExact _) (B8 (c6 (g9 (g9 {_,rfl,g9 h}))) d)
  | exact c6 (c6 (m:=Builtin.Tuple.tupleExact _) (B8 (g9 (g9 {_,rfl,g9 h})) d))
  | exact c6 (c6 (m:=Builtin.Tuple.tupleExact _) (B8 (g9 {_,rfl,g9 h}) d))
end
end HT
namespace L2
open PySem PySem.Spec PyProof.Rows
abbrev TO:=St->Hp->(Option Int->Hp->Prop)->Prop
def PO (X:Cx) (e:Option Expr) (t:TO):Prop:=
 ∀(pins:List (Addr × Obj)) (s:Shared) (σ:St) (H:Hp) (Q:Option Int->Hp->Prop),aO X pins σ H s->t σ H Q ->
  wpAny (model X.prog X.w) X.A (evalPart e X.env) (λu s'=>∃o H',aO X pins σ H' s'/\IsPart u o/\Q o H') X.xe s
def Qp:TO:=λ_ H Q=>Q none H
def DN (t:TE):TO:=λσ H Q=>t σ H λx H1=>∃i,x=.int i/\Q (some i) H1
def pY {ns:List Int}:∀{us:List Value},bG (ns.map V.int) us->IntsAre us ns:=by
 induction ns with
 | nil=>intro us r;rw [P4] at r;cases r;exact .nil
 | cons n ns ih=>
  intro us r;rw [r6] at r;cases r with
  | cons r1 r2=>
   let (t,e):=r1;subst e;exact .cons n t (ih r2)
section
variable {X:Cx} {e:Expr} {te:TE} {lo hi:Option Expr} {tl th:TO} {pos p2:Pos}
def nK:PO X none Qp:=by
 intro pins s σ H Q I h;rw [evalPart_none];exact g9 {none,H,I,.none,h}
def gF (h:PE X e te):PO X (some e) (DN te):=by
 intro pins s σ H Q I n;rw [evalPart_some];refine eY (h s σ H _ I n) λu z x H1 y d j=>?_;let (i,rfl,q):=j;let (t,rfl):=d;exact {some i,H1,y,.int i t,q}
def HI (X:Cx) (r:V->Option Int->Option Int->Hp->VK->Prop):Prop:=
 ∀(pins:List (Addr × Obj)) (s:Shared) (σ:St) (H:Hp) (x:V) (v vl vu:Value) (lo hi:Option Int) (sl:Addr) (Q:VK),aO X pins σ H s->bJ x v->s.heap.IsSliceOf sl vl vu .none->IsPart vl lo->IsPart vu hi->r x lo hi H Q ->
  ∃T id,typeLookup (.type T) "__getitem__"=pure (some (.builtin id))/\s.TypeIs v T/\wpAny (model X.prog X.w) X.A (getItem v (.ref sl)) (EP X pins σ Q) X.xe s
def JU (r:V->Option Int->Option Int->Hp->VK->Prop) (te:TE) (tl th:TO):TE:=λσ H Q=>te σ H λx H1=>tl σ H1 λl H2=>th σ H2 λu H3=>r x l u H3 Q
def hU {r:V->Option Int->Option Int->Hp->VK->Prop} (M:HI X r) (L:PE X e te) (B:PO X lo tl) (U:PO X hi th):PE X (.Subscript e (.Slice lo hi none p2) pos) (JU r te tl th):=by
 intro pins s σ H Q I h;refine Subscript_ (eY (L s σ H _ I h) λv J x H1 N W D=>?_);refine wpAny_Slice (gM (B pins J σ H1 _ N D) λi z ⟨l,H2,I2,pl,q2⟩=>gM (U pins z σ H2 _ I2 q2) λj d n=>?_);let (u,y,Y,Z,F):=n;rw [evalPart_none];refine g9 ?_;let O:aO X pins σ y { d with heap:=d.heap.push { cls:=.type "slice",data:=.fields #[i,j,.none] } }:=Y.kept (t':=d.toks) λb ob q=>f6 _ q;let (T,id,S,ht,G):=M pins { d with heap:=d.heap.push { cls:=.type "slice",data:=.fields #[i,j,.none] } } σ y x v i j l u d.heap.objs.size Q O W (Heap.IsSliceOf.new ..) pl Z F;show wpAny (model X.prog X.w) X.A (subscriptTail e (.Slice lo hi none p2) v (.ref d.heap.objs.size)) (EP X pins σ Q) X.xe { d with heap:=d.heap.push { cls:=.type "slice",data:=.fields #[i,j,.none] } };exact tail_any (ops:=[.ref d.heap.objs.size,v]) ht S G (by with_unfolding_all rfl)
def gR (xs:List V) (lo hi:Option Int):List V:=(xs.drop (HT.sIx xs.length 0 lo)).take (HT.sIx xs.length xs.length hi-HT.sIx xs.length 0 lo)
def mS (xs:List V) (lo hi:Option Int):(gR xs lo hi).length<=xs.length:=by
 unfold gR;rw [l0,C3];omega
def IK (K:PySem.W.Frag):V->Option Int->Option Int->Hp->VK->Prop:=λx lo hi H Q=>∃a xs,x=.ref a/\cA K H a xs /\
 ¬ (HT.sIx xs.length 0 lo=0/\HT.sIx xs.length xs.length hi=xs.length)/\∀p,H p=none->Q (.ref p) (aR H p (.tup (gR xs lo hi)))
def yV:HI X (IK X.K):=by
 intro pins s σ H x v M L lo hi N Q I D y z G h;let (a,xs,rfl,B,F,q):=h;cases D;let (i,r,n,j):=I.tuple B;let d:i.toArray.size=xs.length:=by rw [j6];exact r.length.symm
 refine {"tuple",_,PyProof.Rows.slot_tuple_getitem.lookup,n.typeIs,?_};refine HT.getItem_tuple_cut n y z G (by rw [d];exact F) ?_ (by rw [d];exact j);rw [d];refine {.ref s.heap.objs.size,_,I.laid (t':=s.toks) (o:=.tup (gR xs lo hi)) (λb J q=>f6 _ q) (c9 _) ?_,rfl,q _ (I.hok.fresh (c9 _))};exact {l7 (mS xs lo hi) j,_,(r.drop (HT.sIx xs.length 0 lo)).take (HT.sIx xs.length xs.length hi-HT.sIx xs.length 0 lo),IsTup.new _ _}
end
def Ni (n:Nat) (i:Int):Option Nat:=if 0<=i then(if i<n then some i.toNat else none) else if -(n:Int)<=i then some (i+n).toNat else none
def kB {α:Type} (xs:List α) (i:Int):Option α:=(Ni xs.length i).bind λj=>xs[j]?
def Dk {n:Nat} {i:Int} {j:Nat} (h:Ni n i=some j):seqIndex? i n=some j/\j<n/\-(n:Int)<=i/\i<n:=by
 unfold Ni at h;by_cases d:0<=i
 ·rw [if_pos d] at h;by_cases h1:i<n
  ·rw [if_pos h1] at h;let e:i.toNat=j:=Option.some.inj h;exact {by rw [seqIndex_of d h1,e],∎,∎,h1}
  ·rw [if_neg h1] at h;cases h
 ·rw [if_neg d] at h;by_cases h1:-(n:Int)<=i
  ·rw [if_pos h1] at h;let e:(i+n).toNat=j:=Option.some.inj h;exact {by rw [seqIndex_neg ∎ h1,e],∎,h1,∎}
  ·rw [if_neg h1] at h;cases h
def Ec {α:Type} {xs:List α} {i:Int} {v:α} (h:kB xs i=some v):∃j,seqIndex? i xs.length=some j/\xs[j]?=some v/\j<xs.length/\-(xs.length:Int)<=i/\i<xs.length:=by
 unfold kB at h;cases e:Ni xs.length i with
 | none=>rw [e] at h;cases h
 | some j=>
  rw [e] at h;let (h1,h2,n,d):=Dk e;exact {(j),h1,h,h2,n,d}
def bW {α:Type} {xs:List α} {j:Nat} {v:α} (h:xs[j]?=some v):kB xs (j:Int)=some v:=by
 let d:j<xs.length:=(c8.mp h).1;let e:Ni xs.length (j:Int)=some j:=by
  unfold Ni;rw [if_pos ∎,if_pos ∎];simp
 unfold kB;rw [e];exact h
def xY {α:Type} (xs:List α) (v:α):kB (xs++[v]) (-1)=some v:=by
 let d:(xs++[v]).length=xs.length+1:=by simp
 let e:Ni (xs++[v]).length (-1)=some xs.length:=by
  unfold Ni;rw [d,if_neg (by decide),if_pos ∎];congr 1;omega
 unfold kB;rw [e];show (xs++[v])[xs.length]?=some v;simp
def oG (b:Expr):Prop:=∀o i,subscripted b false o i=operate [o,i] (getItem o i)
def JO (X:Cx) (r:R2):Prop:=
 ∀(value slice:Expr) (pins:List (Addr × Obj)) (s:Shared) (σ:St) (H:Hp) (x y:V) (v u:Value) (Q:VK),aO X pins σ H s->bJ x v->bJ y u->r x y H Q ->
  subscripted slice false v u=operate [v,u] (getItem v u)->wpAny (model X.prog X.w) X.A (subscriptTail value slice v u) (EP X pins σ Q) X.xe s
def JM (X:Cx) (id:String) (r:V->List V->Hp->VK->Prop):Prop:=
 ∀(pins:List (Addr × Obj)) (s:Shared) (σ:St) (H:Hp) (x:V) (xs:List V) (v:Value) (us:List Value) (Q:VK),aO X pins σ H s->bJ x v->bG xs us->r x xs H Q ->
  wpAny (model X.prog X.w) X.A (call (.builtin id) (v::us)) (EP X pins σ Q) X.xe s
section
variable {X:Cx} {a b:Expr} {ta tb:TE} {pos:Pos}
def dQ {r:R2} (D:JO X r) (z:PE X a ta) (n:PE X b tb) (i:oG b):PE X (.Subscript a b pos) (Qe r ta tb):=by
 intro pins s σ H Q I h;exact Subscript_ (BI z n I h λv u d x y H2 j B F q=>D a b pins d σ H2 x y v u Q j B F q (i _ _))
inductive CF (K:PySem.W.Frag) (x y:V) (H:Hp) (Q:VK):Prop|mk (p:_) (xs:_) (i:_) (v:_) (_:x=.ref p) (_:y=.int i) (_:dD K H p xs) (_:kB xs i=some v) (_:Q v H)
def IP (K:PySem.W.Frag):R2:=λx y H Q=>CF K x y H Q
inductive CD (K:PySem.W.Frag) (x y:V) (H:Hp) (Q:VK):Prop|mk (p:_) (xs:_) (i:_) (v:_) (_:x=.ref p) (_:y=.int i) (_:cA K H p xs) (_:kB xs i=some v) (_:Q v H)
def Ku (K:PySem.W.Frag):R2:=λx y H Q=>CD K x y H Q
def jV:JO X (IP X.K):=by
 intro value slice pins s σ H x y v u Q I rx ry h hs;let (p,xs,i,z,rfl,rfl,hq,he,q):=h;cases rx;let (t,rfl):=ry;let (its,r,pl,hz):=I.list hq;let (j,h1,h2,h3,h4,h5):=Ec he;let (w,ew,rw'):=r.get h2;let hl:=r.length;let hn:=mE;let fin:EP X pins σ Q w s:={(z),H,I,rw',q};by_cases h0:0<=i
 ·let hj:i.toNat=j:=by
   rw [seqIndex_of h0 h5] at h1;exact Option.some.inj h1
  exact item_listR pl.isList h0 ∎ (by rw [hj];simpa using ew) fin hs
 ·let hj:(i+(its.toArray.size:Int)).toNat=j:=by
   rw [seqIndex_neg ∎ h4] at h1;rw [j6,<- hl];exact Option.some.inj h1
  exact subscriptTail_builtinR (x:=w) pl.isList.typeIs slot_list_getitem.lookup
   (wpAny_getItem_list_neg (Q:=λr s'=>r=w/\EP X pins σ Q r s') pl.isList ∎ (by rw [j6] <;> omega) ∎ (by rw [hj];simpa using ew) {(rfl),fin}) hs
def dU:JO X (Ku X.K):=by
 intro value slice pins s σ H x y v u Q I rx ry h hs;let (p,xs,i,z,rfl,rfl,hq,he,q):=h;cases rx;let (t,rfl):=ry;let (its,r,pl,hz):=I.tuple hq;let (j,h1,h2,h3,h4,h5):=Ec he;let (w,ew,rw'):=r.get h2;let hl:=r.length;let hn:=mE;let fin:EP X pins σ Q w s:={(z),H,I,rw',q};exact subscriptTail_builtinR (x:=w) pl.typeIs slot_tuple_getitem.lookup
  (getItem_tuple (j:=j) (Q:=λr s'=>r=w/\EP X pins σ Q r s') pl ∎ ∎ (by rw [j6,<- hl];exact h1) (by simpa using ew) {(rfl),fin}) hs
def zV (d:List Value) (n j:Nat) (u:Value):Obj.mapSeq (·.setIfInBounds j u) { cls:=.type "list",data:=.seq d.toArray n }={ cls:=.type "list",data:=.seq (d.set j u).toArray n }:=by
 simp [Obj.mapSeq]
theorem aO.lst {pins:List (Addr × Obj)} {σ:St} {H:Hp} {s:Shared} {p:Addr} {xs:List V} (I:aO X pins σ H s) (h:H p=some (.lst xs)):
  ∃(d:List Value) (n:Nat),bG xs d/\s.heap.get? p=some { cls:=.type "list",data:=.seq d.toArray n }/\xs.length<=sizeLine:=by
 let (z,d,n,r,e):=I.hok p _ h;exact {(d),n,r,e,z}
def aO.lstUpd {pins:List (Addr × Obj)} {σ:St} {H:Hp} {s:Shared} {p:Addr} {xs ys:List V} {d its':List Value} {n i:Nat} {f:Obj->Obj} (I:aO X pins σ H s) (h:H p=some (.lst xs))
  (B:s.heap.get? p=some { cls:=.type "list",data:=.seq d.toArray n }) (j:f { cls:=.type "list",data:=.seq d.toArray n }={ cls:=.type "list",data:=.seq its'.toArray i }) (r:bG ys its') (y:ys.length<=sizeLine) (t:Nat):
  aO X pins σ (aR H p (.lst ys)) { s with heap:=s.heap.update p f,toks:=t }:=by
 let e:(s.heap.update p f).get? p=some { cls:=.type "list",data:=.seq its'.toArray i }:=by
  rw [J7 f B (by rw [j] <;> rfl),j]
 refine I.write (x:=p) (e:=p) (by rw [h];trivial) (.inl rfl) (λb u z q=>(C6 _ _ (E2 z)).trans q) {_,e} ?_;exact {(y),its',i,r,e}
def EV:V->V->V->Hp->(Hp->Prop)->Prop:=λo i v H Q=>∃p xs k j,o=.ref p/\i=.int k/\H p=some (.lst xs)/\Ni xs.length k=some j/\Q (aR H p (.lst (xs.set j v)))
def Iy:GU X EV:=by
 intro pins s σ H o i v ov iv u Q I ro ri rv h;let (p,xs,k,j,rfl,rfl,hp,hj,q):=h;cases ro;let (t,rfl):=ri;let (its,n,r,ho,hz):=I.lst hp;let (h1,h2,h3,h4):=Dk hj;let hl:=r.length;let hn:=mE;let I':aO X pins σ (aR H p (.lst (xs.set j v))) { s with heap:=s.heap.update p (Obj.mapSeq (·.setIfInBounds j u)) }:=
  I.lstUpd hp ho (zV its n j u) (r.set rv j) (by rw [L8];exact hz) s.toks
 by_cases h0:0<=k
 ·let hk:k.toNat=j:=by
   rw [seqIndex_of h0 h4] at h1;exact Option.some.inj h1
  exact PySem.W.ki_setAt ho h0 ∎ (by rw [j6,<- hl];exact h4) (by rw [hk];exact {_,I',q})
 ·let hk:(k+(its.toArray.size:Int)).toNat=j:=by
   rw [seqIndex_neg ∎ h3] at h1;rw [j6,<- hl];exact Option.some.inj h1
  exact PySem.W.ki_setBack ho ∎ (by rw [j6,<- hl];exact h3) ∎ (by rw [hk];exact {_,I',q})
def tO (lo hi:Option Int) (n:Nat):(sliceBounds lo hi none n).1=((HT.sIx n 0 lo:Nat):Int)/\(sliceBounds lo hi none n).2.1=((HT.sIx n n hi:Nat):Int)/\(sliceBounds lo hi none n).2.2=1:=by
 refine {?_,?_,rfl}
 ·cases lo with
  | none=>simp [sliceBounds,HT.sIx]
  | some i=>
   simp only [sliceBounds,HT.sIx,Option.getD_none,show (1:Int) > 0 by decide,if_true];by_cases h:i<0
   ·simp only [h,if_true] <;> omega
   ·simp only [h,if_false] <;> omega
 ·cases hi with
  | none=>simp [sliceBounds,HT.sIx]
  | some i=>
   simp only [sliceBounds,HT.sIx,Option.getD_none,show (1:Int) > 0 by decide,if_true];by_cases h:i<0
   ·simp only [h,if_true] <;> omega
   ·simp only [h,if_false] <;> omega
def qZ (d:List Value) (lo hi:Option Int):slicePick d.toArray lo hi none=((d.drop (HT.sIx d.length 0 lo)).take (HT.sIx d.length d.length hi-HT.sIx d.length 0 lo)).toArray:=by
 let (h1,h2,i):=tO lo hi d.toArray.size;unfold slicePick;rw [h1,h2,i];simp only [sliceRange_one,pick_run,j6] <;> rfl
def IL (K:PySem.W.Frag):V->Option Int->Option Int->Hp->VK->Prop:=λx lo hi H Q=>∃a xs,x=.ref a/\dD K H a xs/\∀p,H p=none->Q (.ref p) (aR H p (.lst (gR xs lo hi)))
def Bq:HI X (IL X.K):=by
 intro pins s σ H x v L J lo hi M Q I D n z F h;let (a,xs,rfl,B,q):=h;cases D;let (j,r,i,y):=I.list B;let d:=r.length;refine {"list",_,slot_list_getitem.lookup,i.isList.typeIs,?_};refine wpAny_getItem_list_slice i.isList n z F .none (by simp) ?_ (by rw [j6] <;> omega);rw [qZ,<- d];refine {.ref s.heap.objs.size,_,I.laid (t':=s.toks) (o:=.lst (gR xs lo hi)) (λb G q=>f6 _ q) (c9 _) ?_,rfl,q _ (I.hok.fresh (c9 _))};exact {l7 (mS xs lo hi) y,_,0,(r.drop (HT.sIx xs.length 0 lo)).take (HT.sIx xs.length xs.length hi-HT.sIx xs.length 0 lo),i9 _ rfl}
def cG:fP X (.builtin "len") (λxs H Q=>∃p ys,xs=[.ref p]/\(dD X.K H p ys\/cA X.K H p ys)/\Q (.int ys.length) H):=by
 intro pins s σ H xs us Q I r h;let (p,ys,rfl,hq,q):=h;let (u,rfl,rx):=iT r;cases rx;let hn:=mE;rcases hq with hq|hq
 ·let (its,r',pl,hz):=I.list hq;let hlen:=r'.length;exact Calls.call_len_list pl.isList (by simp only [j6] <;> omega) {.int ys.length,H,I.tok _,{s.toks+1,by rw [j6,hlen]},q}
 ·let (its,r',pl,hz):=I.tuple hq;let hlen:=r'.length;exact len_tuple pl (by simp only [j6] <;> omega) {.int ys.length,H,I.tok _,{s.toks+1,by rw [j6,hlen]},q}
def uS:fP X (.builtin "len") (λxs H Q=>∃z,xs=[.str z]/\z.length<=sizeLine/\Q (.int z.length) H):=by
 intro pins s σ H xs us Q I r h;let (z,rfl,hz,q):=h;let (u,rfl,t,rfl):=iT r;let hn:=mE;exact len_str ∎ {.int z.length,H,I.tok _,{_,rfl},q}
def cT:fP X (.type "tuple") (λxs H Q=>∃p ys,xs=[.ref p]/\((dD X.K H p ys/\∀l,H l=none->Q (.ref l) (aR H l (.tup ys)))\/(cA X.K H p ys/\Q (.ref p) H))):=by
 intro pins s σ H xs J Q I r h;let (p,ys,rfl,h):=h;let (u,rfl,G):=iT r;cases G;rcases h with ⟨j,q⟩|⟨j,q⟩
 ·let (d,n,i,z):=I.list j;let y:=n.length;refine call_tuple_list i.isList (λh' D=>?_) (by simp only [j6] <;> omega);let B:aO X pins σ H { s with heap:=h' }:=I.kept (t':=s.toks) D;let F:aO X pins σ (aR H h'.objs.size (.tup ys)) { s with heap:=h'.push { cls:=.type "tuple",data:=.seq d.toArray } }:=
   B.laid (t':=s.toks) (λb o e=>f6 _ e) (c9 _) (show bL X.prog X.w _ _ _ (.tup ys) from {z,d,n,IsTup.new _ _})
  exact {.ref h'.objs.size,_,F,rfl,q _ (B.hok.fresh (c9 _))}
 ·let (d,n,i,z):=I.tuple j;exact call_tuple_same i {.ref p,H,I,rfl,q}
def HP (K:PySem.W.Frag) (T:String) (x:V) (H:Hp):Prop:=match x with
 | .str _=>T="str"
 | .int _=>T="int"
 | .ref p=>(T="list"/\∃xs,dD K H p xs)\/(T="tuple"/\∃o,K.lookup p=some o/\o.cls=.type "tuple"/\o.dict=none) \/
   (T="dict"/\((∃kvs,H p=some (.dK kvs))\/∃kvs,H p=some (.dT kvs)))\/(T="set"/\∃S n,H p=some (.set S n))
 | _=>False
def Hy {pins:List (Addr × Obj)} {σ:St} {H:Hp} {s:Shared} {T:String} {x:V} {v:Value} (I:aO X pins σ H s) (r:bJ x v) (j:HP X.K T x H):
  s.TypeIs v T/\∀a,v=.ref a->∃D,s.heap.get? a=some D/\D.dict=none:=by
 cases x with
 | str z=>
  let (t,rfl):=r;cases (show T="str" from j);exact {typeIs_str s z t,λ_ e=>nomatch e}
 | int i=>
  let (t,rfl):=r;cases (show T="int" from j);exact {typeIs_int s i t,λ_ e=>nomatch e}
 | ref p=>
  cases r;rcases j with ⟨rfl,xs,L⟩|⟨rfl,o,d,J,B⟩|⟨rfl,d⟩|⟨rfl,S,n,d⟩
  ·let (G,_,F,_):=I.list L;refine {F.isList.typeIs,λa e=>?_};cases e;let (o,n,e,c,B,_):=F;exact {(o),e,B}
  ·refine {{o,I.kIn p o d,J},λa e=>?_};cases e;exact {o,I.kIn _ o d,B}
  ·let z:∃o,s.heap.get? p=some o/\o.ExactDict:=by
    rcases d with ⟨q,d⟩|⟨q,d⟩
    ·let (_,_,_,_,o,_,_,e,ex,_):=I.hok p _ d;exact {(o),e,ex}
    ·let (_,_,_,_,o,_,_,e,ex,_):=I.hok p _ d;exact {(o),e,ex}
   let (o,e,ex):=z;refine {{(o),e,ex.1},λa y=>?_};cases y;exact {(o),e,ex.2.1}
  ·let (o,_,_,_,e,ex,_):=I.hok p _ d;refine {{(o),e,ex.1},λa y=>?_};cases y;exact {(o),e,ex.2.1}
 | _=>exact False.elim j
def DV (K:PySem.W.Frag) (T:String) (r:V->List V->Hp->VK->Prop) (to:TE):TE:=λσ H Q=>to σ H λx H1=>HP K T x H1/\r x [] H1 Q
def IC (K:PySem.W.Frag) (T:String) (r:V->List V->Hp->VK->Prop) (to:TE) (t:TA):TE:=λσ H Q=>to σ H λx H1=>HP K T x H1/\t σ H1 λxs H2=>r x xs H2 Q
variable {o e:Expr} {es:List Expr} {to:TE} {t:TA} {name:Str} {apos cpos:Pos} {T id:String} {r:V->List V->Hp->VK->Prop}
def Zw (J:PlainAttrs T) (j:Slot T name id) (n:typeOf (.builtin id)=pure (.type "method_descriptor")) (B:JM X id r) (L:PE X o to)
  (d:attributeBase o name X.env (eval o X.env)=eval o X.env:=by rfl) (i:(apos.endLine == cpos.line)=true:=by rfl):PE X (.Call (.Attribute o name apos) [] [] cpos) (DV X.K T r to):=by
 intro pins s σ H Q I h;refine wpAny_Call_method0_late d i (eY (L s σ H _ I h) λv D x H1 z y q=>?_);let (F,G):=q;let (h1,h2):=Hy z y F;exact {T,id,J,j,n,h1,h2,O1 rfl (PySem.evalArgs_none (B pins D σ H1 x [] v [] Q z y .nil G))}
def iX (Y:PlainAttrs T) (n:Slot T name id) (y:typeOf (.builtin id)=pure (.type "method_descriptor")) (J:JM X id r) (Z:PE X o to) (S:PA X (e::es) t)
  (i:attributeBase o name X.env (eval o X.env)=eval o X.env:=by rfl)
  (q:((backTo cpos (starEach (e::es) X.env)).all (λx=>!x.1) && (backToKw cpos (keywordEach [] X.env)).all (λx=>x.1.isSome)
   && decide ((e::es).length+([]:List Keyword).length+(if ([]:List Keyword).isEmpty then 0 else 1)<30))=true:=by rfl)
  (j:(apos.endLine == cpos.line)=true:=by rfl) (M:starEach (e::es) X.env=(false,eval e X.env)::starEach es X.env:=by rfl) (d:(backTo cpos (starEach es X.env)).any (·.1)=false:=by rfl):
  PE X (.Call (.Attribute o name apos) (e::es) [] cpos) (IC X.K T r to t):=by
 intro pins s σ H Q I h;refine wpAny_Call_method_late i q j rfl (eY (Z s σ H _ I h) λv N x H1 D F z=>?_);let (W,L):=z;let (h1,h2):=Hy D F W;refine {T,id,Y,n,y,h1,h2,?_};let B:=@S cpos pins N σ H1 _ D L;rw [M] at B ⊢;refine O1 (by show (false || (backTo cpos (starEach es X.env)).any (·.1))=false;rw [d] <;> rfl) (P5 ?_);exact gM B λU G ⟨O,H2,I2,r2,q2⟩=>J pins G σ H2 x O v U Q I2 F r2 q2
end
def LD (X:Cx) (id:String) (r:V->List V->Hp->VK->Prop):Prop:=
 ∀(pins:List (Addr × Obj)) (s:Shared) (σ:St) (H:Hp) (x:V) (xs:List V) (v:Value) (us:List Value) (Q:VK),aO X pins σ H s->bJ x v->bG xs us->r x xs H Q ->
  wpAny (model X.prog X.w) X.A (call (.builtin id) (v::us)) (EP X pins σ Q) X.xe s
def bG.zero {us:List Value} (h:bG [] us):us=[]:=by
 cases h;rfl
def bG.one {x:V} {us:List Value} (h:bG [x] us):∃u,us=[u]/\bJ x u:=by
 cases h with
 | cons r t=>cases bG.zero t;exact {_,rfl,r}
section
variable {X:Cx} {pins:List (Addr × Obj)} {σ:St} {H:Hp} {s:Shared} {l b:Addr} {xs ys zs:List V}
def aO.lset {d its':List Value} {n:Nat} {f:Array Value->Array Value} {t':Nat} (I:aO X pins σ H s) (B:H l=some (.lst xs))
  (e:s.heap.get? l=some { cls:=.type "list",data:=.seq d.toArray n }) (i:f d.toArray=its'.toArray) (z:bG ys its') (j:ys.length<=sizeLine):
  aO X pins σ (aR H l (.lst ys)) { s with heap:=s.heap.update l (Obj.mapSeq f),toks:=t' }:=by
 let q:=PySem.IsL.update e f;rw [i] at q;refine I.write (x:=l) (e:=l) (by rw [B];exact trivial) (.inl rfl) (λF u y D=>(C6 s.heap (Obj.mapSeq f) (E2 y)).trans D) {_,q} ?_;exact {j,its',_,z,q}
def aO.lnew {d:List Value} {t':Nat} (I:aO X pins σ H s) (j:bG ys d) (i:ys.length<=sizeLine):
  aO X pins σ (aR H s.heap.objs.size (.lst ys)) { s with heap:=s.heap.push { cls:=.type "list",data:=.seq d.toArray },toks:=t' }:=
 I.laid (λ_ _ q=>f6 _ q) (c9 _) {i,d,0,j,i9 _ rfl}
theorem aO.fresh (I:aO X pins σ H s):H s.heap.objs.size=none:=I.hok.fresh (c9 _)
def aO.lstM (I:aO X pins σ H s) (i:H l=some (.lst xs)):xs.length<=sizeLine/\∃(d:List Value) (n:Nat),bG xs d/\xs.length=d.length/\s.heap.get? l=some { cls:=.type "list",data:=.seq d.toArray n }:=by
 let (z,d,n,r,e):=I.hok l _ i;exact {(z),d,n,r,r.length,e}
end
section
variable {X:Cx}
def uB:V->List V->Hp->VK->Prop:=λx vs H Q=>∃l xs y,x=.ref l/\vs=[y]/\H l=some (.lst xs)/\xs.length<sizeLine/\Q .non (aR H l (.lst (xs++[y])))
def cV:LD X "list.append" uB:=by
 intro pins s σ H x L v G Q I B D h;let (l,xs,y,rfl,rfl,i,J,q):=h;cases B;let (u,rfl,j):=D.one;let (z,d,n,r,M,e):=I.lstM i;refine call_meets F.slot_list_append {_,e,rfl} F.entry_list_append (F.args_list_append_2 _ _) (PySem.list_append l d.toArray n u (by rw [j6];omega)) {e,?_};refine {.non,_,I.lset (its':=d++[u]) i e (by simp) (r.append (.cons j .nil)) ?_,rfl,q};rw [i7,F0];omega
inductive CG (x y:V) (H:Hp) (Q:VK):Prop|mk (l:_) (b:_) (xs:_) (zs:_) (_:x=.ref l) (_:y=.ref b) (_:H l=some (.lst xs)) (_:H b=some (.lst zs)) (_:xs.length+zs.length<=sizeLine) (_:∀p,H p=none->Q (.ref p) (aR H p (.lst (xs++zs))))
def IR:R2:=λx y H Q=>CG x y H Q
def AA:kM X (binaryOp .Add) IR:=by
 intro pins s σ H x y v u Q I F M h;let (l,b,xs,zs,rfl,rfl,J,G,S,q):=h;cases F;cases M;let (z,i,n,r,O,e):=I.lstM J;let (U,d,N,B,D,j):=I.lstM G;refine PySem.P.add_list e j ?_ (by rw [j6,j6];omega);let L:i.toArray++d.toArray=(i++d).toArray:=by simp
 rw [L];exact {.ref _,_,I.lnew (t':=s.toks) (r.append B) (by rw [i7];omega),rfl,q _ I.fresh}
section
variable {prog:Program} {w:World} {A:Around} {E:Value->Shared->Prop} {s:Shared}
set_option maxRecDepth 100000 in
end
end
end L2
namespace Att
open PySem PySem.W PySem.Calls PyProof.Rows
def mW {P:Params} {h:Heap}:∀(ns:List Int) (vs:List Value),WellAll P h vs (ns.map WData.int)->IntsAre vs ns:=by
 intro ns
 induction ns with
 | nil=>
  intro vs w;rw [P4] at w;cases w;exact .nil
 | cons n ns ih=>
  intro vs w;rw [r6] at w;cases w with
  | cons a b=>
   cases a;exact .cons _ _ (ih _ b)
def Eu {l:OpenLaw} {n:Nat} (N:l.most=some n) {P:Params} {h:Heap} {args:List WData} {y:List Value}
  (j:l.row.toRowW.claim.pre args=true) (F:WellAll P h y args):
  ∃a J i,y=[Value.ref a]/\args=[WData.list (i.map WData.int)]/\h.get? a=some { cls:=.type "list",data:=.seq J.toArray }/\IntsAre J i/\i.length<=n:=by
 let G:WShape.hasAll [] args [.list .int]=true:=(pre_splitW j).1;let I:l.pre.holds [] { args:=args }=true:=(pre_splitW j).2;let (d,r,rfl,h1,h2):=hasAllW_cons G;obtain rfl:=hasAllW_nil h2;let (xs,rfl,M):=hasW_list h1;let (i,rfl):=items_int M;let z:i.length<=n:=by
  unfold OpenLaw.pre at I;let B:(WTm.not (.lt (.lit (.int (n:Int))) (.len (.arg 0)))).holds [] { args:=[.list (i.map .int)] }=true:=by
   let B:=(holds_andW I).1;rw [N] at B;exact B
  let D:=condW_of B (w_not (w_lt w_lit (w_len_list (w_arg rfl))));rw [g7] at D;refine Nat.le_of_not_lt λq=>?_;let L:(n:Int)<((i.length:Nat):Int):=∎
  first
   | (rw [decide_eq_true L] at D;exact absurd D (by decide))
   | (simp at D;omega)
 cases F with
 | cons w1 w2=>
  cases w2;cases w1 with
  | list ho hall=>exact {_,_,i,rfl,rfl,ho,mW i _ hall,z}
def Fa (l:OpenLaw) (args:List WData):l.row.toRowW.claim.post args (.bool true) args=true:=
 postW_of (r:=l.row.toRowW) (X:=(true == true))
  (show WShape.has [] (.bool true) .bool=true by first|rfl|decide|simp [WShape.has,WShape.arms,WShape.armsAll])
  (show (WTm.eq .res (.lit (.bool true))).value [] { args:=args,res:=some (.bool true),after:=args }=some (.bool (true == true)) from w_eq_bool (w_res rfl) w_lit) rfl
def attach_call {l:OpenLaw} {n:Nat} {q:Program} {j:List Str} {XP:(Str->Option Value)->Heap->Prop} {Z:World->Heap->Prop} {d:DefRec}
  (hn:l.most=some n) (O:d.params.defaults=[])
  (y:∀(w:World) (s₀ i:Shared) (mg S:Str->Option Value) (F:Addr) (o:Obj) (pm L B:Value) (a:Addr) (vs:List Value) (ns:List Int),
   Ground q j [] XP w s₀ mg S i.heap->Z w i.heap ->
   i.heap.get? F=some o->o.data=.func (docDef d.name d.params d.body d.scope pm L B)->i.heap.CodeRec L d.name->mg d.name=some (.ref F) ->
   i.heap.get? a=some { cls:=.type "list",data:=.seq vs.toArray }->IntsAre vs ns->ns.length<=n->i.gens=#[] ->
   codeAny (model l.prog w) callerA (.call (.ref F) {[.ref a],[]}) (λr s'=>r=.ok (.ret (.bool true))/\OldK i.heap s'.heap/\s'.os=i.os/\AllBare s'.gens) i):
  WalkO q j XP Z l.row.toRowW d [] (λf vs=>PySem.call f vs):=by
 intro w s₀ i mg S G Y F o pm L B dV kV ho hd N W U hg a2 a1 as I a0 a3 M a4;obtain rfl:dV=.none:=Dflts.none W O;obtain rfl:kV=.none:=Dflts.noKw W;let (a,vs,ns,rfl,rfl,D,z,J):=Eu hn I M;refine enter_call (D5 (y w s₀ i mg S F o pm L B a vs ns G Y ho (fd_plain hd) N U D z J hg) λr s' hq=>?_);let (rfl,h2,h3,h4):=hq;exact {.inl {.bool true,.bool true,[],rfl,λ_=>rfl,.bool true,Fa l _,λ_=>{G9,λ_ hm=>(nomatch hm)}},h2,h3,h4}
section
variable {prog:Program} {w:World} {A:Around} {E:Value->Shared->Prop} {s:Shared} {K:Frag}
end
end Att
namespace L2
open PySem PySem.Spec PyProof.Rows
def rL {vs:List Value} {ns:List Int} (h:IntsAre vs ns):bG (ns.map V.int) vs:=by
 induction h with
 | nil=>exact .nil
 | cons n t _ h=>exact .cons {(t),rfl} h
def aZ (s:Stmt) (j:Nat):Stmt:=match s with
 | .ClassDef _ _ _ body _ _ _ _ _ _ _=>body.getD j (.Pass ⟨0,0,0,0⟩)
 | _=>.Pass ⟨0,0,0,0⟩
def eG (s:Stmt):Arguments:=match s with
 | .FunctionDef _ a _ _ _ _ _ _ _ _=>a
 | _=>{ posonlyargs:=[],args:=[],vararg:=none,kwonlyargs:=[],kw_defaults:=[],kwarg:=none,defaults:=[] }
def bV (s:Stmt):List Stmt:=match s with
 | .FunctionDef _ _ b _ _ _ _ _ _ _=>b
 | _=>[]
def aG (s:Stmt):Scope:=match s with
 | .FunctionDef _ _ _ _ _ _ sc _ _ _=>sc
 | _=>{ kind:=.function,names:=[],isGenerator:=false,isCoroutine:=false }
abbrev cX:mK:=λ_ _ _ _ _ _=>False
abbrev E0:XK:=λ_ _ _=>False
def aN {X:Cx}:dX cX X E0:=λ_ _ _ _ _ _ _ h=>h.elim
structure tD (K:PySem.W.Frag) (x qual:Str) (st:Stmt) (f:Addr) (fd:FuncData):Prop where
 ex:∃(oc:Value) (od:Option Addr) (kV doc pm:Value) (an:Option Addr) (cdv ct:Value) (osl:Array (Option Value)),
  fd=PySem.W.fnOf x qual (eG st) (bV st) (aG st) .none kV doc pm an cdv ct/\K.lookup f=some ⟨oc,od,.func fd,osl⟩/\PySem.W.codeIn K cdv qual=true
 kp:PySem.W.keepIn K (.ref f)=true
section
variable {P:Program} {w:World} {K:PySem.W.Frag} {mg:Str->Option Value} {base:Heap}
def tD.ok {x d:Str} {st:Stmt} {f:Addr} {fd:FuncData} {N ps:List Str} {k:Nat} {sp:Sp} (F:tD K x d st f fd) (S:aJ N ps (aG st)) (y:∀vs H Q E,sp vs H Q E->vs.length=ps.length)
  (i:∀(cdv:Value) (A:Around) (outer:List Env) (s:Shared) (H:Hp) (vs:List V) (Q:VK) (E:XK),Room k (A.deeper (envOfC d (aG st) s.heap.objs.size f cdv))->sp vs H Q E ->
   let X:=(jH cX P w K mg base N d (aG st) f cdv A outer s H E).nox
   let D:eK:={ nx:=λ_ H'=>Q .non H',rt:=Q }
   ∃t,qX X (bV st) t/\t D (dJ N vs) H):bK P w K mg base cX (k+1) f fd ps sp:=by
 let (U,M,kV,z,O,J,cdv,L,G,rfl,I,j):=F.ex;refine Nx I j S y λA outer s H vs Q E B n=>?_;let (t,h,q):=i cdv A outer s H vs Q E B n;exact {(t),h.nox,q}
def tD.binds {x d:Str} {st:Stmt} {f:Addr} {fd:FuncData} {ps:List Str} (F:tD K x d st f fd)
  (h:∀(kV i pm:Value) (j:Option Addr) (cdv ct:Value) (us:List Value),us.length=ps.length->bindArgs (PySem.W.fnOf x d (eG st) (bV st) (aG st) .none kV i pm j cdv ct) {us,[]}=pure (ps.zip us)):eX K fd ps []:=by
 let (B,y,kV,i,pm,j,cdv,ct,q,rfl,z,n):=F.ex;exact .all (h kV i pm j cdv ct)
def Ac {x d:Str} {st:Stmt} {f:Addr} {y:Value} {q n:Option Addr} {j:Array (Option Value)} {kV i pm cdv ct:Value} (l:K.lookup f=some {y,q,.func (PySem.W.fnOf x d (eG st) (bV st) (aG st) .none kV i pm n cdv ct),j})
  (c:PySem.W.codeIn K cdv d=true) (k:PySem.W.keepIn K (.ref f)=true):tD K x d st f (PySem.W.fnOf x d (eG st) (bV st) (aG st) .none kV i pm n cdv ct):={{(y),q,kV,i,pm,n,cdv,ct,j,rfl,l,c},k}
end
def Nk {A:Around} {k:Nat} (d:Room k A):A.units+1<cLine:=Q3 (Nat.add_le_add_left (by decide:1<=64) _) d.units
def gU {n:Nat} (h:n<=1000):n<sizeLine:=Q3 h (by decide)
section
variable {X:Cx}
def pv (i:Nat) {x:Str} {pos:Pos} (j:X.N[i]?=some x:=by rfl) (q:Xo X.env.scope x:=by first|exact j5 rfl|exact E1 (j5 rfl)|exact E1 (E1 rfl)) (n:(x == ("__debug__":Str))=false:=by decide)
  (d:(x == ("__classdict__":Str))=false:=by decide):PE X (.Name x pos) (iL i):=zF j q n d
end
def cO {A B:Prop} (h:B):if false=true then A else B:=by
 rw [if_neg q8];exact h
def cW {A B:Prop} (h:A):if true=true then A else B:=by
 rw [if_pos rfl];exact h
def gQ {c A B:Prop} [Decidable c] (h1:c->A) (h2:¬ c->B):if c then A else B:=by
 by_cases h:c
 ·rw [if_pos h];exact h1 h
 ·rw [if_neg h];exact h2 h
def FP {c A B:Prop} [Decidable c] (d:c) (h:B):if (!decide c)=true then A else B:=by
 rw [decide_eq_true d];exact cO h
def aM (H H':Hp):Prop:=∀b o,H b=some o->H' b=some o
def aM.refl (H:Hp):aM H H:=λ_ _ h=>h
def aM.trans {H H1 H2:Hp} (a:aM H H1) (b:aM H1 H2):aM H H2:=λc o h=>b c o (a c o h)
def aM.free {H H':Hp} (e:aM H H') {l:Addr} (h:H' l=Option.none):H l=Option.none:=by
 cases q:H l with
 | none=>rfl
 | some o=>
  rw [e l o q] at h;cases h
def aM.seq {K:PySem.W.Frag} {H H':Hp} {a:Addr} {xs:List V} (e:aM H H') (h:dD K H a xs):dD K H' a xs:=by
 rcases h with (h|⟨o,h⟩)|h
 ·exact .inl (.inl (e _ _ h))
 ·exact .inl (.inr {o,e _ _ h})
 ·exact .inr h
end L2
namespace Hd
open PySem PyProof.Rows
section
variable {M:Model} {A:Around} {E:Value->Shared->Prop} {s:Shared}
def NoCtx (h:Addr) (hp:Heap):Prop:=∃oh fs,hp.get? h=some oh/\oh.data=.fields fs/\fs[2]?=some .none
def NoCtx.other {h h':Heap} {e:Addr} (x:NoCtx e h) (k:h'.get? e=h.get? e):NoCtx e h':=by
 let (o,a,z,r):=x;exact {o,a,k.trans z,r}
def Oc {bs:Heap} {env:Env} {rest:List Env} {L e:Addr} {o:Obj} {j:Array Value} {H D:Value} {nx:Bool} {Q:Unit->Shared->Prop}
  (x:A.frames=some (env::rest)) (p:s.heap.FunFrames bs (env::rest)) (fr:env.frame=some L) (C:s.heap.get? e=some o) (st:bs.StaysIn s.heap) (S:bs.get? e=none)
  (t:o.data=.fields j) (T:j[0]?=some D) (I:j[2]?=some .none)
  (q:∀y,Heap.NotedW bs (env::rest) e o.cls D (rawInt L) s.heap y->NoCtx e y->Q () { s with heap:=y }):
  wpAny M A (do let a <- frameOf env;let u <- entryPlaceOf L nx;let b <- EntryCells.newEntry H a .none (rawInt L) .none u;setField (.ref e) 1 b) Q E s:=by
 let B:e ∉ (env::rest).filterMap (·.frame):=λz=>by
  let (_,c,J,k):=p.mem z;rw [C] at J;cases J;exact k j t
 let O:2<j.size:=(L1.mp I).1;refine c6 (wpAny_frameOf_fun x p fr λg r=>c6 (wpAny_entryPlaceOf λu v=>?_));unfold EntryCells.newEntry newFields;refine c6 (B8 ?_ (v.sizeOk5 _ _ _ _ _));generalize hr:([H,Value.ref L,Value.none,rawInt L,Value.none]++(if u.isEmpty then List.replicate 6 Value.none else u)).toArray=row
 let n:row[3]?=some (rawInt L):=by rw [<- hr];simp
 let F:g.get? e=some o:=(r.2.1 e B).trans C;let G:bs.StaysIn g:=λb c z=>(r.2.1 b λw=>by rw [(p.mem w).1] at z;cases z).trans (st b c z);let m:g.objs.size≠e:=λz=>absurd (i4 F) (by rw [z];exact x6 _);let K:=f6 (h:=g) { cls:=.type "traceback",dict:=none,data:=.fields row } F;refine M7 K t ∎ ?_;let i:=M5 t (·.setIfInBounds 1 (Value.ref g.objs.size));let l:=J7 (Obj.mapFields (·.setIfInBounds 1 (Value.ref g.objs.size))) K (P0 i);let d:∀b c,b≠e->g.get? b=some c->((g.push { cls:=.type "traceback",dict:=none,data:=.fields row }).update e (Obj.mapFields (·.setIfInBounds 1 (Value.ref g.objs.size)))).get? b=some c:=λb c P z=>by
  rw [C6 _ _ (λw=>P w.symm)];exact f6 _ z
 let f:∀b c,s.heap.get? b=some c->(∀U,c.data≠.fields U)->b≠e:=λb c z k w=>by
  subst w;rw [C] at z;cases z;exact k j t
 refine q _ {λb c z=>d b c (λw=>by rw [w,S] at z;cases z) (G b c z),p.of_keeps λb c z k=>?_,?_,λb c z k=>?_} {_,_,l,i,by rw [Array.getElem?_setIfInBounds_ne (by decide)];exact I}
 ·let (N,w):=r.2.2 b c z;exact {_,d b _ (f b c z k) w,rfl}
 ·refine {_,j.setIfInBounds 1 (.ref g.objs.size),g.objs.size,{ cls:=.type "traceback",dict:=none,data:=.fields row },row,l,{Obj.cls_mapFields _ _,by rw [Array.getElem?_setIfInBounds_ne (by decide)];exact T},i,by rw [Array.getElem?_setIfInBounds_self,if_pos ∎],G.fresh,m,?_,rfl,n};rw [C6 _ _ (E2 m)];exact i9 g rfl
 ·let (N,w):=r.2.2 b c z;exact {N,d b _ (f b c z k) w}
def Xg {bs:Heap} {env:Env} {rest:List Env} {L e:Addr} {cls m:Value} {Q:Unit->Shared->Prop}
  (j:A.frames=some (env::rest)) (fr:env.frame=some L) (v:Heap.FlyingW bs (env::rest) e cls m s.heap) (F:NoCtx e s.heap)
  (q:∀g,Heap.NotedW bs (env::rest) e cls m (rawInt L) s.heap g->NoCtx e g->Q () { s with heap:=g }):wpAny M A (noteFrame (.ref e) env) Q E s:=by
 let (G,B,t,o,P,T,O,D,h,(x,H),i,J,y,C,k,l,r):=v;let (a,N,n,p,K):=F;rw [h] at n;cases n;rw [i] at p;cases p;subst x;unfold noteFrame;simp only [fr];refine c6 (A2 h i J ?_);rw [if_pos (by simp:(Value.ref T != Value.none)=true)];refine c6 (A2 k l r ?_);rw [if_neg (by simp [rawInt]:¬ ((Value.none == rawInt L)=true))];refine c6 (M7 k l (L1.mp r).1 ?_);let c:∀b,b≠T->(s.heap.update T (Obj.mapFields (·.setIfInBounds 3 Value.none))).get? b=s.heap.get? b:=λb z=>C6 _ _ (λw=>z w.symm);let d:∀b a,s.heap.get? b=some a->(∀I,a.data≠.fields I)->b≠T:=λb a z f w=>by
  subst w;rw [k] at z;cases z;exact f D l
 refine Oc j (t.of_keeps λb a z f=>{a,(c b (d b a z f)).trans z,rfl}) fr ((c e (E2 C)).trans h) (λb a z=>(c b λw=>by rw [w,y] at z;cases z).trans (G b a z)) B i H K λg ⟨u,x2,x3,x4⟩ nc'=>?_;exact q g {u,x2,x3,λb a z f=>x4 b a ((c b (d b a z f)).trans z) f} nc'
def Ri {bs:Heap} {l:List Env} {e:Addr} {cls m B:Value} {Q:Unit->Shared->Prop} (st:bs.StaysIn s.heap) (y:s.heap.FunFrames bs l) (tr:s.heap.TracedAtW bs e cls m B) (D:NoCtx e s.heap)
  (q:∀h',bs.StaysIn h'->h'.FunFrames bs l->h'.TracedW bs e cls m->s.heap.UpToSlots h'->NoCtx e h'->Q () { s with heap:=h' }):wpAny M A (setFlight (.ref e) none) Q E s:=by
 let (o,x,T,H,t,n,C,r,u,p,i,j,k,G):=tr;let v:3<t.size:=(L1.mp G).1;unfold setFlight;refine c6 (A2 n r u ?_);rw [if_pos (by simp:(Value.ref T != Value.none)=true)];refine M7 j k v ?_;let a:∀b,b≠T->(s.heap.update T (Obj.mapFields (·.setIfInBounds 3 ((none:Option Addr).elim Value.none λf=>rawInt f)))).get? b=s.heap.get? b:=λb z=>C6 _ _ (λw=>z w.symm);let d:∀b c,s.heap.get? b=some c->(∀F,c.data≠.fields F)->b≠T:=λb c z h w=>by
  subst w;rw [j] at z;cases z;exact h t k
 let g:=M5 k (·.setIfInBounds 3 ((none:Option Addr).elim Value.none λf=>rawInt f));refine q _ (λb c z=>(a b λw=>by rw [w,p] at z;cases z).trans (st b c z)) (y.of_keeps λb c z h=>{c,(a b (d b c z h)).trans z,rfl}) ?_ (λb c z h=>{c.slots,(a b (d b c z h)).trans z}) (D.other (a e (E2 i)));exact {o,x,T,_,_,(a e (E2 i)).trans n,C,r,u,p,i,J7 _ j (P0 g),g,by simp [v]}
def JS {h h1 h2:Heap} (x:∀b o,h.get? b=some o->(∀a,o.data≠.fields a)->∃c,h1.get? b=some { o with slots:=c }) (y:h1.UpToSlots h2):h.UpToSlots h2:=Heap.UpToSlots.trans x y
def made2 {bs h:Heap} {env:Env} {rest:List Env} {L e:Addr} {cls:Value} {args:List Value} {Q:Unit->Shared->Prop} (f:A.frames=some (env::rest)) (fr:env.frame=some L) (st:bs.StaysIn h) (v:h.FunFrames bs (env::rest)) (a:Heap.MadeExcOf h s.heap e cls args)
  (q:∀c l,Heap.FlyingW bs rest e cls l c->s.heap.UpToSlots c->NoCtx e c->Q () { s with heap:=c }):wpAny M A (leaving env (.ref e)) Q E s:=by
 let (t,i,_,_):=a.there;let j:bs.get? e=none:=by
  cases z:bs.get? e with
  | none=>rfl
  | some o=>
   let w:=st e o z;rw [a.new] at w;cases w
 unfold leaving noteFrame;simp only [fr];refine c6 (c6 (A2 i rfl (x:=.none) rfl ?_));rw [if_neg (by decide)];refine Oc f (v.of_keeps λb o z _=>{o,a.keeps b o z,rfl}) fr i (λb o z=>a.keeps b o (st b o z)) j rfl rfl rfl λr ⟨n,x2,x3,x4⟩ nc1=>?_;refine Ri (s:={ s with heap:=r }) n x2 x3 nc1 λp m g u k d=>?_;let (_,_,g):=g;exact q p _ {(m),j,g,u} (JS x4 k) d
def leave2 {bs:Heap} {env:Env} {rest:List Env} {L e:Addr} {cls f:Value} {Q:Unit->Shared->Prop} (c:A.frames=some (env::rest)) (fr:env.frame=some L) (g:Heap.FlyingW bs (env::rest) e cls f s.heap) (l:NoCtx e s.heap)
  (q:∀a,Heap.FlyingW bs rest e cls f a->s.heap.UpToSlots a->NoCtx e a->Q () { s with heap:=a }):wpAny M A (leaving env (.ref e)) Q E s:=by
 let o:=g.2.1;unfold leaving;refine c6 (Xg c fr g l λm ⟨j,x2,x3,x4⟩ nc1=>?_);refine Ri (s:={ s with heap:=m }) j x2 x3 nc1 λk i d n h b=>?_;let (_,_,d):=d;exact q k {(i),o,d,n} (JS x4 h) b
def look2 {bs:Heap} {env:Env} {rest:List Env} {L e:Addr} {cls c:Value} {Q:Unit->Shared->Prop} (b:A.frames=some (env::rest)) (fr:env.frame=some L) (d:Heap.FlyingW bs (env::rest) e cls c s.heap) (g:NoCtx e s.heap)
  (q:∀a,Heap.HeldW bs (env::rest) e cls c L a->s.heap.UpToSlots a->NoCtx e a->Q () { s with heap:=a }):wpAny M A (noteFrame (.ref e) env) Q E s:=by
 let i:=d.2.1;refine Xg b fr d g λh ⟨f,x2,x3,x4⟩ nc1=>q h {(f),i,x2,x3} x4 nc1
def land2 {bs:Heap} {l:List Env} {L e:Addr} {cls c:Value} {Q:Unit->Shared->Prop} (m:Heap.HeldW bs l e cls c L s.heap) (i:NoCtx e s.heap)
  (q:∀a,Heap.FlyingW bs l e cls c a->s.heap.UpToSlots a->NoCtx e a->Q () { s with heap:=a }):wpAny M A (setFlight (.ref e) none) Q E s:=by
 let (h,n,f,j):=m;exact Ri h f j i λa g o k d b=>q a {(g),n,o,k} d b
def again2 {bs:Heap} {l:List Env} {e:Addr} {cls c:Value} {Q:Unit->Shared->Prop} (m:Heap.FlyingW bs l e cls c s.heap) (i:NoCtx e s.heap)
  (q:∀a,Heap.FlyingW bs l e cls c a->s.heap.UpToSlots a->NoCtx e a->Q () { s with heap:=a }):wpAny M A (setFlight (.ref e) none) Q E s:=by
 let (h,n,f,j):=m;exact Ri h f j.at i λa g o k d b=>q a {(g),n,o,k} d b
end
end Hd
namespace L2
open PySem PySem.Spec PyProof.Rows
def bL.is {P:Program} {w:World} {H:Hp} {h:Heap} {a:Addr} {o:HO} (x:bL P w H h a o):∃b,h.get? a=some b:=by
 cases o with
 | lst xs=>let (_,_,_,_,q):=x;exact {_,q}
 | tup xs=>let (_,_,_,b,q,_):=x;exact {_,q}
 | dK kvs=>let (_,_,_,_,b,_,_,q,_):=x;exact {_,q}
 | dT kvs=>let (_,_,_,_,b,_,_,q,_):=x;exact {_,q}
 | set S n=>let (b,_,_,_,q,_):=x;exact {_,q}
 | ins C dx fs=>let (_,_,_,q,_):=x;exact {_,q}
 | own y=>exact x
 | xd fs=>let (_,(_,_,_,q,_),_):=x;exact {_,q}
 | rng lo hi=>let (_,_,_,q):=x;exact {_,q}
 | frz b u=>let (q,_):=x;exact {_,q}
 | tbl ps=>exact {_,(show h.get? a=some _ from x)}
 | met f y=>exact {_,(show h.get? a=some _ from x)}
 | ext φ=>let (_,q,_):=x;exact q
structure He (P:Program) (w:World) (outer:List Env) (H:Hp) (h:Heap) (ea:Addr) (cls a0:Value) (H':Hp) (B h':Heap):Prop where
 fly:Heap.FlyingW B outer ea cls a0 h'
 nc:Hd.NoCtx ea h'
 hok:kH P w H' B
 new:h.get? ea=none
 keepB:∀b o,h.get? b=some o->H b=none->b ∉ kU outer->B.get? b=some o
 slot:∀b o,h.get? b=some o->b ∈ kU outer->∃sl,h'.get? b=some { o with slots:=sl }
 free:∀b o,h.get? b=some o->H b=none->H' b=none
 thereB:∀b o,h.get? b=some o->b ∉ kU outer->∃o',B.get? b=some o'
 tups:∀b xs,H b=some (.tup xs)->H' b=some (.tup xs)
 frzs:∀b o u,H b=some (.frz o u)->H' b=some (.frz o u)
 tbls:∀b ps,H b=some (.tbl ps)->∃more,H' b=some (.tbl (ps++more))
section
variable {P:Program} {w:World} {outer:List Env} {H H':Hp} {h h' h2 B:Heap} {ea:Addr} {cls a0:Value}
def He.freeE (F:He P w outer H h ea cls a0 H' B h'):H' ea=none:=by
 cases q:H' ea with
 | none=>rfl
 | some o=>
  let (ob,z):=(F.hok ea o q).is;rw [F.fly.2.1] at z;cases z
def He.later (F:He P w outer H h ea cls a0 H' B h') (fl:Heap.FlyingW B outer ea cls a0 h2) (nc:Hd.NoCtx ea h2) (up:h'.UpToSlots h2):He P w outer H h ea cls a0 H' B h2 where
 fly:=fl
 nc:=nc
 hok:=F.hok
 new:=F.new
 keepB:=F.keepB
 slot:=λb o q hb=>by
  let (sl,z):=F.slot b o q hb
  let (_,o',z',nf):=F.fly.2.2.1.mem hb
  rw [z] at z'
  cases z'
  let (sl',z2):=up b _ z nf
  exact {(sl'),z2}
 free:=F.free
 thereB:=F.thereB
 tups:=F.tups
 frzs:=F.frzs
 tbls:=F.tbls
def He.un (F:He P w outer H h ea cls a0 H' B h'):Un (kU outer) [] H H' h h' where
 keep:=λb o q n a _=>F.fly.1 b o (F.keepB b o q n a)
 slot:=λb o q _ a _=>F.slot b o q a
 free:=λb o q n _=>F.free b o q n
 there:=λb o q _=>by
  by_cases a:b ∈ kU outer
  ·let (d,z):=F.slot b o q a
   exact {_,z}
  ·let (c,z):=F.thereB b o q a
   exact {c,F.fly.1 b c z}
 tups:=F.tups
 frzs:=F.frzs
 tbls:=F.tbls
def He.hokN (F:He P w outer H h ea cls a0 H' B h'):kH P w H' h':=F.hok.kept F.fly.1
end
def jN (P:Program) (w:World):mK:=λouter H s E e s'=>∃(ea:Addr) (cls a0:Value) (H':Hp) (B:Heap),
 e=Value.ref ea/\s'.os=s.os/\AllBare s'.gens/\He P w outer H s.heap ea cls a0 H' B s'.heap/\E cls none H'
def yE (X:Cx) (C:Addr) (R:Hp->Prop):Prop:=
 ∀(pins:List (Addr × Obj)) (σ:St) (H:Hp) (s:Shared) (h':Heap) (e:Addr) (vs:List Value),aO X pins σ H s->Heap.MadeExcOf s.heap h' e (.ref C) vs->R H->X.xe (.ref e) { s with heap:=h' }
def qB {env:Env} {outer:List Env} {L:Addr} (a:env.frame=some L):kU (env::outer)=L::kU outer:=by
 unfold kU;rw [L5,a]
section
variable {P:Program} {w:World} {K:PySem.W.Frag} {mg:Str->Option Value} {base:Heap} {N:List Str} {qual:Str} {scope:Scope} {f:Addr} {cd:Value} {A:Around} {outer:List Env} {s₀:Shared} {H₀:Hp} {E:XK}
def dO {C:Addr}:yE (jH (jN P w) P w K mg base N qual scope f cd A outer s₀ H₀ E) C (λH=>E (.ref C) none H):=by
 intro pins σ H s h' e vs I hx hE;let stk:s.heap.FunFrames (PySem.W.hideAll s.heap (kU (envOfC qual scope s₀.heap.objs.size f cd::outer))) (envOfC qual scope s₀.heap.objs.size f cd::outer):=
  PySem.W.funFrames_hide I.stack λenv he a ha=>G4.mpr {(env),he,ha}
 let nof:∀b,(H b).isSome=true->b ∉ kU (envOfC qual scope s₀.heap.objs.size f cd::outer):=λb hb z=>by
  rw [I.stkFree b z] at hb;cases hb
 let low:∀b o,s₀.heap.get? b=some o->b ∉ kU outer->b ∉ kU (envOfC qual scope s₀.heap.objs.size f cd::outer):=λb o q hb z=>by
  rw [qB (L:=s₀.heap.objs.size) rfl] at z;rcases g8.mp z with z|z
  ·rw [z] at q;exact absurd (i4 q) (x6 _)
  ·exact hb z
 show wpAny _ _ (leaving _ (.ref e)) _ _ _;refine Hd.made2 (bs:=PySem.W.hideAll s.heap (kU (envOfC qual scope s₀.heap.objs.size f cd::outer))) (h:=s.heap) (rest:=outer) I.ok.frames rfl (λb o q=>PySem.W.of_hideAll _ q) stk hx λh2 t x1 x4 xn=>?_;refine {e,.ref C,t,H,_,rfl,I.os,I.bare,{x1,xn,λa o q=>?_,?_,λb o q n hb=>?_,λb o q hb=>?_,λb o q n=>I.base.free b o q n (by intro z;cases z),λb o q hb=>?_,I.base.tups,I.base.frzs,I.base.tbls},hE}
 ·refine(I.hok a o q).stay (λb u hb r=>PySem.W.hideAll_get _ r (nof b ?_)) (λ_ z=>z) λ_ _ z=>z;rcases hb with rfl|hb
  ·rw [q];rfl
  ·rw [hb];rfl
 ·cases q:s₀.heap.get? e with
  | none=>rfl
  | some o=>
   let (o',z):=I.base.there e o q (by intro z;cases z);rw [hx.new] at z;cases z
 ·exact PySem.W.hideAll_get _ (I.base.keep b o q n hb (by intro z;cases z)) (low b o q hb)
 ·let (sl,z):=I.base.slot b o q (I.ok.frf b hb) hb (by intro z;cases z);let (_,o',z',nf):=I.funs.mem hb;rw [z] at z';cases z';let (sl',z2):=x4 b _ (hx.keeps b _ z) nf;exact {(sl'),z2}
 ·let (o',z):=I.base.there b o q (by intro z;cases z);exact {o',PySem.W.hideAll_get _ z (low b o q hb)}
def fA {E':XK} (hE:∀cls d H,E' cls d H->E cls d H):dX (jN P w) (jH (jN P w) P w K mg base N qual scope f cd A outer s₀ H₀ E) E':=by
 intro pins σ H s e s' I hc;let (ea,cls,a0,H',B,rfl,os,bare,F,hE'):=hc;let low:∀b o,s₀.heap.get? b=some o->b ∉ kU outer->b ∉ kU (envOfC qual scope s₀.heap.objs.size f cd::outer):=λb o q hb z=>by
  rw [qB (L:=s₀.heap.objs.size) rfl] at z;rcases g8.mp z with z|z
  ·rw [z] at q;exact absurd (i4 q) (x6 _)
  ·exact hb z
 let up:∀b,b ∈ kU outer->b ∈ kU (envOfC qual scope s₀.heap.objs.size f cd::outer):=λb hb=>by
  rw [qB (L:=s₀.heap.objs.size) rfl];exact d0 _ hb
 show wpAny _ _ (leaving _ (.ref ea)) _ _ _;refine Hd.leave2 (rest:=outer) I.ok.frames rfl F.fly F.nc λh2 x1 x4 xn=>?_;refine {ea,cls,a0,H',B,rfl,os.trans I.os,bare,{x1,xn,F.hok,?_,λb o q n hb=>?_,λb o q hb=>?_,λb o q n=>?_,λb o q hb=>?_,λb xs q=>F.tups b xs (I.base.tups b xs q),λb o u q=>F.frzs b o u (I.base.frzs b o u q),λb ps q=>?_},hE _ _ _ hE'}
 ·cases q:s₀.heap.get? ea with
  | none=>rfl
  | some o=>
   let (o',z):=I.base.there ea o q (by intro z;cases z);rw [F.new] at z;cases z
 ·exact F.keepB b o (I.base.keep b o q n hb (by intro z;cases z)) (I.base.free b o q n (by intro z;cases z)) (low b o q hb)
 ·let (sl,z):=I.base.slot b o q (I.ok.frf b hb) hb (by intro z;cases z);let (sl2,z2):=F.slot b _ z (up b hb);let (_,o',z',nf):=F.fly.2.2.1.mem (up b hb);rw [z2] at z';cases z';let (sl',z3):=x4 b _ z2 nf;exact {(sl'),z3}
 ·let (o',z):=I.base.there b o q (by intro z;cases z);exact F.free b o' z (I.base.free b o q n (by intro z;cases z))
 ·let (o',z):=I.base.there b o q (by intro z;cases z);exact F.thereB b o' z (low b o q hb)
 ·let (m1,z):=I.base.tbls b ps q;let (m2,z2):=F.tbls b _ z;exact {m1++m2,by rw [z2,Array.append_assoc]}
end
abbrev Hr:List Value:=[.type "ValueError",.type "Exception",.type "BaseException",.type "object"]
def ExcIs (K:PySem.W.Frag) (C:Addr):Prop:=PySem.W.excIn K C Hr "ValueError.__new__"=true
def Gi {K:PySem.W.Frag} {h:Heap} {C:Addr} (X:K.In h) (q:ExcIs K C):
  ∃j N t m r f o a p b dd c e i g d y,h.get? C=some (excClassObj t m C N r j f o a p b dd c e i g d "ValueError.__new__")/\h.Ns N y/\y "__init__"=none/\OwnTail h Hr j:=by
 unfold ExcIs PySem.W.excIn at q;split at q
 ·next dd cd sl ho=>
  split at q
  ·next C' j c e i g n d hm hs=>
   simp only [B4,beq_iff_eq,J0] at q;let (((((B,z),w),F),k),v):=q;subst B;subst z;let (t,r,D,E,m,A,o,a,p,b,G):=cd;dsimp only at hm w k v;subst hm;subst w;let u:sl=#[c,e,i,g,some (.builtin "ValueError.__new__"),d]:=by
    cases sl with
    | mk l=>
     let s:l=[c,e,i,g,some (.builtin "ValueError.__new__"),d]:=hs;rw [s]
   subst u;exact {j,E,t,m,r,A,o,a,p,b,dd,c,e,i,g,d,_,X _ _ ho,.of_isNs (PySem.W.isNs_of_in X k),PySem.W.nsMap_none_of_in X k v,PySem.W.tail_of_in X F}
  ·cases q
 ·cases q
section
variable {X:Cx} {x:Str} {C:Addr} {R:Hp->Prop} {e₀:Expr} {ta:TA} {np cpos pos:Pos}
def Xz (ta:TA) (R:Hp->Prop):TS:=λ_ σ H=>ta σ H λvs H1=>vs.length<=sizeLine/\R H1
def fX (n:X.calm=true) (k:ExcIs X.K C) (l:Gl X x) (j:X.mg x=some (.ref C)) (A:yE X C R) (p:PA X [e₀] ta)
  (g:starEach [e₀] X.env=[(false,eval e₀ X.env)]:=by rfl) (m:(x == ("__debug__":Str))=false:=by decide):
  PS X (.Raise (some (.Call (.Name x np) [e₀] [] cpos)) none pos) (Xz ta R):=by
 intro a s σ H D I h;let (o,N,nm,q,bs,hdct,sn,sub,ab,col,dd,k0,k1,k2,k3,k5,mN,E,r,d,T):=Gi I.mod.kin k;refine wpAny_Raise_call_subT (C:=C) (nm:=nm) (q:=q) (N:=N) (bs:=bs) (bm:=o) (hdct:=hdct) (sn:=sn) (sub:=sub) (ab:=ab) (col:=col) (dd:=dd) (k0:=k0) (k1:=k1) (k2:=k2) (k3:=k3) (k5:=k5)
  PySem.F.excBase_ValueError (mN:=mN) (T.hasType PySem.F.excBase_ValueError.hasBase) (I.ok.hd n) (by rw [g];rfl) d (lH I l j {rfl,?_} m)
 let b:=@p cpos a s σ H _ I h;rw [g] at b ⊢;refine P5 (v6 b (λv i B=>?_) λ_ _ z=>z);let (J,t,c,y,G,f):=B;refine {rfl,?_,c.bk _ _ E,r.keeps c.bk,T.keeps c.bk,λu e w=>A a σ t i u e _ c w f};show v.length<=sizeLine;rw [<- y.length];exact G
end
end L2
namespace L2
open PySem PySem.Spec PyProof.Rows PySem.W PySem.Calls Builtin Builtin.ObjectAttr Builtin.Getset_descriptor
structure uW (K:Frag) (C:Addr):Prop where
 exc:ExcIs K C
 cl:(clsIn K C).isSome=true
 ga:findIn K (.ref C) "__getattribute__"=some (some (.builtin "BaseException.__getattribute__"))
 gh:findIn K (.ref C) "__getattr__"=some none
 ca:findIn K (.ref C) "__class__"=some (some (.builtin "object.__class__"))
 cg:specialIn K (.builtin "object.__class__") "__get__"=some (some (.builtin "getset_descriptor.__get__"))
 ct:takesIn K (.builtin "object.__class__")=some true
 mo:mroIn K C (.type "object")=some true
 mb:mroIn K C (.type "BaseException")=some true
def kO (e C:Addr) (h:Heap):Prop:=∃o,h.get? e=some o/\o.cls=.ref C
section
variable {K:Frag} {e C:Addr}
def kO.ty {M:Model} {h:Heap} (p:kO e C h):Looks M h (typeOf (.ref e)) (.ref C):=by
 let (o,b,a):=p;exact a ▸ (Looks.ld b).andThen .now
def Gj {M:Model} {h:Heap} (X:K.In h) (T:uW K C):Looks M h (find (.ref e) (.ref C) "__class__") (.bind (.builtin "getset_descriptor.__get__") (.builtin "object.__class__")):=by
 let c:=looks_findIn (M:=M) X T.ca;let b:=looks_specialIn (M:=M) X T.cg;let a:=looks_takesIn (M:=M) X T.ct;refine c.andThen (b.andThen ?_);exact(show Looks M h (dataDescriptor? (some _) (some _)) (some (_,_)) from a.andThen .now).andThen (Looks.tag .now)
variable {prog:Program} {w:World} {A:Around} {E:Value->Shared->Prop} {s:Shared} {R:Result->Shared->Prop}
def rC {a:Value} (X:K.In s.heap) (T:uW K C) (p:kO e C s.heap) (h:R (.ok (.ret (.ref C))) s):
  codeAny (model prog w) A (.call (.builtin "getset_descriptor.__get__") {[.builtin "object.__class__",.ref e,a],[]}) R s:=by
 let (c,g,d,t,f):=s;let b:=p.ty (M:=model prog w);let Lb:=looks_mroIn (M:=model prog w) X T.mo;refine K7 KF.slot_gs.plain KF.entry_gs (KF.slot_gs.check _ _ _ _ _ _ _ _ KF.type_class (KF.args_gs _ _ _) ?_);unfold Builtin.«getset_descriptor.__get__» descrGet;rw [dga_obj];refine c6 (g9 ?_);unfold descrGetter descrCheckInstance descrNameAndClass isInstance;simp only [KF.owner_class]
 repeat lk
 refine {Q4 _ ⋯,D6 KF.entry_class ?_};unfold Builtin.«object.__class__» shownTypeOf
 repeat lk
 exact h
end
section
variable {K:Frag} {e C:Addr} {prog:Program} {w:World} {A:Around} {E:Value->Shared->Prop} {s:Shared} {R:Result->Shared->Prop}
def uP {M:Model} {a:Value} {Q:Unit->Shared->Prop} (X:K.In s.heap) (T:uW K C) (p:kO e C s.heap) (d:Q () s):
  wpAny M A (checkBuiltinCall "BaseException.__getattribute__" {[.ref e,a],[]}) Q E s:=by
 let f:builtinKind "BaseException.__getattribute__"=some .slot:=⋯;let b:splitId "BaseException.__getattribute__"=some ("BaseException","__getattribute__"):=⋯;let h:=F.args_bexc_ga (.ref e) a;let c:Looks M s.heap (isInstance (.ref e) (.type "BaseException")) true:=p.ty.andThen (looks_mroIn X T.mb);let (i,g,j,t,k):=s;simp only [checkBuiltinCall,f,b];refine c6 (c.at ?_)
 repeat (first|wp_step)
 exact d
def xQ {tk:Tok} {Q:Fin->Shared->Prop} (X:K.In s.heap) (T:uW K C) (p:kO e C s.heap) (c:Q (.done (.ret (.ref C))) s):
  wpAny (model prog w) A (Builtin.«object.__getattribute__» {[.ref e,.str "__class__" tk],[]}) Q E s:=by
 let a:=p.ty (M:=model prog w);let b:=Gj (M:=model prog w) (e:=e) X T;let (d,g,f,t,h):=s;unfold Builtin.«object.__getattribute__»
 repeat (first|with_reducible refine a.at ?_|with_reducible refine b.at ?_|wp_step)
 refine rC X T p ?_;exact g9 c
def uO {Q:Option Value->Shared->Prop} (X:K.In s.heap) (T:uW K C) (p:kO e C s.heap) (h:Q (some (.ref C)) { s with toks:=s.toks+1 }):
  wpAny (model prog w) A (getAttr? (.ref e) "__class__") Q E s:=by
 let d:=p.ty (M:=model prog w);let b:=looks_findIn (M:=model prog w) X T.ga;let c:=looks_findIn (M:=model prog w) X T.gh;let f:=F.attr_ValueError.ga.bind (.ref e);let a:(Value.builtin "BaseException.__getattribute__" == Value.builtin "object.__getattribute__")=false:=⋯;let (i,g,j,t,k):=s;unfold getAttr? getAttrBy? getAttrBy;refine c6 (wpAny_mkText (c6 (L3 (w9 (c6 (d.at (c6 (b.at ?_))))))));dsimp only
 rw [if_neg (by rw [a];simp)];unfold getAttrByItsOwn hookBefore;refine c6 (c.at ?_);refine c6 (L3 (w9 ?_));unfold callGetattribute boundAndCalled;rw [if_neg (by simp)];rw [f];refine c6 (g9 ?_);refine K6 (K7 F.attr_ValueError.ga.plain F.entry_bexc_ga (uP X T p (xQ X T p ?_)));refine g9 (g9 ?_);exact h
def Na (T:uW K C):KitX K (.ref e) (.ref C) (kO e C) where
 ty:=λ_ _ _ p=>p.ty
 it:=λ_ _ X _=>by
  have a:=T.cl
  unfold clsIn at a
  split at a
  ·next c' d' cd' sl' ho=>
   intro j l i g k q
   unfold isType loadHead
   exact c6 (wpAny_loadPart (k _ _ (X _ _ ho)) (g9 q))
  ·cases a
 ne:=λh f dd c n m X b=>by
  have a:=T.cl
  refine J3.mpr λq=>?_
  have d:C=f:=Value.ref.inj (beq_iff_eq.mp q)
  subst d
  unfold clsIn at a
  split at a
  ·next c' d' cd' sl' ho=>
   have z:=(X _ _ ho).symm.trans b
   cases z
  ·cases a
 ca:=λX p k=>uO X T p k
end
def rD (e C:Addr):HO:=.ext λhp=>kO e C hp/\Hd.NoCtx e hp
def Uh {P:Program} {w:World} {H:Hp} {h:Heap} {e C:Addr} (p:kO e C h) (n:Hd.NoCtx e h):bL P w H h e (rD e C):=by
 refine {{(p),n},?_,λg f q k=>?_}
 ·let (o,z,_):=p;exact {(o),z}
 ·let ((o,z,c),a,d,b,r):=q;exact {{o,k o z,c},a,d,k a b,r}
section
variable {X:Cx}
inductive JP:V->Value->Prop where
 | ty (n:String):JP (.ty n) (.type n)
 | ref (a:Addr):JP (.ref a) (.ref a)
def EW (K:Frag):List V->Hp->VK->Prop:=λxs H Q=>∃x y c b,xs=[x,y]/\JP y c/\((∃t,jJ K H x t/\PySem.W.kitOne K t c=some b)\/∃e C,x=.ref e/\H e=some (rD e C)/\uW K C/\PySem.W.kitOne K (.ref C) c=some b)/\Q (.bl b) H
def dB:fP X (.builtin "isinstance") (EW X.K):=by
 intro i s σ H D B Q I r h;let (x,y,c,b,rfl,o,m,q):=h;let (u,v,rfl,g,j):=Hv r;let k:v=c:=by
  cases o with
  | ty n=>exact j
  | ref a=>exact j
 subst k;rcases m with ⟨t,ty,e⟩|⟨d,C,rfl,l,T,e⟩
 ·exact Fz I g ty e λf=>{.bl b,H,I.tok f,rfl,q}
 ·cases (show u=Value.ref d from g);let ((p,_),_):=(show bL X.prog X.w H s.heap d (rD d C) from I.hok d _ l);exact kia_one (Na T) I.kIn p e (λz=>nomatch z) λf=>{.bl b,H,I.tok f,rfl,q}
end
end L2
namespace L2
open PySem PySem.Spec PyProof.Rows
def aO.re {X Y:Cx} {pins pins':List (Addr × Obj)} {σ:St} {H:Hp} {s:Shared} (I:aO X pins σ H s) (C:Y.Ok) (e1:Y.prog=X.prog) (i:Y.w=X.w) (n:Y.N=X.N) (t:Y.s₀=X.s₀) (o:Y.H₀=X.H₀) (j:Y.env=X.env) (q:Y.outer=X.outer) (r:Y.ex=X.ex)
  (G:∀p ∈ Y.pn++pins',p ∈ X.pn++pins):aO Y pins' σ H s:=by
 let (m,w,K,mg,k,A,N,T,U,F,e,c,J,L,l,S,O):=X;let (f,W,M,D,d,P,Q,B,x,h,a,b,E,y,g,u,v):=Y;dsimp only at e1 i n t o j q r;subst e1 i n t o j q r;exact {C,I.os,I.bare,I.base,I.loc,I.cell,I.free,I.freeC,λp z=>I.pin p (G p z),I.hok,I.len}
abbrev Cx.try_ (X:Cx) (pn:List (Addr × Obj)) (xe:Value->Shared->Prop):Cx:={ X with pn:=pn,xe:=xe }
abbrev Cx.suite (X:Cx) (e:Value):Cx:={ X with A:=X.A.mark (some e),calm:=false,xe:=λ_ _=>False }
theorem Cx.Ok.try_ {X:Cx} (a:X.Ok) (pn:List (Addr × Obj)) (xe:Value->Shared->Prop):(X.try_ pn xe).Ok:=
 {(a.mod),a.kind,a.glob,a.blt,a.above,a.inj,a.has,a.cab,a.hd,a.frames,a.stk,a.exf,a.bs,a.bsz,a.noex,a.exfs,a.funs,a.frf}
theorem Cx.Ok.suite {X:Cx} (a:X.Ok) (e:Value):(X.suite e).Ok:=
 {a.mod,a.kind,a.glob,a.blt,a.above,a.inj,a.has,a.cab,λz=>(nomatch z),a.frames,a.stk,a.exf,a.bs,a.bsz,a.noex,a.exfs,a.funs,a.frf}
def He.laid {P:Program} {w:World} {outer:List Env} {H H':Hp} {h h' B:Heap} {d C:Addr} {j:Value} (F:He P w outer H h d (.ref C) j H' B h'):
  Un (kU outer) [] H (aR H' d (rD d C)) h h'/\kH P w (aR H' d (rD d C)) h':=by
 let a:=F.un;let e:=F.freeE;refine {{a.keep,a.slot,λb o q n i=>?_,a.there,λb g q=>?_,λb o u q=>?_,λb k q=>?_},λb u q=>?_}
 ·rw [aC (λz=>by rw [z,F.new] at q;cases q)];exact a.free b o q n i
 ·let z:=a.tups b g q;rw [aC (aD z e)];exact z
 ·let z:=a.frzs b o u q;rw [aC (aD z e)];exact z
 ·let (m,z):=a.tbls b k q;exact {m,by rw [aC (aD z e)];exact z}
 ·by_cases f:b=d
  ·subst f;rw [aB] at q;cases q;let (o,z,c):=F.fly.there;exact Uh {(o),z,c} F.nc
  ·rw [aC f] at q;exact(F.hokN b u q).stay (λ_ _ _ z=>z) (λc z=>by rw [aC (aD z e)];exact z) λc g z=>by rw [aC (aD z e)];exact z
section
variable {X:Cx}
def HK (Y:Cx) (ifs:List Expr) (t:TT):Prop:=
 ∀ ⦃pins:List (Addr × Obj)⦄ (s:Shared) (σ:St) (H:Hp) (Q:Bool->Hp->Prop),aO Y pins σ H s->t σ H Q ->
  wpAny (model Y.prog Y.w) Y.A (forIn ifs true λc r=>if r=true then do let ok <- isTrue c Y.env (eval c Y.env);pure (ForInStep.yield ok) else pure (ForInStep.yield r)) (TP Y pins σ Q) Y.xe s
def DM:TT:=λ_ H Q=>Q true H
def eC {Y:Cx}:HK Y [] DM:=λ_ _ _ H _ I h=>wpAny_tests_nil {(H),I,h}
def nG {Y:Cx} {c:Expr} {t:TT} (h:PT Y c t):HK Y [c] t:=λa s σ H Q I b=>wpAny_tests_one (h s σ H Q I b)
section
variable {NB:List Str} {scope:Scope}
end
mutual
inductive rF (K:PySem.W.Frag) (H:Hp):V->PyData->Prop where
 | non:rF K H .non .none
 | bl (b:Bool):rF K H (.bl b) (.bool b)
 | int (i:Int):rF K H (.int i) (.int i)
 | str (x:Str):rF K H (.str x) (.str x)
 | lst {a:Addr} {xs:List V} {ds:List PyData}:dD K H a xs->Au K H xs ds->rF K H (.ref a) (.list ds)
 | tup {a:Addr} {xs:List V} {ds:List PyData}:cA K H a xs->Au K H xs ds->rF K H (.ref a) (.tuple ds)
inductive Au (K:PySem.W.Frag) (H:Hp):List V->List PyData->Prop where
 | nil:Au K H [] []
 | cons {x:V} {d:PyData} {xs:List V} {ds:List PyData}:rF K H x d->Au K H xs ds->Au K H (x::xs) (d::ds)
end
section
variable {pins:List (Addr × Obj)} {σ:St} {H:Hp} {s:Shared}
def rF.reads (I:aO X pins σ H s) {x:V} {d:PyData} {u:Value} (h:rF X.K H x d):bJ x u->∃c,Reads s.heap u d c:=by
 refine rF.rec (motive_1:=λx d _=>∀u,bJ x u->∃c,Reads s.heap u d c) (motive_2:=λg j _=>∀z,bG g z->∃c,ReadsAll s.heap z j c) ?_ ?_ ?_ ?_ ?_ ?_ ?_ ?_ h u
 ·intro _ r;cases (show _=Value.none from r);exact {_,.none}
 ·intro b _ r;cases (show _=Value.bool b from r);exact {_,.bool b}
 ·intro i _ r;let (t,q):=(show ∃t,_=Value.int i t from r);cases q;exact {_,.int i t}
 ·intro x _ r;let (t,q):=(show ∃t,_=Value.str x t from r);cases q;exact {_,.str x t}
 ·intro a g j w _ l _ r;cases (show _=Value.ref a from r);let (e,m,p,_):=I.list w;let (c,f):=l _ m;let (o,y,v,n,k):=p.isList;exact {_,.list y v k (by simpa using f)}
 ·intro a g j w _ l _ r;cases (show _=Value.ref a from r);let (e,m,p,_):=I.tuple w;let (c,f):=l _ m;let (o,y,v,n,k):=(show s.heap.IsTuple a e.toArray from p);exact {_,.tuple y v k (by simpa using f)}
 ·intro _ r;cases r;exact {_,.nil}
 ·intro x d g j _ _ C D _ r;cases r with
  | cons r rs=>
   let (c,f):=C _ r;let (E,B):=D _ rs;exact {_,.cons f B}
end
def IQ (K:PySem.W.Frag):R2:=λx y H Q=>∃dx dy,rF K H x dx/\rF K H y dy/\SeqAt.shaped dx=true/\SeqAt.shaped dy=true/\Q (.bl (PyData.eqv dx dy)) H
def IN (K:PySem.W.Frag):R2:=λx y H Q=>∃dx dy,rF K H x dx/\rF K H y dy/\SeqAt.shaped dx=true/\SeqAt.shaped dy=true/\Q (.bl (!PyData.eqv dx dy)) H
def uH (g:X.A.units+64<cLine):kM X (compareOp .Eq) (IQ X.K):=by
 intro pins s σ H x y v u Q I e j h;let (m,n,c,a,f,i,q):=h;let (k,b):=c.reads I e;let (l,d):=a.reads I j;exact SeqAt.compareEq_shaped b d f i g {.bl _,H,I,rfl,q}
def Lr (g:X.A.units+64<cLine):kM X (compareOp .NotEq) (IN X.K):=by
 intro pins s σ H x y v u Q I e j h;let (m,n,c,a,f,i,q):=h;let (k,b):=c.reads I e;let (l,d):=a.reads I j;exact SeqAt.compareNe_shaped b d f i g {.bl _,H,I,rfl,q}
end
end L2
namespace PySem.SeqAt
open AutoSeq1 (wpAny_loadPart')
open MeetsSeq MeetsSeq2 MeetsSeq3
section
variable {A:Around} {s:Shared}
end
end PySem.SeqAt
namespace L2
open PySem PySem.Spec PyProof.Rows
section
variable {X:Cx}
section
variable {κ:Type} [DecidableEq κ]
def cZ (kvs:List (κ × V)) (k:κ):Option V:=(kvs.find? λkv=>decide (kv.1=k)).map (·.2)
def mC (kvs:List (κ × V)) (k:κ) (v:V):List (κ × V):=
 if (kvs.any λkv=>decide (kv.1=k))=true then kvs.map (λkv=>if kv.1=k then(kv.1,v) else kv) else kvs++[(k,v)]
def fE {p:κ × V} {r:List (κ × V)} {k:κ} (e:p.1=k):cZ (p::r) k=some p.2:=by simp [cZ,G6,e]
def fF {p:κ × V} {r:List (κ × V)} {k:κ} (e:¬ p.1=k):cZ (p::r) k=cZ r k:=by simp [cZ,G6,e]
theorem oQ (k:κ):∀kvs:List (κ × V),(kvs.any λb=>decide (b.1=k))=(cZ kvs k).isSome
 | []=>rfl
 | p::r=>by
  rw [O5]
  by_cases e:p.1=k
  ·simp only [fE e,decide_eq_true e,Bool.true_or,Option.isSome_some]
  ·rw [fF e,decide_eq_false e,Bool.false_or];exact oQ k r
theorem rN (k j:κ) (y:V):∀kvs:List (κ × V),cZ kvs k=none->cZ (kvs++[(k,y)]) j=if j=k then some y else cZ kvs j
 | [],_=>by
  by_cases e:k=j
  ·rw [if_pos e.symm];exact fE (p:=(k,y)) e
  ·rw [if_neg (λz=>e z.symm)];exact fF (p:=(k,y)) e
 | p::r,hn=>by
  rw [List.cons_append]
  have b:¬ p.1=k:=λz=>by rw [fE z] at hn;cases hn
  rw [fF b] at hn
  have c:=rN k j y r hn
  by_cases e:p.1=j
  ·rw [fE e,fE e,if_neg (λz=>b (e.trans z))]
  ·rw [fF e,fF e,c]
def mP (kvs:List (κ × V)) (k:κ) (v:V):(mC kvs k v).length<=kvs.length+1:=by
 unfold mC;split
 ·rw [g7];omega
 ·rw [i7,j9,P3];omega
def wE {kvs:List (κ × V)} {k:κ} (v:V) (h:cZ kvs k=none):mC kvs k v=kvs++[(k,v)]:=by
 unfold mC;rw [oQ,h];exact if_neg (by decide)
def iM.isSome_eq {o:Option V} {u:Option Value} (r:iM o u):o.isSome=u.isSome:=by
 cases o with
 | none=>cases u with
  | none=>rfl
  | some _=>exact(show False from r).elim
 | some _=>cases u with
  | none=>exact(show False from r).elim
  | some _=>rfl
theorem iM.getD {o:Option V} {u:Option Value} {d:V} {d':Value} (r:iM o u) (b:bJ d d'):bJ (o.getD d) (u.getD d'):=by
 cases o with
 | none=>cases u with
  | none=>exact b
  | some _=>exact(show False from r).elim
 | some _=>cases u with
  | none=>exact(show False from r).elim
  | some _=>exact r
def KV.val {kvs:List (κ × V)} {vs:List (κ × Value)} (r:KV kvs vs) (k:κ):iM (cZ kvs k) (valueAt vs k):=by
 unfold KV at r
 induction r with
 | nil=>exact E6
 | @cons p q n c h t m=>
  let (j,l):=h;by_cases e:p.1=k
  ·let g:q.1=k:=j.symm.trans e;let b:valueAt (q::c) k=some q.2:=by simp [valueAt,G6,g]
   rw [fE e,b];exact l
  ·let g:¬ q.1=k:=λz=>e (j.trans z);let b:valueAt (q::c) k=valueAt c k:=by simp [valueAt,G6,g]
   rw [fF e,b];exact m
theorem KV.any {kvs:List (κ × V)} {vs:List (κ × Value)} (r:KV kvs vs) (k:κ):(kvs.any λb=>decide (b.1=k))=vs.any λb=>decide (b.1=k):=by
 unfold KV at r
 induction r with
 | nil=>rfl
 | cons h t ih=>rw [O5,O5,ih,h.1]
def KV.repl {kvs:List (κ × V)} {vs:List (κ × Value)} (r:KV kvs vs) (k:κ) {y:V} {u:Value} (j:bJ y u):
  KV (kvs.map λb=>if b.1=k then(b.1,y) else b) (vs.map λb=>if b.1=k then(b.1,u) else b):=by
 unfold KV at r ⊢
 induction r with
 | nil=>exact .nil
 | @cons p q ps qs h t ih=>
  rw [r6,r6];refine .cons ?_ ih;let (c,g):=h;by_cases e:p.1=k
  ·rw [if_pos e,if_pos (c.symm.trans e)];exact {(c),j}
  ·rw [if_neg e,if_neg (λz=>e (c.trans z))];exact {(c),g}
def KV.put {kvs:List (κ × V)} {vs:List (κ × Value)} (r:KV kvs vs) (k:κ) {y:V} {u:Value} (b:bJ y u):KV (mC kvs k y) (stored vs k u):=by
 unfold mC stored;rw [r.any k];by_cases e:(vs.any λc=>decide (c.1=k))=true
 ·rw [if_pos e,if_pos e];exact r.repl k b
 ·rw [if_neg e,if_neg e];exact Paired.snoc r {(rfl),b}
theorem KV.length {kvs:List (κ × V)} {vs:List (κ × Value)} (r:KV kvs vs):kvs.length=vs.length:=Paired.length r
end
def sI {P:Program} {w:World} {k:bZ} {u:Value} (r:bJ (kV k) u):(cK P w).is k u=true:=by
 cases k with
 | inl i=>let (t,e):=(show ∃t,u=Value.int i t from r);subst e;exact wZ P w i t
 | inr x=>let (t,e):=(show ∃t,u=Value.str x t from r);subst e;exact wY P w x t
theorem sJ {P:Program} {w:World}:∀{ks:List bZ} {us:List Value},bG (ks.map kV) us->ItemsAre (cK P w) ks us
 | [],_,r=>by rw [P4] at r;cases r;exact .nil
 | k::ks,_,r=>by
  rw [r6] at r
  cases r with
  | cons h t=>exact .cons (sI h) (sJ t)
abbrev KT (H:Hp):List (List bZ × V)->List (List bZ × Addr × Value)->Prop:=Paired λp q=>p.1=q.1/\H q.2.1=some (.tup (p.1.map kV))/\bJ p.2 q.2.2
def KT.val {H:Hp} {kvs:List (List bZ × V)} {xs:List (List bZ × Addr × Value)} (r:KT H kvs xs) (k:List bZ):iM (cZ kvs k) ((atKey xs k).map (·.2)):=by
 induction r with
 | nil=>exact E6
 | @cons p q n c h t m=>
  let (j,_,l):=h;by_cases e:p.1=k
  ·let g:q.1=k:=j.symm.trans e;let b:atKey (q::c) k=some q.2:=by simp [atKey,G6,g]
   rw [fE e,b];exact l
  ·let g:¬ q.1=k:=λz=>e (j.trans z);let b:atKey (q::c) k=atKey c k:=by simp [atKey,G6,g]
   rw [fF e,b];exact m
def KT.repl {H:Hp} {kvs:List (List bZ × V)} {xs:List (List bZ × Addr × Value)} (r:KT H kvs xs) (k:List bZ) {y:V} {u:Value} (l:bJ y u):
  KT H (kvs.map λc=>if c.1=k then(c.1,y) else c) (xs.map (putAt k u)):=by
 induction r with
 | nil=>exact .nil
 | @cons p q ps qs h t ih=>
  rw [r6,r6];refine .cons ?_ ih;let (b,g,j):=h;unfold putAt;by_cases e:p.1=k
  ·rw [if_pos e,if_pos (b.symm.trans e)];exact {(b),g,l}
  ·rw [if_neg e,if_neg (λz=>e (b.trans z))];exact {(b),g,j}
def KT.put {H:Hp} {kvs:List (List bZ × V)} {xs:List (List bZ × Addr × Value)} (r:KT H kvs xs) (k:List bZ) {b:Addr} {y:V} {u:Value} (g:H b=some (.tup (k.map kV))) (c:bJ y u):
  KT H (mC kvs k y) (storedH xs k b u):=by
 let e:(kvs.any λj=>decide (j.1=k))=(atKey xs k).isSome:=by
  rw [oQ,(r.val k).isSome_eq,Option.isSome_map]
 unfold mC storedH;rw [e];by_cases q:(atKey xs k).isSome=true
 ·rw [if_pos q,if_pos q];exact r.repl k c
 ·rw [if_neg q,if_neg q];exact Paired.snoc r {(rfl),g,c}
def KT.keeps {H H':Hp} {kvs:List (List bZ × V)} {xs:List (List bZ × Addr × Value)} (r:KT H kvs xs) (g:∀b c,H b=some (.tup c)->H' b=some (.tup c)):KT H' kvs xs:=
 Paired.mapP r λ_ _ z=>{z.1,g _ _ z.2.1,z.2.2}
section
variable {P:Program} {w:World} {H:Hp} {h:Heap} {a:Addr}
def Wz {u:HO} (b:kH P w H h) (e:Rd H a u):bL P w H h a u:=e.ok b
def qH {kvs:List (bZ × V)} (c:kH P w H h) (e:Rd H a (.dK kvs)):kvs.length<=sizeLine/\(a == sysModules)=false/\∃b,KV kvs b/\h.DictOf (cK P w) a b:=
 show bL P w H h a (.dK kvs) from Wz c e
def GA {kvs:List (bZ × V)} (c:kH P w H h) (e:H a=some (.dK kvs)):kvs.length<=sizeLine/\(a == sysModules)=false/\∃b,KV kvs b/\h.DictOf (cK P w) a b:=qH c (.inl e)
def mG {ks:List bZ} (c:kH P w H h) (e:H a=some (.tup (ks.map kV))):(tupleKind (cK P w)).is h ks a:=by
 let (_,b,r,o,j,g,n,l):=(show bL P w H h a (.tup (ks.map kV)) from c a _ e);exact {o,b.toArray,n,j,g,l,by simpa using sJ r}
def qF {kvs:List (List bZ × V)} (g:kH P w H h) (e:Rd H a (.dT kvs)):kvs.length<=sizeLine/\(a == sysModules)=false /\
  ∃b,KT H kvs b/\h.DictOfH (tupleKind (cK P w)) a b:=by
 let (z,y,b,r,o,j,G,B,n,F,C,D):=(show bL P w H h a (.dT kvs) from Wz g e);refine {z,y,b,r,o,j,G,B,n,F,C,λx hx=>?_,D};let c:∀{l:List (List bZ × V)} {m:List (List bZ × Addr × Value)},KT H l m->∀x ∈ m,(tupleKind (cK P w)).is h x.1 x.2.1:=by
  intro l m q
  induction q with
  | nil=>intro x hx;exact nomatch hx
  | @cons p q ps qs hq t ih=>
   intro x hx;rcases g8.mp hx with e|hx
   ·subst e;exact mG g (by rw [<- hq.1];exact hq.2.1)
   ·exact ih x hx
 exact c r x hx
def FZ {kvs:List (List bZ × V)} (c:kH P w H h) (e:H a=some (.dT kvs)):kvs.length<=sizeLine/\(a == sysModules)=false /\
  ∃b,KT H kvs b/\h.DictOfH (tupleKind (cK P w)) a b:=qF c (.inl e)
end
def kI (H:Hp) (a:Addr) (y:V) (r:Option V):Prop:=
 (∃kvs k,Rd H a (.dK kvs)/\y=kV k/\r=cZ kvs k)\/∃kvs k b,Rd H a (.dT kvs)/\y=.ref b/\H b=some (.tup (k.map kV))/\r=cZ kvs k
def Hh (H:Hp) (a:Addr) (y v:V) (H':Hp):Prop:=
 (∃kvs k,H a=some (.dK kvs)/\y=kV k/\kvs.length<sizeLine/\H'=aR H a (.dK (mC kvs k v))) \/
 ∃kvs k b,H a=some (.dT kvs)/\y=.ref b/\H b=some (.tup (k.map kV))/\kvs.length<sizeLine/\H'=aR H a (.dT (mC kvs k v))
theorem kI.k {H:Hp} {a:Addr} {kvs:List (bZ × V)} {k:bZ} (e:H a=some (.dK kvs)):kI H a (kV k) (cZ kvs k):=.inl {kvs,k,.inl e,rfl,rfl}
theorem Hh.k {H:Hp} {a:Addr} {kvs:List (bZ × V)} {k:bZ} {v:V} (e:H a=some (.dK kvs)) (b:kvs.length<sizeLine):Hh H a (kV k) v (aR H a (.dK (mC kvs k v))):=.inl {(kvs),k,e,rfl,b,rfl}
section
variable {pins:List (Addr × Obj)} {σ:St} {H:Hp} {s:Shared} {a:Addr} {y v:V} {u r:Value} {o:Option V} {A:Around} {E:Value->Shared->Prop}
def aO.big (I:aO X pins σ H s):sysModules<s.heap.objs.size:=by
 let h:mainGlobals<s.heap.objs.size:=(I.mod.glob.keeps I.bk).lt;exact Nat.lt_trans (by decide) h
def Gn {Q:Value->Shared->Prop} (K:A.units+1<cLine) (I:aO X pins σ H s) (g:kI H a y (some v)) (B:bJ y u) (h:∀m x,aO X pins σ H x->bJ v m->Q m x):
  wpAny (model X.prog X.w) A (getItem (.ref a) u) Q E s:=by
 rcases g with ⟨kvs,k,e,t,l⟩|⟨kvs,k,b,e,t,D,l⟩
 ·subst t;let (z,C,F,j,dd):=qH I.hok e;let (m,q,c):=iM.some_of (v:=v) (o:=valueAt F k) (by rw [l];exact j.val k);exact wpAny_getItem_of (sI B) dd.mapOf q (h m _ (I.tok _) c)
 ·subst t;cases (show u=Value.ref b from B);let (z,C,G,j,dd):=qF I.hok e;let (m,q,c):=iM.some_of (v:=v) (o:=(atKey G k).map (·.2)) (by rw [l];exact j.val k);let (p,J,n):=Option.map_eq_some_iff.mp q;refine wpAny_getItem_heap (tupleKind_room_in1 K) (mG I.hok D) dd J ?_;rw [n];exact h m _ (I.tok _) c
def JI {Q:Value->Shared->Prop} (x:A.units+1<cLine) (I:aO X pins σ H s) (g:kI H a y o) (p:bJ y u) (h:∀n,aO X pins σ H n->Q (.bool o.isSome) n):
  wpAny (model X.prog X.w) A (compareOp .In u (.ref a)) Q E s:=by
 rcases g with ⟨kvs,k,e,m,l⟩|⟨kvs,k,b,e,m,t,l⟩
 ·subst m;let (z,j,B,c,dd):=qH I.hok e;refine wpAny_in_of (sI p) j dd.mapOf ?_;rw [<- (c.val k).isSome_eq,<- l];exact h _ (I.tok _)
 ·subst m;cases (show u=Value.ref b from p);let (z,j,C,c,dd):=qF I.hok e;refine wpAny_in_heap (tupleKind_room_in1 x) (mG I.hok t) j dd ?_;let q:=(c.val k).isSome_eq;rw [Option.isSome_map] at q;rw [<- q,<- l];exact h _ (I.tok _)
def Um {Q:Value->Shared->Prop} (x:A.units+1<cLine) (I:aO X pins σ H s) (g:kI H a y o) (p:bJ y u) (h:∀n,aO X pins σ H n->Q (.bool (!o.isSome)) n):
  wpAny (model X.prog X.w) A (compareOp .NotIn u (.ref a)) Q E s:=by
 rcases g with ⟨kvs,k,e,m,l⟩|⟨kvs,k,b,e,m,t,l⟩
 ·subst m;let (z,j,B,c,dd):=qH I.hok e;refine wpAny_notIn_of (sI p) j dd.mapOf ?_;rw [<- (c.val k).isSome_eq,<- l];exact h _ (I.tok _)
 ·subst m;cases (show u=Value.ref b from p);let (z,j,C,c,dd):=qF I.hok e;refine wpAny_notIn_heap (tupleKind_room_in1 x) (mG I.hok t) j dd ?_;let q:=(c.val k).isSome_eq;rw [Option.isSome_map] at q;rw [<- q,<- l];exact h _ (I.tok _)
def Dw {h':Heap} {t':Nat} {c:HO} (I:aO X pins σ H s) (j:GW (H a)) (l:Heap.SameBut a s.heap h') (n:∃q,h'.get? a=some q) (g:bL X.prog X.w (aR H a c) h' a c):
  aO X pins σ (aR H a c) { s with heap:=h',toks:=t' }:=
 I.write (x:=a) (e:=a) j (.inl rfl) (λb q m z=>(l.2 b m).trans z) n g
def BD {P:Program} {w:World} {H':Hp} {h':Heap} {kvs:List (bZ × V)} {vs:List (bZ × Value)} (z:kvs.length<=sizeLine) (c:(a == sysModules)=false) (b:KV kvs vs) (dd:h'.DictOf (cK P w) a vs):
  bL P w H' h' a (.dK kvs):={(z),c,vs,b,dd}
def Gm {H':Hp} {Q:Unit->Shared->Prop} (hu:A.units+1<cLine) (I:aO X pins σ H s) (g:Hh H a y v H') (K:bJ y u) (L:bJ v r) (h:∀G,aO X pins σ H' G->Q () G):
  wpAny (model X.prog X.w) A (setItem (.ref a) u r) Q E s:=by
 rcases g with ⟨kvs,k,e,C,l,B⟩|⟨kvs,k,b,e,C,M,l,B⟩
 ·subst C B;let (z,x,S,j,dd):=GA I.hok e
  let p:S.length<=sizeLine:=by rw [<- j.length];exact z
  let D:(mC kvs k v).length<=sizeLine:=by have:=mP kvs k v;omega
  refine wpAny_setItem_pairs (hsz:=p) (sI K) dd λJ m t=>h _ ?_;let T:∃q,J.get? a=some q:=let ⟨q,_,_,n,_⟩:=m;{(q),n};exact Dw I (by rw [e];exact E6) t T (BD D x (j.put k L) m)
 ·subst C B;cases (show u=Value.ref b from K);let (z,x,Y,j,dd):=FZ I.hok e
  let p:Y.length<=sizeLine:=by rw [<- Paired.length j];exact z
  let D:(mC kvs k v).length<=sizeLine:=by have:=mP kvs k v;omega
  refine wpAny_setItem_heap (hsz:=p) (tupleKind_room_in1 hu) (mG I.hok M) dd λJ m t=>h _ ?_;let (q,O,Z,n,N,W,h4,_,U):=m;refine Dw I (by rw [e];exact E6) t {(q),n} {D,x,_,(j.put k M L).keeps λc ys F=>?_,q,O,Z,n,N,W,h4,U};rw [aC (aL F e (λz=>nomatch z))];exact F
end
section
variable {pins:List (Addr × Obj)} {σ:St} {H:Hp} {s:Shared} {a:Addr} {kvs:List (bZ × V)} {k:bZ} {u:Value} {A:Around} {E:Value->Shared->Prop}
end
def GV (i:Expr):Prop:=∀ov iv,subscripted i false ov iv=operate [ov,iv] (getItem ov iv)
def Qr {prog:Program} {w:World} {A:Around} {E:Value->Shared->Prop} {s:Shared} {env:Env} {value b:Expr} {pos:Pos} {T p:String} {Q:Value->Shared->Prop}
  (z:typeLookup (.type T) "__getitem__"=pure (some (.builtin p))) (n:GV b)
  (h:wpAny (model prog w) A (eval value env) (λo j=>wpAny (model prog w) A (eval b env) (λi s₂=>s₂.TypeIs o T/\wpAny (model prog w) A (getItem o i) Q E s₂) E j) E s):
  wpAny (model prog w) A (eval (.Subscript value b pos) env) Q E s:=by
 refine Subscript_ (v6 h (λo j t=>v6 t (λi s₂ g=>?_) λ_ _ x=>x) λ_ _ x=>x);let (l,g):=g;unfold subscriptTail;refine c6 ?_;rw [getitemInPython_of_ne l.not_modules];refine c6 (wpAny_specialOf l z ?_);let c:wpAny (model prog w) A (subscripted b false o i) (λr m=>wpAny (model prog w) A (letTemporaryGo value o r >>= λ_=>pure r) Q E m) E s₂:=by
  rw [n o i];exact wpAny_operating (v6 g (λr m q=>c6 (wpAny_letTemporaryGo (g9 q))) λ_ _ x=>x)
 first
  | exact g9 (c6 c)
  | exact c6 (g9 (c6 c))
  | exact c6 c
def xS {X:Cx} {pins:List (Addr × Obj)} {σ:St} {H:Hp} {s:Shared} {a:Addr} {y:V} {o:Option V} (I:aO X pins σ H s) (g:kI H a y o):s.TypeIs (.ref a) "dict":=by
 rcases g with ⟨kvs,k,e,_,_⟩|⟨kvs,k,b,e,_,_,_⟩
 ·let (_,_,c,_,dd):=qH I.hok e;exact dd.typeIs
 ·let (_,_,j,_,dd):=qF I.hok e;exact dd.typeIs
def Wf (td ty:TE):TE:=λσ H Q=>td σ H λx H1=>ty σ H1 λy H2=>∃a v,x=.ref a/\kI H2 a y (some v)/\Q v H2
def IB (ty td:TE):TE:=λσ H Q=>ty σ H λy H1=>td σ H1 λx H2=>∃a o,x=.ref a/\kI H2 a y o/\Q (.bl o.isSome) H2
def Qq (ty td:TE):TE:=λσ H Q=>ty σ H λy H1=>td σ H1 λx H2=>∃a o,x=.ref a/\kI H2 a y o/\Q (.bl (!o.isSome)) H2
def ET (td ty tv:TE):TS:=λD σ H=>tv σ H λv H1=>td σ H1 λx H2=>ty σ H2 λy H3=>∃a H4,x=.ref a/\Hh H3 a y v H4/\D.nx σ H4
section
variable {o i e value:Expr} {pos pos' tpos:Pos} {td ty tv:TE}
def Ct (hu:X.A.units+1<cLine) (ho:PE X o td) (hi:PE X i ty) (hs:GV i):PE X (.Subscript o i pos) (Wf td ty):=by
 intro pins s σ H Q I h;refine Qr PySem.F.slot_dict_getitem.lookup hs (eY (ho s σ H _ I h) λu s1 x H1 I1 rx q1=>eY (hi s1 σ H1 _ I1 q1) λiv s2 y H2 I2 ry hUp=>?_);let (a,v,ex,g,q2):=hUp;subst ex;obtain rfl:u=Value.ref a:=rx;exact {xS I2 g,Gn hu I2 g ry λw' s3 I3 rw'=>{(v),H2,I3,rw',q2}}
def Zy (hu:X.A.units+1<cLine) (hi:PE X i ty) (ho:PE X o td):PC X .In i o (IB ty td):=by
 intro pins s σ H Q I h;refine eY (hi s σ H _ I h) λiv s1 y H1 I1 ry q1=>eY (ho s1 σ H1 _ I1 q1) λu s2 x H2 I2 rx hUp=>?_;let (a,ov,ex,g,q2):=hUp;subst ex;obtain rfl:u=Value.ref a:=rx;exact JI hu I2 g ry λs3 I3=>{.bl ov.isSome,H2,I3,rfl,q2}
def Fd (hu:X.A.units+1<cLine) (hi:PE X i ty) (ho:PE X o td):PC X .NotIn i o (Qq ty td):=by
 intro pins s σ H Q I h;refine eY (hi s σ H _ I h) λiv s1 y H1 I1 ry q1=>eY (ho s1 σ H1 _ I1 q1) λu s2 x H2 I2 rx hUp=>?_;let (a,ov,ex,g,q2):=hUp;subst ex;obtain rfl:u=Value.ref a:=rx;exact Um hu I2 g ry λs3 I3=>{.bl (!ov.isSome),H2,I3,rfl,q2}
def Cm (hu:X.A.units+1<cLine) (ho:PE X o td) (hi:PE X i ty) (hv:PE X value tv) (hs:swapsWith value (some (.Subscript o i pos')) pos.line X.env=pure false):
  PS X (.Assign [.Subscript o i pos'] value pos) (ET td ty tv):=by
 intro pins s σ H D I h;refine wpAny_Assign_Subscript (eY (hv s σ H _ I h) λr s1 v H1 I1 rv q1=>eY (ho s1 σ H1 _ I1 q1) λu s2 x H2 I2 rx q2=>eY (hi s2 σ H2 _ I2 q2) λiv s3 y H3 I3 ry hUp=>?_) hs;let (a,H4,ex,g,q3):=hUp;subst ex;obtain rfl:u=Value.ref a:=rx;exact Gm hu I3 g ry rv λs4 I4=>{(σ),H4,I4,q3}
end
def Oh {P:Program} {w:World} {H:Hp} (h:Heap) (b:sysModules<h.objs.size):bL P w H (h.push { cls:=.type "dict",data:=.dict #[] }) h.objs.size (.dK []):=
 {i5 _,beq_eq_false_iff_ne.mpr (E2 (j8 b)),[],.nil,Heap.DictOf.new h}
def Ya:TE:=λ_ H Q=>∀p,H p=none->Q (.ref p) (aR H p (.dK []))
section
variable {pos:Pos}
def wH:PE X (.Dict [] [] pos) Ya:=λpins s σ H Q I h=>
 wpAny_Dict_empty {.ref s.heap.objs.size,_,I.laid (a:=s.heap.objs.size) (o:=.dK []) (t':=s.toks) (λ_ _ q=>f6 _ q) (c9 _) (Oh s.heap I.big),rfl,h _ (I.hok.fresh (c9 _))}
end
structure M1 (X:Cx) (o:Expr) (m:Str) (apos:Pos) (e:Expr) (cpos:Pos):Prop where
 base:attributeBase o m X.env (eval o X.env)=eval o X.env
 few:((backTo cpos (starEach [e] X.env)).all (λx=>!x.1) && (backToKw cpos (keywordEach [] X.env)).all (λx=>x.1.isSome)
  && decide (([e]:List Expr).length+([]:List Keyword).length+(if ([]:List Keyword).isEmpty then 0 else 1)<30))=true
 line:(apos.endLine == cpos.line)=true
 trees:backTo cpos (starEach [e] X.env)=[(false,eval e X.env)]
def KO (H:Hp) (a:Addr):Prop:=(∃kvs,Rd H a (.dK kvs))\/∃kvs,Rd H a (.dT kvs)
def AT {X:Cx} {pins:List (Addr × Obj)} {σ:St} {H:Hp} {s:Shared} {a:Addr} (I:aO X pins σ H s) (d:KO H a):
  s.TypeIs (.ref a) "dict"/\(∀b,Value.ref a=.ref b->∃c,s.heap.get? b=some c/\c.dict=none)/\(a == sysModules)=false:=by
 rcases d with ⟨kvs,e⟩|⟨kvs,e⟩
 ·let (_,j,m,_,dd):=qH I.hok e;refine {dd.typeIs,λb q=>?_,j};cases q;let (c,_,_,l,g,_):=dd;exact {(c),l,g.2.1}
 ·let (_,j,n,_,dd):=qF I.hok e;refine {dd.typeIs,λb q=>?_,j};cases q;let (c,_,_,l,g,_):=dd;exact {(c),l,g.2.1}
section
variable {pins:List (Addr × Obj)} {σ:St} {H:Hp} {s:Shared} {a:Addr} {y d:V} {u r:Value} {o:Option V} {A:Around} {E:Value->Shared->Prop}
def BE {Q:Value->Shared->Prop} (B:A.units+1<cLine) (I:aO X pins σ H s) (g:kI H a y o) (q:bJ y u) (h:∀p n,aO X pins σ H n->bJ (o.getD .non) p->Q p n):
  wpAny (model X.prog X.w) A (call (.builtin "dict.get") [.ref a,u]) Q E s:=by
 rcases g with ⟨kvs,k,e,m,l⟩|⟨kvs,k,b,e,m,t,l⟩
 ·subst m;let (z,j,C,c,dd):=qH I.hok e;refine call_meetsIn PySem.F.slot_dict_get dd.typeIs PySem.F.entry_dict_get (PySem.F.args_dict_get_2 _ _) (meets_dict_get (cK X.prog X.w) a (sI q) j) {_,dd.mapOf,h _ _ (I.tok _) ?_};rw [l];exact(c.val k).getD rfl
 ·subst m;cases (show u=Value.ref b from q);let (z,j,x,c,dd):=qF I.hok e;refine call_meetsIn PySem.F.slot_dict_get dd.typeIs PySem.F.entry_dict_get (PySem.F.args_dict_get_2 _ _) (meetsH_dict_get (tupleKind (cK X.prog X.w)) a b j) {tupleKind_room_in1 B,k,x,mG I.hok t,dd,h _ _ (I.tok _) ?_};rw [l];exact(c.val k).getD rfl
end
def Yb (td ty:TE):TE:=λσ H Q=>td σ H λx H1=>∃a,x=.ref a/\KO H1 a/\ty σ H1 λy H2=>∃o,kI H2 a y o/\Q (o.getD .non) H2
section
variable {o e f:Expr} {apos cpos:Pos} {td ty tx:TE}
def Lh (hu:X.A.units+1<cLine) (ho:PE X o td) (he:PE X e ty) (m:M1 X o "get" apos e cpos):PE X (.Call (.Attribute o "get" apos) [e] [] cpos) (Yb td ty):=by
 intro pins s σ H Q I h;refine wpAny_Call_method m.base m.few m.line PySem.F.plainAttrs_dict PySem.F.slot_dict_get PySem.F.type_dict_get (eY (ho s σ H _ I h) λu s1 x H1 I1 rx hUp=>?_);let (a,ex,d,q1):=hUp;subst ex;obtain rfl:u=Value.ref a:=rx;let (t1,t2,_):=AT I1 d;refine {t1,t2,?_};rw [m.trees];refine O1 rfl (P5 (Calls.spliced_cons (eY (he s1 σ H1 _ I1 q1) λiv s2 y H2 I2 ry ⟨ov,g,q2⟩=>Calls.spliced_nil ?_)));exact BE hu I2 g ry λw' s3 I3 rw'=>{_,H2,I3,rw',q2}
end
section
variable {pins:List (Addr × Obj)} {σ:St} {H:Hp} {s:Shared} {a:Addr} {kvs:List (bZ × V)} {A:Around} {E:Value->Shared->Prop}
end
section
variable {pins:List (Addr × Obj)} {σ:St} {H:Hp} {s:Shared} {a:Addr} {y:V} {u:Value} {A:Around} {E:Value->Shared->Prop}
end
def aI {H:Hp} {p:Addr} {o:HO} (h:H p=none):aM H (aR H p o):=λb u q=>by
 rw [aC (aD q h)]
 exact q
def pJ:kM X (binaryOp .FloorDiv) (rI (λ_ j=>0<j/\j<2 ^ 64) λi j=>.int (i / j)):=FA λi j _ _ _ _ _ a q=>by
 let e:i.fdiv j=i / j:=Int.fdiv_eq_ediv_of_nonneg _ (v7 a.1)
 rw [<- e] at q
 refine floordiv_int (Int.ne_of_gt a.1) q (.inl (PyProof.noPylong_of_log2 ?_))
 let c:j.natAbs<2 ^ 64:=∎
 let b:j.natAbs≠0:=∎
 let d:j.natAbs.log2<64:=(Nat.log2_lt b).mpr c
 omega
end
end L2
namespace HT
open PySem PyProof.Rows
section
variable {prog:Program} {w:World} {A:Around} {E:Value->Shared->Prop} {s:Shared}
def getItem_tuple_all {t sl:Addr} {items:Array Value} {j i:Value} {lo hi:Option Int} {Q:Value->Shared->Prop} (a:IsTup s.heap t items) (f:s.heap.IsSliceOf sl j i .none) (pl:IsPart j lo) (l:IsPart i hi)
  (g:sIx items.size 0 lo=0/\sIx items.size items.size hi=items.size) (h:Q (.ref t) s):wpAny (model prog w) A (getItem (.ref t) (.ref sl)) Q E s:=by
 let (m,e,c,k):=id f;let d:s.TypeIs (.ref sl) "slice":={(m),e,c};unfold getItem
 try with_reducible refine w9 ?_
 first|refine c6 (g9 ?_)|skip
 refine c6 (wpAny_sequenceKey a.typeIs (by decide) ?_);refine c6 (B1 (name:=Str.ofString "__getitem__") a.typeIs D0
  (E4 D0 a.typeIs entry_tuple_getitem ?_ (args_tuple_getitem _ _)));show wpAny _ _ (Builtin.Tuple.tupleItemsOf (.ref t) >>= _) _ _ s;refine c6 (tupleItemsOf_ a ?_);refine c6 (wpAny_typeOf d ?_);rw [if_pos (by decide)];refine c6 (gW f pl l ?_);let b:(((sIx items.size 0 lo:Nat):Int) == 0 && (1:Int) == 1 && (sIx items.size items.size hi-sIx items.size 0 lo) == items.size)=true:=by
  rw [g.1,g.2];simp
 show wpAny _ _ (if (((sIx items.size 0 lo:Nat):Int) == 0 && (1:Int) == 1 && (sIx items.size items.size hi-sIx items.size 0 lo) == items.size)=true then _ else _) _ _ s;rw [if_pos b];let (o,p,r,n,q):=id a;refine c6 ?_;unfold Builtin.Tuple.tupleIsExact;refine c6 (wpAny_typeOf a.typeIs ?_);refine g9 ?_;rw [if_pos (by decide)];refine c6 (F1 ?_);exact g9 {_,rfl,g9 h}
end
end HT
namespace L2
open PySem PySem.Spec PyProof.Rows
section
variable {X:Cx}
def IM:V->Option Int->Option Int->Hp->VK->Prop:=λx lo hi H Q=>∃a xs,x=.ref a/\H a=some (.tup xs)/\∀p H',aM H H'->H' p=some (.tup (gR xs lo hi))->Q (.ref p) H'
def Iu:HI X IM:=by
 intro c s σ H x v z u j k B Q I n l m o h;let (a,b,rfl,i,q):=h;by_cases f:HT.sIx b.length 0 j=0/\HT.sIx b.length b.length k=b.length
 ·cases (show v=Value.ref a from n);let (g,r,t,C):=I.tuple (cA.of i);let d:g.toArray.size=b.length:=by rw [j6];exact r.length.symm
  refine {"tuple",_,PyProof.Rows.slot_tuple_getitem.lookup,t.typeIs,?_};refine HT.getItem_tuple_all t l m o (by rw [d];exact f) {.ref a,H,I,rfl,q a H (aM.refl H) ?_};let e:gR b j k=b:=by
   unfold gR;rw [f.1,f.2];simp
  rw [e];exact i
 ·exact yV c s σ H _ v z u j k B Q I n l m o {a,b,rfl,cA.of i,f,λp y=>q p _ (aI y) aB}
end
abbrev Cx.blkF (X:Cx) (NB:List Str) (scope:Scope) (cl:List (Str × Addr)) (C:Addr) (s:Shared) (H:Hp) (fp:List Addr) (pn:List (Addr × Obj)):Cx:=
 { X with N:=NB,s₀:=s,H₀:=H,env:=compEnvC scope cl C X.env,outer:=X.stack,ex:=fp,fn:=λ_=>false,pn:=pn,xe:=λ_ _=>False }
def dY (n:Nat) (js:List Nat) (σ:St):St:=List.replicate n none++js.map λj=>(σ[j]?).join
def tJ (n:Nat) (js:List Nat) (wi:TI) (g:TG) (tc:TT) (te:TE):TE:=λσ H Q=>wi σ H λJ H1=>∀acc,H1 acc=none ->
 ∃W:Nat->Nat->List V->Hp->Prop,(∃m,W 0 m [] (aR H1 acc (.lst [])))/\∀i m ys H,W i m ys H->H acc=some (.lst ys) /\
  ((J.stop i H/\Q (.ref acc) H)\/(J.go i H/\∀x H',J.yld i H x H'->g x (dY n js σ) H' λσ2 H2=>σ2.drop n=(dY n js σ).drop n/\tc σ2 H2 λb H3=>
   if b=true then te σ2 H3 λy H4=>H4 acc=some (.lst ys)/\ys.length<sizeLine/\∃m',m'<m/\W (i+1) m' (ys++[y]) (aR H4 acc (.lst (ys++[y])))
   else ∃m',m'<m/\W (i+1) m' ys H3))
structure gL (X:Cx) (NB:List Str) (n:Nat) (js:List Nat) (scope:Scope) (cl:List (Str × Addr)):Prop where
 clo:closureFor scope X.env=pure cl
 sub:∀x c,cl.lookup x=some c->X.env.cells.lookup x=some c
 has:∀x,((relabel scope X.env).names.lookup x=some .cell\/(relabel scope X.env).names.lookup x=some .free)->(cl.lookup x).isSome=true
 len:NB.length=n+js.length
 nam:∀k j,js[k]?=some j->NB[n+k]?=X.N[j]?
 ck:∀x,Xo (relabel scope X.env) x->x ∈ NB.drop n->((relabel scope X.env).names.lookup x=some .cell\/(relabel scope X.env).names.lookup x=some .free)/\(X.env.kindOf x=some .cell\/X.env.kindOf x=some .free)/\(cl.lookup x).isSome=true
section
variable {X:Cx} {NB:List Str} {n:Nat} {js:List Nat} {scope:Scope} {cl:List (Str × Addr)}
def mJ (T:gL X NB n js scope cl) (σ:St):(dY n js σ).length=NB.length:=by
 unfold dY;rw [i7,A9,g7,T.len]
def qL {σ:St} {i:Nat} {v:V} (h:(dY n js σ)[i]?=some (some v)):∃k j,i=n+k/\js[k]?=some j/\σ[j]?=some (some v):=by
 unfold dY at h;rcases Nat.lt_or_ge i n with c|c
 ·rw [w5 (by rw [A9];exact c),List.getElem?_replicate,if_pos c] at h;cases h
 ·rw [y7 (by rw [A9];exact c),A9,i8] at h;cases hj:js[i-n]? with
  | none=>rw [hj] at h;cases h
  | some j=>
   rw [hj] at h;let h:some ((σ[j]?).join)=some (some v):=h;let h:=Option.some.inj h;refine {i-n,j,∎,hj,?_};cases hs:σ[j]? with
   | none=>rw [hs] at h;cases h
   | some o=>
    rw [hs] at h;let h:o=some v:=h;rw [h]
def xX {pins:List (Addr × Obj)} {σ:St} {H:Hp} {s:Shared} {h4:Heap} {tk:Nat} {C:List Addr} (I:aO X pins σ H s) (Y:scope.kind=.function) (T:gL X NB n js scope cl)
  (t:∀b ∈ C,lP X pins H b) (P:∀b ∈ C,b<s.heap.objs.size) {m:Str->Option Value} (Z:h4.Ns s.heap.objs.size m) (a:∀b o,s.heap.get? b=some o->h4.get? b=some o):
  aO (X.blkF NB scope cl s.heap.objs.size s H C (X.pn++pins)) [] (dY n js σ) H { s with heap:=h4,toks:=tk }:=by
 let r:∀b,b≠X.env.locals->b ∉ X.fs->b ∉ kU X.stack:=λb W K z=>(g8.mp (I.stkSub b z)).elim W K;let (m0,Q,A):=I.loc;refine {{I.ok.mod,Y,I.ok.glob,I.ok.blt,c9 _,λx y c l D=>I.ok.inj x y c (T.sub x c l) (T.sub y c D),λx q=>M3.mp (T.has x q),λx c q=>(nomatch q),I.ok.hd,I.ok.frames,.inl rfl,λb g=>{j8 (P b g),λx c q=>(t b g).2.2.2.2.1 x c (T.sub x c q)},I.bs,l7 I.ok.bsz I.sz,
  λb o q g=>?_,λb g=>r b (t b g).2.1 (t b g).2.2.1,I.stack,I.stkFree},rfl,I.bare,Un.kept a,{m,Z,λi x v l D M=>?_},λx c q=>?_,I.hok.fresh (c9 _),λx c q=>I.freeC x c (T.sub x c q),λp hp=>?_,I.hok.kept a,?_}
 ·rcases (t b g).2.2.2.1 with z|z
  ·exact I.ok.noex b o q z
  ·exact absurd (k7 (i4 q) (l7 I.ok.bsz z)) (x6 _)
 ·let (k,j,rfl,hj,S):=qL D;let l:NB[n+k]?=some x:=l
  let hx:X.N[j]?=some x:=by rw [<- T.nam k j hj];exact l
  let U:x ∈ NB.drop n:=i6 (i:=k) (by rw [p7];exact l);let (k1,G,k3):=T.ck x M U;let (c,F):=M3.mp k3;let (u,J,L):=A j x v hx S (G.elim (λz=>.inr (.inl z)) λz=>.inr (.inr z));refine {u,J,.inr {k1,c,F,?_}};rcases L with ⟨z,_⟩|⟨_,c',B,o,h,f⟩
  ·rcases G with w|w <;> (rw [w] at z;cases z)
  ·let e:c'=c:=Option.some.inj (B.symm.trans (T.sub x c F));subst e;exact {o,a _ _ h,f}
 ·let (v,o,h,f):=I.cell x c (T.sub x c q);exact {v,o,a _ _ h,f}
 ·let E:p ∈ X.pn++pins:=by simpa using hp
  let (q,n,ne,O,d):=I.pin p E;exact {a _ _ q,n,j8 (i4 q),r _ ne O,d}
 ·exact mJ T σ
def sS {pins:List (Addr × Obj)} {σ m:St} {H H':Hp} {s s':Shared} {h2:Heap} {g:List Addr} {pl:List (Addr × Obj)} (I:aO X pins σ H s) (j:∀b ∈ g,lP X pins H b) (v:∀b ∈ g,b<s.heap.objs.size)
  (J:aO (X.blkF NB scope cl s.heap.objs.size s H g (X.pn++pins)) pl m H' s') (f:Heap.SameBut s.heap.objs.size s'.heap h2):aO X pins σ H' { s' with heap:=h2 }:=by
 let u:=J.base;let a:∀b o,s.heap.get? b=some o->b≠s.heap.objs.size:=λb o q=>j8 (i4 q);refine I.call' (s':={ s' with heap:=h2 }) (ch:=g) J.os {λb o q n d e=>(f.2 b (a b o q)).trans (u.keep b o q n d e),λb o q n d e=>?_,u.free,λb o q e=>?_,u.tups,u.frzs,u.tbls} (λb o q=>?_) J.bare λb d=>?_
 ·let (t,z):=u.slot b o q n d e;exact {t,(f.2 b (a b o q)).trans z}
 ·let (k,z):=u.there b o q e;exact {k,(f.2 b (a b o q)).trans z}
 ·refine(J.hok b o q).stay (λc y hc r=>(f.2 c ?_).trans r) (λ_ r=>r) λ_ _ r=>r;let h:H' s.heap.objs.size=none:=J.free;rintro rfl;rcases hc with rfl|hc
  ·rw [h] at q;cases q
  ·rw [h] at hc;cases hc
 ·let (w,l,x,p,f4,i):=j b d;exact {(p),l,f4,i}
def dM {P tg E:Expr} {O:List Expr} {pos:Pos} {wi:TI} {g:TG} {tc:TT} {te:TE} (hk:scope.kind=.function) (a6:∀x ∈ scope.names,x.2≠.cell)
  (N:∀x ∈ scope.names,x.2=.local->scope.names.lookup x.1=some .local) (_:(0:Nat)=0) (T:gL X NB n js scope cl) (hi:PI X tg E wi)
  (hg:∀C s H B pn,PG (X.blkF NB scope cl C s H B pn) tg g) (ht:∀C s H B pn,HK (X.blkF NB scope cl C s H B pn) O tc) (he:∀C s H B pn,PE (X.blkF NB scope cl C s H B pn) P te)
  (hs:∀x,foldedSetIterable E X.env x=pure x:=by intro _;rfl):PE X (.ListComp P [{tg,E,O,0}] scope pos) (tJ n js wi g tc te):=by
 intro a s σ H Q I h;rw [eval_ListComp];refine wpAny_comprehension_free (use:=none) rfl hs T.clo hk N (gM (hi s σ H _ I h) λv s1 h1=>gM h1 λb1 t h2=>?_);let (it,B,tn,J,G,rfl,I2,U,a5,f2,h2):=h2;let av:∀b ∈ B,b<t.heap.objs.size:=λb D=>by
  let (o,q,_):=U.obj 0 _ a5 b D;exact i4 q
 refine B8 ?_;let hz:G t.heap.objs.size=none:=I2.hok.fresh (c9 _);let (W,(m0,w0),ah):=h2 t.heap.objs.size hz;let I3:aO X a σ (aR G t.heap.objs.size (.lst [])) { t with heap:=t.heap.push { cls:=.type "list",dict:=none,data:=.seq ([]:List Value).toArray } }:=
  I2.laid (t':=t.toks) (λb o q=>f6 _ q) (c9 _) {i5 _,[],0,.nil,i9 _ rfl}
 generalize hs3:({ t with heap:=t.heap.push { cls:=.type "list",dict:=none,data:=.seq ([]:List Value).toArray } }:Shared)=f at I3 ⊢
 let Z:∀b o,t.heap.get? b=some o->f.heap.get? b=some o:=λb o q=>by rw [<- hs3];exact f6 _ q
 let f3:∀b ∈ B,lP X a (aR G t.heap.objs.size (.lst [])) b:=λb D=>{by rw [aC (j8 (av b D))];exact(f2 b D).1,(f2 b D).2};let a7:∀b ∈ B,b<f.heap.objs.size:=λb D=>by
  let (o,q,_):=U.obj 0 _ a5 b D;exact i4 (Z b o q)
 refine wpAny_newFunctionEnv a6 (by intro y hy;simp at hy) (λh4 ax aj=>?_) hk;let F:∀b o,f.heap.get? b=some o->h4.get? b=some o:=λb o q=>(aj.2 b (j8 (i4 q))).trans (f6 _ q);let I4:=xX (tk:=f.toks+([]:List (Str × Value)).length) I3 hk T f3 a7 ax F;let a9:tn 0 h4:=U.keep _ _ _ a5 λb D o q=>F b o (Z b o q);let a4:∀{Y:Hp},(∀b ∈ B,Y b=none)->∀b ∈ B,lP (X.blkF NB scope cl f.heap.objs.size f (aR G t.heap.objs.size (.lst [])) B (X.pn++a)) [] Y b:=λhn b D=>by
  let (g0,g1,g2,g3,g4,g5):=f3 b D;exact {hn b D,j8 (a7 b D),λz=>(g8.mp (I3.stkSub b z)).elim g1 g2,.inl D,λx c q=>g4 x c (T.sub x c q),λp hp=>g5 p (by simpa using hp)}
 let a0:∀s5:Shared,s5={ f with heap:=h4,toks:=f.toks+([]:List (Str × Value)).length }->codeAny (model X.prog X.w) X.A (.compLoop (.ListComp P [{tg,E,O,0}] scope pos) 0 (.ref it) (.ref t.heap.objs.size) (compEnvC scope cl f.heap.objs.size X.env))
   (compPost (model X.prog X.w) X.A X.xe none (EP X a σ Q) (.ref t.heap.objs.size) f.heap.objs.size) s5:=by
  rintro s5 rfl;refine codeAny_loop rfl (λk s'=>∃i ys Y,aO (X.blkF NB scope cl f.heap.objs.size f (aR G t.heap.objs.size (.lst [])) B (X.pn++a)) [] (dY n js σ) Y s'/\tn i s'.heap/\(∀b ∈ B,Y b=none)/\W i k ys Y)
   (λk s6 hI=>?_) m0 {0,[],_,I4,a9,λb D=>(f3 b D).1,w0}
  let (i,ys,H6,I6,af,a8,w6):=hI;show wpAny _ _ ((compTurn (.ListComp P [{tg,E,O,0}] scope pos) 0 (.ref it) (.ref t.heap.objs.size) (compEnvC scope cl f.heap.objs.size X.env)).onRaise (λx=>do noteFrame x (compEnvC scope cl f.heap.objs.size X.env);theTreesLotGoes x)) _ _ s6;refine wpAny_noted ?_;rw [compTurn_list];refine c6 (O4 (c6 ?_));let (az,ap):=ah i k ys H6 w6;rcases ap with ⟨ag,q⟩|⟨go,ac⟩
  ·refine gM (U.done (X.blkF NB scope cl f.heap.objs.size f (aR G t.heap.objs.size (.lst [])) B (X.pn++a)) rfl rfl rfl rfl i [] s6 _ H6 _ I6 (a4 a8) af ag) λr s7 K=>?_;let (hr,I7):=K;subst hr;let (m,hm,_):=I7.loc;exact g9 {m,hm,λh' au=>{.ref t.heap.objs.size,H6,sS I3 f3 a7 I7 au,rfl,q}}
  ·refine gM (U.item (X.blkF NB scope cl f.heap.objs.size f (aR G t.heap.objs.size (.lst [])) B (X.pn++a)) rfl rfl rfl rfl i [] s6 _ H6 _ I6 (a4 a8) af go) λr s7 K=>?_;let (u,hr,h7):=K;subst hr;refine c6 (gM h7 λ_ s8 K=>?_);let (x,H8,I8,r8,y8,a1,ao):=K;let as:=I8.pinned (a4 ao) (U.obj _ _ a1);let gp:∀{L:St} {H9:Hp} {s9:Shared},aO (X.blkF NB scope cl f.heap.objs.size f (aR G t.heap.objs.size (.lst [])) B (X.pn++a)) ([]++gN B s8.heap) L H9 s9->tn (i+1) s9.heap/\∀b ∈ B,H9 b=none:=λI9=>
    ⟨U.keep _ _ _ a1 λb D o e=>(I9.pin (b,o) (j3 _ (j3 _ (fB D e)))).1,λb D=>by
     let (o,e,d):=U.obj _ _ a1 b D
     exact(I9.pin (b,o) (j3 _ (j3 _ (fB D e)))).2.1⟩
   let wk:∀{L:St} {H9:Hp} {s9:Shared},L.drop n=(dY n js σ).drop n->aO (X.blkF NB scope cl f.heap.objs.size f (aR G t.heap.objs.size (.lst [])) B (X.pn++a)) ([]++gN B s8.heap) L H9 s9->aO (X.blkF NB scope cl f.heap.objs.size f (aR G t.heap.objs.size (.lst [])) B (X.pn++a)) [] (dY n js σ) H9 s9:=λ{L H9 s9} hd I9=>
    I9.unpinned.weak (by rw [mJ T,I9.len]) λk v z=>by
     let (k',j,rfl,_,_):=qL z;let e:=congrArg (λl=>l[k']?) hd;simp only [p7] at e;rw [e];exact z
   refine c6 (v6 (hg _ _ _ _ _ s8 _ H8 x u _ as r8 (ac x H8 y8)) (λ_ s9 hq=>?_) λ_ _ z=>z.elim);let (L,H9,I9,ad,q9):=hq;refine c6 (v6 (ht _ _ _ _ _ s9 L H9 _ I9 q9) (λok ak hq=>?_) λ_ _ z=>z.elim);let (ae,M,S):=hq;cases ok with
   | false=>
    rw [if_neg (by simp)] at S;let (m',a2,ay):=S;exact g9 {rfl,m',a2,i+1,ys,ae,wk ad M,(gp M).1,(gp M).2,ay}
   | true=>
    rw [if_pos rfl] at S;refine c6 (c6 (v6 (he _ _ _ _ _ ak L ae _ M S) (λy am hq=>?_) λ_ _ z=>z.elim));let (yv,an,ar,ry,aa,ai,m',a2,al):=hq;let mt:=cV (X:=X.blkF NB scope cl f.heap.objs.size f (aR G t.heap.objs.size (.lst [])) B (X.pn++a)) ([]++gN B s8.heap) am L an (.ref t.heap.objs.size) [yv] (.ref t.heap.objs.size) [y] (λ_ Y=>W (i+1) m' (ys++[yv]) Y) ar rfl (.cons ry .nil) {_,ys,yv,rfl,rfl,aa,ai,al};refine c6 (v6 mt (λ_ b2 hq=>?_) λ_ _ z=>z.elim);let (b0,aq,a3,_,aw):=hq;exact g9 (g9 {rfl,m',a2,i+1,_,aq,wk ad a3,(gp a3).1,(gp a3).2,aw})
 exact codeAny_compStart_list (a0 _ rfl) (U.self _ 0 _ _ _ a9 (a0 _ rfl))
def JD (K:PySem.W.Frag) (tl:TE):TI:=λσ H R=>tl σ H λx H1=>∃a,x=.ref a/\(((∃xs,dD K H1 a xs)/\R (Hl K a) H1)\/((∃xs,cA K H1 a xs)/\R (Vu K a) H1))
def Zt {u l:Expr} {r:TE} (B:PE X l r) (g:X.calm=true:=by rfl):PI X u l (JD X.K r):=by
 intro m s σ H R I h;refine eY (B s σ H _ I h) λv c x t d y j=>?_;let (a,e,j):=j;subst e;cases y;rcases j with ⟨⟨A,k⟩,q⟩|⟨⟨A,k⟩,q⟩
 ·let (f,z,p,w):=d.list k;refine N4 p.isList ?_;refine {c.heap.objs.size,[c.heap.objs.size],_,_,t,rfl,d.kept (t':=c.toks) λb o e=>f6 _ e,rO a _ (I.ok.hd g),{_,i9 _ rfl,rfl,rfl},λb i=>?_,q};let e:b=c.heap.objs.size:=by simpa using i
  subst e;exact d.fpOk (c9 _) (d.hok.fresh (c9 _))
 ·let (f,z,p,w):=d.tuple k;refine Q2 (show c.heap.IsTuple a f.toArray from p) ?_;refine {c.heap.objs.size,[c.heap.objs.size],_,_,t,rfl,d.kept (t':=c.toks) λb o e=>f6 _ e,oR a _ (I.ok.hd g),{_,i9 _ rfl,rfl,rfl},λb i=>?_,q};let e:b=c.heap.objs.size:=by simpa using i
  subst e;exact d.fpOk (c9 _) (d.hok.fresh (c9 _))
end
end L2
namespace L2
open PySem PySem.Spec PyProof.Rows PySem.W
open Classical in
section
variable {prog:Program} {w:World} {A:Around} {E:Value->Shared->Prop} {s:Shared}
end
theorem kJ {α β γ:Type} {F:β->γ->Prop} (f:α->β) (g:α->γ):∀{l:List α},(∀i ∈ l,F (f i) (g i))->Paired F (l.map f) (l.map g)
 | [],_=>.nil
 | a::l,h=>.cons (h a (i0 ..)) (kJ f g λi b=>h i (d0 _ b))
section
variable {X:Cx}
section
variable {prog:Program} {w:World} {A:Around} {E:Value->Shared->Prop}
end
section
variable {pos:Pos}
end
def aO.byNews {pins:List (Addr × Obj)} {σ:St} {H:Hp} {s:Shared} {h':Heap} {tk:Nat} {m:Str->Option Value} (I:aO X pins σ H s) (j:s.heap.Ns X.env.locals m) (F:Fr X.base X.env.locals h' m) (N:News X.base X.env.locals h' (oF X.base s.heap X.env.locals)):
  aO X pins σ H { s with heap:=h',toks:=tk }:=by
 let a:∀b o,b≠X.env.locals->s.heap.get? b=some o->h'.get? b=some o:=λb o d e=>by
  cases z:X.base.get? b with
  | some f=>
   have:=I.bk b f z;rw [e] at this;cases this;exact F.keep b o z
  | none=>exact(N (b,o) (jB d z e)).1
 refine I.step (g':=s.gens) (d':=s.drawn) (ch:=[]) (λ_ z=>nomatch z) (λb o d _ _ e _=>a b o d e) (λb o d _ _ e _=>{o.slots,a b o d e}) (λb o _ e n=>n) (λb o _ e=>?_) (λ_ _ e=>e) (λ_ _ _ e=>e) (λb k e=>{#[],by simpa using e}) (λh g=>?_) (λb o q=>?_) I.bare
 ·by_cases d:b=X.env.locals
  ·subst d;let (f,_,_,z,_):=F.ns;exact {(f),z}
  ·exact {o,a b o d e}
 ·have:h=m:=funext λx=>g.agree j x;subst this;exact F.ns
 ·refine(I.hok b o q).stay (λc i hc r=>a c i ?_ r) (λ_ r=>r) λ_ _ r=>r;rintro rfl;rcases hc with hc|hc
  ·rw [<- hc,I.free] at q;cases q
  ·rw [I.free] at hc;cases hc
theorem mI:∀{bs:List Bool} {us:List Value},bG (bs.map V.bl) us->LSm.BoolsAre us bs
 | [],_,.nil=>.nil
 | b::bs,_,.cons e r=>by
  cases (show _=Value.bool b from e)
  exact .cons b (mI r)
def Op (j:X.calm=true):fP X (.builtin "any") (λc H Q=>∃(a:Addr) (bs:List Bool),c=[.ref a]/\dD X.K H a (bs.map V.bl)/\Q (.bl (bs.any id)) H):=by
 intro b s σ H c o Q I r h;let (a,bs,rfl,l,q):=h;let (u,rfl,i):=iT r;cases i;let (d,k,g,p):=I.list l;let (m,F):=I.fr;exact LSm.any_bools F pR (I.ok.hd j) g.isList (mI k) λt n e f=>{.bl _,H,I.byNews F.ns e f,rfl,q}
def qJ (j:X.calm=true):fP X (.builtin "all") (λc H Q=>∃(a:Addr) (bs:List Bool),c=[.ref a]/\dD X.K H a (bs.map V.bl)/\Q (.bl (bs.all id)) H):=by
 intro b s σ H c o Q I r h;let (a,bs,rfl,l,q):=h;let (u,rfl,i):=iT r;cases i;let (d,k,g,p):=I.list l;let (m,F):=I.fr;exact LSm.all_bools F pR (I.ok.hd j) g.isList (mI k) λt n e f=>{.bl _,H,I.byNews F.ns e f,rfl,q}
theorem bL.get {P:Program} {w:World} {H:Hp} {h:Heap} {a:Addr} {o:HO} (x:bL P w H h a o):∃u,h.get? a=some u:=by
 cases o with
 | lst xs=>let (_,_,_,_,e):=x;exact {_,e}
 | tup xs=>let (_,_,_,o,e,_):=x;exact {_,e}
 | dK kvs=>let (_,_,_,_,o,_,_,e,_):=x;exact {_,e}
 | dT kvs=>let (_,_,_,_,o,_,_,e,_):=x;exact {_,e}
 | set S n=>let (o,_,_,_,e,_):=x;exact {_,e}
 | ins C dx fs=>let (_,_,_,e,_):=x;exact {_,e}
 | own y=>let (_,e):=x;exact {_,e}
 | xd fs=>let (_,(_,_,_,e,_),_):=x;exact {_,e}
 | rng lo hi=>let (_,_,_,e):=x;exact {_,e}
 | frz ob u=>let (e,_):=x;exact {_,e}
 | tbl ps=>exact {_,show h.get? a=some _ from x}
 | met f y=>exact {_,show h.get? a=some _ from x}
 | ext φ=>let (_,(_,e),_):=x;exact {_,e}
def aO.byNewsL {pins:List (Addr × Obj)} {σ:St} {H:Hp} {s:Shared} {h':Heap} {tk:Nat} {m:Str->Option Value} {D:Addr} {zs:List V} (I:aO X pins σ H s) (A:s.heap.Ns X.env.locals m) (h:h'.Ns X.env.locals m)
  (a:∀b o,b≠X.env.locals->s.heap.get? b=some o->h'.get? b=some o) (j:s.heap.get? D=none) (C:zs.length<=sizeLine) {g:List Value} {n:Nat} (p:bG zs g) (i:h'.get? D=some { cls:=.type "list",data:=.seq g.toArray n }):
  H D=none/\aO X pins σ (aR H D (.lst zs)) { s with heap:=h',toks:=tk }:=by
 let k:H D=none:=by
  cases z:H D with
  | none=>rfl
  | some o=>
   let (u,e):=(I.hok D o z).get;rw [j] at e;cases e
 refine {k,?_};let B:∀b o,s.heap.get? b=some o->b≠D:=λb o e z=>by
  rw [z,j] at e;cases e
 let d:∀b o,H b=some o->b≠D:=λb o e z=>by
  rw [z,k] at e;cases e
 refine I.step (g':=s.gens) (d':=s.drawn) (ch:=[]) (λ_ z=>nomatch z) (λb o f _ _ e _=>a b o f e) (λb o f _ _ e _=>{o.slots,a b o f e}) (λb o _ e n=>by rw [aC (B b o e)];exact n) (λb o _ e=>?_) (λb v e=>by rw [aC (d b _ e)];exact e) (λb o u e=>by rw [aC (d b _ e)];exact e) (λb E e=>{#[],by rw [aC (d b _ e)];simpa using e}) (λt l=>?_) (λb o q=>?_) I.bare
 ·by_cases f:b=X.env.locals
  ·subst f;let (y,_,_,z,_):=h;exact {(y),z}
  ·exact {o,a b o f e}
 ·have:t=m:=funext λx=>l.agree A x;subst this;exact h
 ·by_cases f:b=D
  ·subst f;rw [aB] at q;cases q;exact {(C),g,n,p,i}
  ·rw [aC f] at q;refine(I.hok b o q).stay (λc w hc r=>a c w ?_ r) (λc e=>by rw [aC (d c _ e)];exact e) λc v e=>by rw [aC (d c _ e)];exact e
   rintro rfl;rcases hc with hc|hc
   ·rw [<- hc,I.free] at q;cases q
   ·rw [I.free] at hc;cases hc
theorem xF:∀{ns:List Int} {us:List Value},bG (ns.map V.int) us->IntsAre us ns
 | [],_,.nil=>.nil
 | n::ns,_,.cons {(t),e} r=>by
  subst e
  exact .cons n t (xF r)
def sD:kM X (compareOp .LtE) (λx y H Q=>∃i j,x=.str i/\y=.str j/\Q (.bl (!decide (j.cps.toList<i.cps.toList))) H):=by
 intro a s σ H x y v u Q I c b h;let (i,j,rfl,rfl,q):=h;let (t,rfl):=c;let (d,rfl):=b;exact PySem.P.le_str {.bl _,H,I,rfl,q}
section
variable {prog:Program} {w:World} {A:Around} {E:Value->Shared->Prop} {s:Shared}
def yL {α:Type} {M:Model} {c:Prop} [Decidable c] {a b:Sem α} {Q:α->Shared->Prop} (d:c->wpAny M A a Q E s) (h2:¬ c->wpAny M A b Q E s):wpAny M A (if c then a else b) Q E s:=by
 split
 ·exact d ‹_›
 ·exact h2 ‹_›
def Ai {t:Addr} {items:Array Value} {i:Int} {u:Tok} {Q:Value->Shared->Prop} (ht:IsTup s.heap t items) (hi:Builtin.SmallTypes.fitsIndex i=true)
  (hQ:∀h':Heap,IsEnum h' (s.heap.objs.size+1) s.heap.objs.size i .none->h'.IsTupleIter s.heap.objs.size t 0->h'.objs.size=s.heap.objs.size+2->(∀b o,s.heap.get? b=some o->h'.get? b=some o)->Q (.ref (s.heap.objs.size+1)) { s with heap:=h' }):
  wpAny (model prog w) A (call (.type "enumerate") [.ref t] [("start",.int i u)]) Q E s:=by
 refine K6 (codeAny_of_tree ?_);refine g9 {Q4 _ callType_meets._proof_1_1,D6 F.entry_type_call ?_};rw [Around.under_plain (weight_type_call_type "enumerate" [.ref t] [("start",.int i u)]) (units_type_call_type "enumerate" [.ref t] [("start",.int i u)])];let ft:=F.called_enumerate;unfold Builtin.«type.__call__»;refine C1 (by decide) ?_;refine C1 (by rw [ft.canCreate];decide) ?_;let hct:checkTypeCall "enumerate" { pos:=[.ref t],kw:=[("start",.int i u)] }=pure ():=by rfl
 let (c,tl,hmro):=ft.mro;let hmade:=ft.made;refine c6 (B7 hct ?_);refine c6 (B7 hmro ?_);refine C1 (by simp) ?_;refine c6 (B7 hmade ?_);refine c6 (g9 ?_);refine c6 (w9 ?_);let hcn:checkBuiltinCall "enumerate.__new__" { pos:=[Value.type "enumerate",.ref t],kw:=[("start",.int i u)] }=pure ():=by kernel_rfl
 refine K6 (K7 ft.plain F.entry_enumerate_new (B7 hcn ?_));unfold Builtin.«enumerate.__new__»;let hnc:Builtin.SmallTypes.newClass "enumerate" { pos:=[Value.type "enumerate",.ref t],kw:=[("start",.int i u)] }=pure (Value.type "enumerate",[.ref t]):=by rfl
 refine c6 (B7 hnc ?_);refine P9 (by decide) ?_;refine c6 ?_;unfold Builtin.SmallTypes.calledThroughType;refine c6 (wpAny_stack_any λst=>g9 ?_);let rest:∀(R:PySem.Fin->Shared->Prop) (E':Value->Shared->Prop),(∀h':Heap,IsEnum h' (s.heap.objs.size+1) s.heap.objs.size i .none->h'.IsTupleIter s.heap.objs.size t 0->h'.objs.size=s.heap.objs.size+2->(∀b o,s.heap.get? b=some o->h'.get? b=some o)->R (PySem.Fin.done (Flow.ret (.ref (s.heap.objs.size+1)))) { s with heap:=h' }) ->
   wpAny (model prog w) A.in1.in1 (do
    let obj <- Builtin.SmallTypes.indexObject "enumerate.__new__" (Value.int i u)
    let x <- asInt? obj
    match x with
    | some i=>
     if (!Builtin.SmallTypes.fitsIndex i)=true then do
      rule "enumerate.__new__.huge-start"
      match obj with
      | Value.int _ _=>do
       let given <- pure obj
       let it <- pyIter (.ref t)
       let r <- Builtin.SmallTypes.newRecord (Value.type "enumerate") (Builtin.SmallTypes.ownedTupleFields++[it,rawInt i,given,Value.none])
       ret r
      | _=>do
       let given <- mkInt i
       let it <- pyIter (.ref t)
       let r <- Builtin.SmallTypes.newRecord (Value.type "enumerate") (Builtin.SmallTypes.ownedTupleFields++[it,rawInt i,given,Value.none])
       ret r
     else do
      let it <- pyIter (.ref t)
      let r <- Builtin.SmallTypes.newRecord (Value.type "enumerate") (Builtin.SmallTypes.ownedTupleFields++[it,rawInt i,Value.none,Value.none])
      ret r
    | none=>do
     let _ <- (unsupported "internal:enumerate.__new__":Sem Unit)
     let it <- pyIter (.ref t)
     let r <- Builtin.SmallTypes.newRecord (Value.type "enumerate") (Builtin.SmallTypes.ownedTupleFields++[it,rawInt 0,Value.none,Value.none])
     ret r) R E' s:=λR E' hR=>by
  refine c6 (B7 (a:=Value.int i u) (by rfl) ?_);refine c6 (B7 (a:=some i) (by rfl) ?_);refine C1 (by rw [hi];decide) ?_;refine c6 (Q2 (show s.heap.IsTuple t items from ht) ?_);refine c6 ?_;show wpAny _ _ (newObj (Value.type "enumerate") (Data.fields #[Value.none,Value.bool false,.ref s.heap.objs.size,rawInt i,Value.none,Value.none])) _ _ _;refine B8 ?_;refine g9 ?_;let sz:(s.heap.push { cls:=Value.type "tuple_iterator",data:=Data.fields #[Value.ref t,Value.int 0 0] }).objs.size=s.heap.objs.size+1:=by rw [E3]
  rw [sz];refine hR _ ?_ ?_ ?_ ?_
  ·rw [<- sz];exact i9 _ rfl
  ·exact {_,f6 _ (i9 _ rfl),rfl,rfl}
  ·rw [E3,sz]
  ·exact λb o e=>f6 _ (f6 _ e)
 refine yL (λ_=>?_) (λ_=>?_)
 all_goals
  refine c6 (B7 (a:=(Value.ref t,some (Value.int i u))) (by kernel_rfl) ?_);refine rest _ _ λh' e1 e2 e3 e4=>?_;show wpAny _ _ (isInstance (Value.ref (s.heap.objs.size+1)) (Value.type "enumerate") >>= _) _ _ _;refine c6 (wpAny_isInstance {_,e1,rfl} ft.sub ?_);refine C1 (by decide) ?_;refine c6 (w9 (B1 {_,e1,rfl} ft.init ?_));refine wpAny_call_entry_kw ft.init {_,e1,rfl} F.entry_object_init ?_ (by kernel_rfl);unfold Builtin.«object.__init__»;refine P9 (by rfl) ?_;refine c6 (wpAny_typeOf {_,e1,rfl} ?_);refine c6 (B7 ft.init.lookup ?_);refine c6 (B7 hmade ?_);refine C1 (by decide) ?_;refine C1 (by kernel_rfl) ?_;refine g9 {_,rfl,?_};refine C1 (by decide) ?_;refine g9 ?_;exact hQ h' e1 e2 e3 e4
def zU {it t:Addr} {i:Nat} {items:Array Value} {x:Value} {Q:Value->Shared->Prop} (a:IsTupIter s.heap it t i) (l:IsTup s.heap t items) (g:items[i]?=some x)
  (h:∀e,IsTupIter e it t (i+1)->Heap.SameBut it s.heap e->Q x { s with heap:=e }):wpAny (model prog w) A (Builtin.SmallTypes.nextOf (.ref it)) Q E s:=by
 let (o,c,j,b):=id a;let (n,f,k,m,d):=id l;unfold Builtin.SmallTypes.nextOf;refine c6 (B1 a.typeIs slot_tupleiter_next (E4 slot_tupleiter_next a.typeIs entry_tupleiter_next ?_ (args_tupleiter_next _)));show wpAny _ _ (field (Value.ref it) 0 >>= _) _ _ _;refine c6 (A2 c b (x:=.ref t) rfl ?_);refine C1 (by rfl) ?_;refine c6 (A2 c b (x:=.int i 0) rfl ?_);refine c6 (M8 f d ?_);show wpAny _ _ (match items[((i:Int)).toNat]? with|some x=>_|none=>_) _ _ _;rw [N6,g];refine c6 (M7 c b (by simp) ?_);refine g9 {x,rfl,g9 (h _ {_,J7 _ c (P0 (M5 b _)),(Obj.cls_mapFields o _).trans j,?_} (B9 s.heap it _))};rw [M5 b];simp [rawInt]
def iZ {it t:Addr} {i:Nat} {items:Array Value} {Q:Value->Shared->Prop} (m:A.handled=none) (a:IsTupIter s.heap it t i) (p:IsTup s.heap t items) (l:items[i]?=none)
  (j:∀g e,Heap.ExtBut it s.heap g->(∃o,g.get? e=some o/\o.cls=Value.type "StopIteration")->E (.ref e) { s with heap:=g }):wpAny (model prog w) A (Builtin.SmallTypes.nextOf (.ref it)) Q E s:=by
 let (o,c,u,d):=id a;let (v,h,n,q,f):=id p;unfold Builtin.SmallTypes.nextOf;refine c6 (B1 a.typeIs slot_tupleiter_next (E4 slot_tupleiter_next a.typeIs entry_tupleiter_next ?_ (args_tupleiter_next _)));show wpAny _ _ (field (Value.ref it) 0 >>= _) _ _ _;refine c6 (A2 c d (x:=.ref t) rfl ?_);refine C1 (by rfl) ?_;refine c6 (A2 c d (x:=.int i 0) rfl ?_);refine c6 (M8 h f ?_);show wpAny _ _ (match items[((i:Int)).toNat]? with|some x=>_|none=>_) _ _ _;rw [N6,l];refine c6 (F1 ?_);refine c6 (M7 c d (by simp) ?_);unfold Builtin.SmallTypes.stopIteration;refine c6 ?_;unfold newExc;refine c6 (Q0 ?_ (i5 _));refine c6 (B7 rfl ?_);refine B8 ?_ (sizeOk_excFields _ _ _ _ _ _ _ _);unfold raiseNew;refine c6 (wpAny_handled ?_);rw [show A.in1.handled=none from m];refine wpAny_throw ?_;refine j _ _ (λb r k e=>?_) {_,i9 _ rfl,rfl};refine f6 _ (f6 _ ?_);rw [Heap.get?_update_ne _ _ _ _ k];exact e
def Gk {it t:Addr} {items:Array Value} (l:A.handled=none) (m:t≠it):Draws prog w A it [it,t] items.size (λi v=>items[i]?=some v) (λi h=>IsTupIter h it t i/\IsTup h t items) where
 live:=λi h ⟨⟨o,ho,_⟩,_⟩=>{(o),ho}
 frame:=λi h g ⟨⟨o,ho,r⟩,⟨d,a,e⟩⟩ k=>{{o,k it (by simp) o ho,r},{d,k t (by simp) d a,e}}
 item:=λi s Q E j b h=>zU b.1 b.2 (r9 j) λg c f=>h _ g s.toks (r9 j) ⟨c,by
  let (d,a,e):=b.2
  exact {d,(f.2 t m).trans a,e}⟩ f
 done:=λs Q E b h=>iZ l b.1 b.2 (by simp) h
def Fl {e it:Addr} {fp:List Addr} {n j:Nat} {i:Int} {P:Nat->Value->Prop} {St:Nat->Heap->Prop} {y:Value} {Q:Option Value->Shared->Prop} (D:Draws prog w A.in1 it fp n P St) (H:IsEnum s.heap e it i y) (K:St j s.heap) (Y:j<n) (J:e≠it) (X:e ∉ fp)
  (hQ:∀x t k,P j x->IsEnumOut t e it (i+1) x s.heap.objs.size->St (j+1) t->t.get? s.heap.objs.size=some { cls:=Value.type "tuple",data:=Data.seq #[Value.int i k,x] }->t.objs.size=s.heap.objs.size+1 ->
   (∀b o,b≠e->b≠it->s.heap.get? b=some o->t.get? b=some o)->Q (some (.ref s.heap.objs.size)) { s with heap:=t,toks:=k+1 }):wpAny (model prog w) A (pyNext (.ref e)) Q E s:=by
 let hT:s.TypeIs (.ref e) "enumerate":={_,H,rfl};show wpAny _ _ (_ >>= _) _ _ _;refine c6 (L3 (B1 hT J8 (E4 J8 hT F.entry_enumerate_next ?_ (F.args_enumerate_next_1 _))));unfold Builtin.«enumerate.__next__»;refine c6 (B7 (a:=(Value.ref e,[])) (by rfl) ?_);refine c6 (A2 H rfl rfl ?_);refine c6 (D.item j s _ _ Y K λx Z k hx M l=>?_);let m:=(l.2 e J).trans H;refine c6 (A2 m rfl rfl ?_);refine c6 (A2 m rfl rfl ?_);refine P9 (by rfl) ?_;refine c6 (wpAny_mkInt ?_);refine c6 (G7 m (by simp) λh2 O v=>?_);refine c6 (G7 O (by simp) λp I u=>?_);refine c6 (Q0 ?_ (by show 2<=sizeLine;decide));let h:(p.push { cls:=Value.type "tuple",data:=Data.seq #[Value.int i k,x] }).get? e=some { cls:=Value.type "enumerate",data:=Data.fields #[Value.none,Value.bool false,Value.ref it,rawInt (i+1),Value.none,y] }:=f6 _ I;unfold Builtin.SmallTypes.ownedTupleIsFree;refine c6 (c6 (A2 h rfl rfl (g9 ?_)));refine P9 (by rfl) ?_;refine c6 (F1 ?_);refine c6 (A2 h rfl rfl ?_);refine c6 (G7 h (by simp) λh5 N C=>?_);unfold Builtin.SmallTypes.ownedTupleHandOut;refine c6 (c6 (G7 N (by simp) λh6 S G=>?_));refine G7 S (by simp) λr L B=>?_;refine c6 (O2 ?_);let d:p.objs.size=s.heap.objs.size:=u.1.trans (v.1.trans l.1);let T:(p.push { cls:=Value.type "tuple",data:=Data.seq #[Value.int i k,x] }).objs.size=s.heap.objs.size+1:=by rw [E3,d]
 let U:r.objs.size=s.heap.objs.size+1:=B.1.trans (G.1.trans (C.1.trans T));let el:e<s.heap.objs.size:=i4 H;let g:∀b o,b≠e->(p.push { cls:=Value.type "tuple",data:=Data.seq #[Value.int i k,x] }).get? b=some o->r.get? b=some o:=λb o c z=>(B.2 b c).trans ((G.2 b c).trans ((C.2 b c).trans z));let k1:∀b o,b≠e->Z.get? b=some o->r.get? b=some o:=λb o c z=>g b o c (f6 _ ((u.2 b c).trans ((v.2 b c).trans z)));refine g9 {_,rfl,?_};show wpAny _ _ (pure (some (Value.ref p.objs.size))) _ _ _;refine g9 ?_;rw [d];let f:r.get? e=some { cls:=Value.type "enumerate",data:=Data.fields #[rawInt (p.objs.size:Nat),Value.bool false,Value.ref it,rawInt (i+1),Value.none,x] }:=L;rw [d] at f;refine hQ x r k hx f (D.frame (j+1) Z r M λb c o z=>k1 b o (λq=>X (q ▸ c)) z) ?_ U λb o c W z=>k1 b o c ((l.2 b W).trans z);refine g _ _ (J6 el) ?_;rw [<- d];exact i9 _ rfl
def rA {e it t:Addr} {j:Nat} {i:Int} {items:Array Value} {c:Value} {Q:Option Value->Shared->Prop} (m:A.handled=none) (g:IsEnum s.heap e it i c) (f:IsTupIter s.heap it t j) (n:IsTup s.heap t items) (k:items[j]?=none)
  (l:∀b,Heap.ExtBut it s.heap b->Q none { s with heap:=b }):wpAny (model prog w) A (pyNext (.ref e)) Q E s:=by
 let h:s.TypeIs (.ref e) "enumerate":={_,g,rfl};show wpAny _ _ (_ >>= _) _ _ _;refine c6 (L3 (B1 h J8 (E4 J8 h F.entry_enumerate_next ?_ (F.args_enumerate_next_1 _))));unfold Builtin.«enumerate.__next__»;refine c6 (B7 (a:=(Value.ref e,[])) (by rfl) ?_);refine c6 (A2 g rfl rfl ?_);exact c6 (iZ m f n k λb x d ⟨o,ho,hc⟩=>c6 (wpAny_isInstance {(o),ho,hc} isSubtype_stop (g9 (l b d))))
end
def aO.turnedL {pins:List (Addr × Obj)} {σ:St} {H:Hp} {s:Shared} {h':Heap} {tk:Nat} {ch:List Addr} {T:Addr} {zs:List V} (I:aO X pins σ H s) (d:∀b ∈ ch,lP X pins H b) (k:∀b o,b ∉ ch->s.heap.get? b=some o->h'.get? b=some o)
  (i:s.heap.objs.size<=T) (h:bL X.prog X.w (aR H T (.tup zs)) h' T (.tup zs)):aO X pins σ (aR H T (.tup zs)) { s with heap:=h',toks:=tk }:=by
 let m:H T=none:=I.hok.fresh i;let x:∀b o,s.heap.get? b=some o->b≠T:=λb o e z=>by
  have:=i4 e;rw [z] at this;exact absurd (k7 this i) (x6 _)
 let a:∀b o,H b=some o->b≠T:=λb o e z=>by
  rw [z,m] at e;cases e
 let g:X.env.locals ∉ ch:=λz=>(d _ z).2.1 rfl;refine I.step (g':=s.gens) (d':=s.drawn) (ch:=ch) (λb f=>{(d b f).2.2.2.1,(d b f).2.1,(d b f).2.2.2.2.1,(d b f).2.2.2.2.2}) (λb o _ _ hc e _=>k b o hc e) (λb o _ _ hc e _=>{o.slots,k b o hc e}) (λb o _ e n=>by rw [aC (x b o e)];exact n) (λb o hc e=>{o,k b o hc e}) (λb p e=>by rw [aC (a b _ e)];exact e) (λb o u e=>by rw [aC (a b _ e)];exact e) (λb y e=>{#[],by rw [aC (a b _ e)];simpa using e}) (λB j=>?_) (λb o q=>?_) I.bare
 ·let (o,l,v,z,r):=j;exact {o,l,v,k _ _ g z,r}
 ·by_cases f:b=T
  ·subst f;rw [aB] at q;cases q;exact h
  ·rw [aC f] at q;refine(I.hok b o q).stay (λc t hc r=>k c t ?_ r) (λc e=>by rw [aC (a c _ e)];exact e) λc p e=>by rw [aC (a c _ e)];exact e
   intro z;rcases hc with hc|hc
   ·rw [<- hc,(d c z).1] at q;cases q
   ·rw [(d c z).1] at hc;cases hc
def aO.turnedN {pins:List (Addr × Obj)} {σ:St} {H:Hp} {s:Shared} {h':Heap} {tk:Nat} {ch:List Addr} (I:aO X pins σ H s) (a:∀b ∈ ch,lP X pins H b) (k:∀b o,b ∉ ch->s.heap.get? b=some o->h'.get? b=some o):aO X pins σ H { s with heap:=h',toks:=tk }:=by
 let f:X.env.locals ∉ ch:=λz=>(a _ z).2.1 rfl;refine I.step (g':=s.gens) (d':=s.drawn) (ch:=ch) (λb d=>{(a b d).2.2.2.1,(a b d).2.1,(a b d).2.2.2.2.1,(a b d).2.2.2.2.2}) (λb o _ _ hc e _=>k b o hc e) (λb o _ _ hc e _=>{o.slots,k b o hc e}) (λb o _ e n=>n) (λb o hc e=>{o,k b o hc e}) (λb i e=>e) (λb o u e=>e) (λb m e=>{#[],by simpa using e}) (λp g=>?_) (λb o q=>?_) I.bare
 ·let (o,h,l,z,r):=g;exact {o,h,l,k _ _ f z,r}
 ·refine(I.hok b o q).stay (λc j hc r=>k c j ?_ r) (λc e=>e) λc i e=>e;intro z;rcases hc with hc|hc
  ·rw [<- hc,(a c z).1] at q;cases q
  ·rw [(a c z).1] at hc;cases hc
def GY (K:Frag) (t:Addr) (dJ:Int):It:=
 ⟨λi H=>∃xs x,cA K H t xs/\xs[i]?=some x,λi H x H'=>∃T v,H T=none/\x=.ref T/\H'=aR H T (.tup [.int (dJ+i),v])/\∀xs,cA K H t xs->xs[i]?=some v,λi H=>∃xs,cA K H t xs/\xs.length<=i⟩
def El {P:Program} {m:Option Value} {w:World} {K:Frag} {B:List Expr} {k1:Nat} {pos:Pos} {t e it:Addr} {dJ:Int} (l:e≠it) (e0:m=none):Am P w K m (.Tuple B k1 pos) (GY K t dJ) [e,it] e (λi h=>(∃a,IsEnum h e it (dJ+i) a)/\IsTupIter h it t i) where
 mem:=by simp
 obj:=λi h ⟨⟨a,d⟩,⟨o,G,_,hd⟩⟩ b hb=>by
  rcases g8.mp hb with rfl|hb
  ·exact {_,d,λv z=>by cases z}
  ·let e1:b=it:=by simpa using hb
   subst e1
   exact {o,G,λv z=>by rw [hd] at z;cases z}
 keep:=λi h h' ⟨⟨a,d⟩,⟨o,G,r⟩⟩ k=>{{a,k e (by simp) _ d},{o,k it (by simp) o G,r}}
 item:=by
  intro X T Z S Q i n s σ H E I J Y O;subst T Z S;let (xs,x,L,hx):=O;let (c,rv,p,hz):=I.tuple L;let (u,hu,ru):=rv.get hx;let ((a,d),f):=Y;let N:t≠it:=λz=>by
   let (o1,z1,z2,_):=f;let (o2,C,g,_):=p;rw [z,z1] at C;cases C;rw [z2] at g;injection g with g;exact absurd g (by decide)
  let a4:t≠e:=λz=>by
   let (o2,C,g,_):=p;rw [z,d] at C;cases C;injection g with g;exact absurd g (by decide)
  let D:Draws X.prog X.w X.A.in1 it [it,t] c.toArray.size (λi v=>c.toArray[i]?=some v) (λi h=>IsTupIter h it t i/\IsTup h t c.toArray):=Gk (Q.trans e0) N;let a3:i<c.toArray.size:=by
   have:=(c8.mp hu).1;simpa using this
  refine Fl D d {(f),p} a3 l (by simp [l,a4.symm]) λy h1 tk hy G a2 hT a5 kp=>{_,rfl,?_};let ey:y=u:=by
   have:c.toArray[i]?=some u:=by simpa using hu
   exact Option.some.inj (hy.symm.trans this)
  subst ey;refine wpAny_letOwnedTupleGo_enum G λh2 U j=>?_;let M:s.heap.objs.size≠e:=J6 (i4 d);let T2:h2.get? s.heap.objs.size=some { cls:=Value.type "tuple",data:=Data.seq #[Value.int (dJ+i) tk,y] }:=(j.2 _ M).trans hT;let k2:∀b o,b ∉ [e,it]->s.heap.get? b=some o->h2.get? b=some o:=λb o hb z=>by
   let F:b≠e:=λq=>hb (by simp [q]);let a0:b≠it:=λq=>hb (by simp [q]);exact(j.2 b F).trans (kp b o F a0 z)
  refine {.ref s.heap.objs.size,aR H s.heap.objs.size (.tup [.int (dJ+i),x]),I.turnedL J k2 (c9 _) {by show 2<=sizeLine;decide,[Value.int (dJ+i) tk,y],.cons {_,rfl} (.cons ru .nil),{_,T2,rfl,_,rfl}},rfl,{_,x,I.hok.fresh (c9 _),rfl,rfl,λys a1=>by rw [I.tuple_inj a1 L];exact hx},{{y,?_},?_},λb hb=>?_}
  ·rw [show dJ+((i+1:Nat):Int)=dJ+i+1 by omega];exact U
  ·let (o,z,r):=a2.1;exact {o,(j.2 it l.symm).trans z,r}
  ·let lb:b<s.heap.objs.size:=by
    rcases g8.mp hb with rfl|hb
    ·exact i4 d
    ·let e1:b=it:=by simpa using hb
     subst e1;let (o,z,_):=f;exact i4 z
   rw [aC (j8 lb)];exact(J b hb).1
 done:=by
  intro X T Z S Q i n s σ H E I J Y O;subst T Z S;let (xs,L,hx):=O;let (c,rv,p,hz):=I.tuple L;let ((a,d),f):=Y;let hl:=rv.length;exact rA (Q.trans e0) d f p (by simp;omega) λh' eb=>{rfl,I.turnedN (tk:=s.toks) J λb o hb z=>eb b o (λq=>hb (by simp [q])) z}
 self:=λ_ _ _ _ _ ⟨⟨a,d⟩,_⟩ h=>wpAny_pyIter_enum d h
def FU (K:Frag) (ta td:TA):TI:=λσ H R=>ta σ H λxs H1=>td σ H1 λds H2=>∃(t:Addr) (d:Int),xs=[.ref t]/\ds=[.int d]/\Builtin.SmallTypes.fitsIndex d=true/\(∃ys,cA K H2 t ys)/\R (GY K t d) H2
def Cr {x:Str} {p pos c m:Pos} {a b:Expr} {l:List Expr} {k1:Nat} {C B:TA} (N:Gl X x) (J:X.mg x=none) (S:bootBuiltins x=some (.type "enumerate")) (ha:PA X [a] C) (Q:PK X [{some "start",b,c}] B) (U:x≠"__name__":=by decide) (o:(x == ("__debug__":Str))=false:=by decide)
  (k:(backToKw pos (keywordEach [{some "start",b,c}] X.env)).all (·.1.isSome)=true:=by rfl) (n:(backToKw pos (keywordEach [{some "start",b,c}] X.env)).filterMap (·.1)=[("start":Str)]:=by rfl)
  (T:starEach [a] X.env=(false,eval a X.env)::starEach [] X.env:=by rfl) (v:((backTo pos (starEach [a] X.env)).any (·.1) || (backToKw pos (keywordEach [{some "start",b,c}] X.env)).any (·.1.isNone))=false:=by rfl) (y:X.calm=true:=by rfl):
  PI X (.Tuple l k1 m) (.Call (.Name x p) [a] [{some "start",b,c}] pos) (FU X.K C B):=by
 intro f s σ H R I h;refine C2 (jC I N J S ?_ U o);refine PySem.W.callWith_of (P:=λg=>X.K.In g) v (λ_ _=>{.machine,.inr (.inl rfl),.now}) (L9 k (uZ (ha f s σ H _ I h) λus O vs H1 Y r q=>?_) T);refine uZ (Q pos f O σ H1 _ Y q) λws j zs F i Z z=>{i.kIn,?_};rw [n];let (t,d,rfl,rfl,hf,(ys,hq),z):=z;let (u,rfl,L):=r.one;cases L;let (u',rfl,tk,rfl):=Z.one;let (G,rv,pt,hz):=i.tuple hq;refine Ai pt hf λh' D M e3 e4=>?_;refine wpAny_pyIter_enum D ?_;let I3:aO X f σ F { j with heap:=h' }:=i.kept (t':=j.toks) e4;refine {j.heap.objs.size+1,[j.heap.objs.size+1,j.heap.objs.size],_,_,F,rfl,I3,El (t:=t) (dJ:=d) (Nat.succ_ne_self _) (I.ok.hd y),{{.none,by rw [show d+((0:Nat):Int)=d by omega];exact D},M},λb hb=>?_,z};rcases g8.mp hb with rfl|hb
 ·exact i.fpOk (F6 _) (i.hok.fresh (F6 _))
 ·let e:b=j.heap.objs.size:=by simpa using hb
  subst e;exact i.fpOk (c9 _) (i.hok.fresh (c9 _))
end
end L2
namespace L2
open PySem PySem.Spec PyProof.Rows
section
variable {X:Cx}
end
section
variable {X:Cx} {NB:List Str} {n:Nat} {js:List Nat} {scope:Scope} {cl:List (Str × Addr)}
def nJ {M tg E:Expr} {L:List Expr} {pos a5 py:Pos} {y:Str} {ix:Nat} {wi:TI} {g:TG} {tc:TT} {te:TE} (hN:X.N.Nodup) (aq:X.N[ix]?=some y) (b7:Ay X.env.scope y) (hk:scope.kind=.function) (ae:∀x ∈ scope.names,x.2≠.cell)
  (a0:∀x ∈ scope.names,x.2=.local->scope.names.lookup x.1=some .local) (_:(0:Nat)=0) (T:gL X NB n js scope cl) (hi:PI X tg E wi)
  (hg:∀C s H G pn,PG (X.blkF NB scope cl C s H G pn) tg g) (ht:∀C s H G pn,HK (X.blkF NB scope cl C s H G pn) L tc) (he:∀C s H G pn,PE (X.blkF NB scope cl C s H G pn) M te)
  (as:swapsWith (.ListComp M [{tg,E,L,0}] scope pos) (some (.Name y py)) a5.line X.env=pure true:=by rfl)
  (hf:X.fn y=true\/X.env.scope.names.lookup y=some .local:=by first|exact .inl rfl|exact .inr rfl|assumption)
  (hs:∀x,foldedSetIterable E X.env x=pure x:=by intro _;rfl):PS X (.Assign [.Name y py] (.ListComp M [{tg,E,L,0}] scope pos) a5) (Ii (tJ n js wi g tc te) (cS ix)):=by
 intro f s σ H D I h;rw [exec_Assign_Name_used _ _ _ _ as];refine c6 (O4 (c6 ?_));show wpAny _ X.A (do let _ <- comprehension (.ListComp M [{tg,E,L,0}] scope pos) scope X.env _ (newList []) false (eval E X.env) (some (assign (.Name y py) X.env))) _ _ s;refine c6 (v6 (wpAny_comprehension_free (use:=some (assign (.Name y py) X.env)) (Q:=λ_ s'=>SP X f D .next s') rfl hs T.clo hk a0 (gM (hi s σ H _ I h) λv s1 h1=>gM h1 λbd B h2=>?_)) (λ_ s' hq=>g9 (g9 hq)) λ_ _ e=>e);let (it,G,tn,J,P,rfl,I2,U,ac,f2,h2):=h2;let b5:∀b ∈ G,b<B.heap.objs.size:=λb F=>by
  let (o,q,_):=U.obj 0 _ ac b F;exact i4 q
 refine B8 ?_;let hz:P B.heap.objs.size=none:=I2.hok.fresh (c9 _);let (W,(m0,w0),ao):=h2 B.heap.objs.size hz;let I3:aO X f σ (aR P B.heap.objs.size (.lst [])) { B with heap:=B.heap.push { cls:=.type "list",dict:=none,data:=.seq ([]:List Value).toArray } }:=
  I2.laid (t':=B.toks) (λb o q=>f6 _ q) (c9 _) {i5 _,[],0,.nil,i9 _ rfl}
 generalize hs3:({ B with heap:=B.heap.push { cls:=.type "list",dict:=none,data:=.seq ([]:List Value).toArray } }:Shared)=t at I3 ⊢
 let a3:∀b o,B.heap.get? b=some o->t.heap.get? b=some o:=λb o q=>by rw [<- hs3];exact f6 _ q
 let f3:∀b ∈ G,lP X f (aR P B.heap.objs.size (.lst [])) b:=λb F=>{by rw [aC (j8 (b5 b F))];exact(f2 b F).1,(f2 b F).2};let af:∀b ∈ G,b<t.heap.objs.size:=λb F=>by
  let (o,q,_):=U.obj 0 _ ac b F;exact i4 (a3 b o q)
 refine wpAny_newFunctionEnv ae (by intro y hy;simp at hy) (λh4 b8 ar=>?_) hk;let O:∀b o,t.heap.get? b=some o->h4.get? b=some o:=λb o q=>(ar.2 b (j8 (i4 q))).trans (f6 _ q);let I4:=xX (tk:=t.toks+([]:List (Str × Value)).length) I3 hk T f3 af b8 O;let ah:tn 0 h4:=U.keep _ _ _ ac λb F o q=>O b o (a3 b o q);let aa:∀{H':Hp},(∀b ∈ G,H' b=none)->∀b ∈ G,lP (X.blkF NB scope cl t.heap.objs.size t (aR P B.heap.objs.size (.lst [])) G (X.pn++f)) [] H' b:=λhn b F=>by
  let (g0,g1,g2,g3,g4,g5):=f3 b F;exact {hn b F,j8 (af b F),λz=>(g8.mp (I3.stkSub b z)).elim g1 g2,.inl F,λx c q=>g4 x c (T.sub x c q),λp hp=>g5 p (by simpa using hp)}
 let a4:∀s5:Shared,s5={ t with heap:=h4,toks:=t.toks+([]:List (Str × Value)).length }->codeAny (model X.prog X.w) X.A (.compLoop (.ListComp M [{tg,E,L,0}] scope pos) 0 (.ref it) (.ref B.heap.objs.size) (compEnvC scope cl t.heap.objs.size X.env))
   (compPost (model X.prog X.w) X.A X.xe (some (assign (.Name y py) X.env)) (λ_ s'=>SP X f D .next s') (.ref B.heap.objs.size) t.heap.objs.size) s5:=by
  rintro s5 rfl;refine codeAny_loop rfl (λk s'=>∃i ys H',aO (X.blkF NB scope cl t.heap.objs.size t (aR P B.heap.objs.size (.lst [])) G (X.pn++f)) [] (dY n js σ) H' s'/\tn i s'.heap/\(∀b ∈ G,H' b=none)/\W i k ys H')
   (λk s6 hI=>?_) m0 {0,[],_,I4,ah,λb F=>(f3 b F).1,w0}
  let (i,ys,H6,I6,am,ag,w6):=hI;show wpAny _ _ ((compTurn (.ListComp M [{tg,E,L,0}] scope pos) 0 (.ref it) (.ref B.heap.objs.size) (compEnvC scope cl t.heap.objs.size X.env)).onRaise (λx=>do noteFrame x (compEnvC scope cl t.heap.objs.size X.env);theTreesLotGoes x)) _ _ s6;refine wpAny_noted ?_;rw [compTurn_list];refine c6 (O4 (c6 ?_));let (bb,az):=ao i k ys H6 w6;rcases az with ⟨an,q⟩|⟨go,aj⟩
  ·refine gM (U.done (X.blkF NB scope cl t.heap.objs.size t (aR P B.heap.objs.size (.lst [])) G (X.pn++f)) rfl rfl rfl rfl i [] s6 _ H6 _ I6 (aa ag) am an) λr s7 S=>?_;let (hr,I7):=S;subst hr;let (m,hm,_):=I7.loc;let ba:aO X f σ H6 s7:=sS (h2:=s7.heap) I3 f3 af I7 {rfl,λ_ _=>rfl};let ad:H6 t.heap.objs.size=none:=I7.free;let K:=I3.fpOk (H':=H6) (c9 _) ad;refine g9 ?_;show wpAny _ _ (assign (.Name y py) X.env (.ref B.heap.objs.size)) _ _ _;refine wpAny_assign_Name (rQ ba hN aq b7 (v:=.ref B.heap.objs.size) rfl (λs8 I8 a9=>?_) hf);let (a,b4,ha):=a9;let b3:t.heap.objs.size≠a:=by
    rcases ha with rfl|ha
    ·exact K.2.1
    ·exact λz=>K.2.2.2.2.1 _ _ ha z.symm
   refine {m,hm.sameBut b4 b3,λh9 a1=>{_,H6,?_,q}};refine I8.call' (s':={ s8 with heap:=h9 }) (ch:=[t.heap.objs.size]) rfl {λb o q n F he=>(a1.2 b (λz=>he (by simp [z]))).trans q,λb o q n F he=>{o.slots,(a1.2 b (λz=>he (by simp [z]))).trans q},λ_ _ _ n _=>n,λb o q he=>{o,(a1.2 b (λz=>he (by simp [z]))).trans q},λ_ _ q=>q,λ_ _ _ q=>q,λ_ ps q=>{#[],by rw [q];simp}} (λb o q=>?_) I8.bare λb F=>?_
   ·refine(I8.hok b o q).stay (λc w' hc r=>(a1.2 c ?_).trans r) (λ_ r=>r) λ_ _ r=>r;rintro rfl;rcases hc with rfl|hc
    ·rw [ad] at q;cases q
    ·rw [ad] at hc;cases hc
   ·let e:b=t.heap.objs.size:=by simpa using F
    subst e;exact {(K.2.2.2.1),K.2.1,K.2.2.2.2.1,K.2.2.2.2.2}
  ·refine gM (U.item (X.blkF NB scope cl t.heap.objs.size t (aR P B.heap.objs.size (.lst [])) G (X.pn++f)) rfl rfl rfl rfl i [] s6 _ H6 _ I6 (aa ag) am go) λr s7 S=>?_;let (u,hr,h7):=S;subst hr;refine c6 (gM h7 λ_ s8 S=>?_);let (x,H8,I8,r8,y8,a6,ay):=S;let b2:=I8.pinned (aa ay) (U.obj _ _ a6);let gp:∀{Y:St} {H9:Hp} {s9:Shared},aO (X.blkF NB scope cl t.heap.objs.size t (aR P B.heap.objs.size (.lst [])) G (X.pn++f)) ([]++gN G s8.heap) Y H9 s9->tn (i+1) s9.heap/\∀b ∈ G,H9 b=none:=λI9=>
    ⟨U.keep _ _ _ a6 λb F o e=>(I9.pin (b,o) (j3 _ (j3 _ (fB F e)))).1,λb F=>by
     let (o,e,d):=U.obj _ _ a6 b F
     exact(I9.pin (b,o) (j3 _ (j3 _ (fB F e)))).2.1⟩
   let wk:∀{Y:St} {H9:Hp} {s9:Shared},Y.drop n=(dY n js σ).drop n->aO (X.blkF NB scope cl t.heap.objs.size t (aR P B.heap.objs.size (.lst [])) G (X.pn++f)) ([]++gN G s8.heap) Y H9 s9->aO (X.blkF NB scope cl t.heap.objs.size t (aR P B.heap.objs.size (.lst [])) G (X.pn++f)) [] (dY n js σ) H9 s9:=λ{Y H9 s9} hd I9=>
    I9.unpinned.weak (by rw [mJ T,I9.len]) λk v z=>by
     let (k',j,rfl,_,_):=qL z;let e:=congrArg (λl=>l[k']?) hd;simp only [p7] at e;rw [e];exact z
   refine c6 (v6 (hg _ _ _ _ _ s8 _ H8 x u _ b2 r8 (aj x H8 y8)) (λ_ s9 hq=>?_) λ_ _ z=>z.elim);let (Y,H9,I9,ak,q9):=hq;refine c6 (v6 (ht _ _ _ _ _ s9 Y H9 _ I9 q9) (λok au hq=>?_) λ_ _ z=>z.elim);let (al,Z,a2):=hq;cases ok with
   | false=>
    rw [if_neg (by simp)] at a2;let (m',a7,b9):=a2;exact g9 {rfl,m',a7,i+1,ys,al,wk ak Z,(gp Z).1,(gp Z).2,b9}
   | true=>
    rw [if_pos rfl] at a2;refine c6 (c6 (v6 (he _ _ _ _ _ au Y al _ Z a2) (λy aw hq=>?_) λ_ _ z=>z.elim));let (yv,ax,b1,ry,ai,ap,m',a7,av):=hq;let mt:=cV (X:=X.blkF NB scope cl t.heap.objs.size t (aR P B.heap.objs.size (.lst [])) G (X.pn++f)) ([]++gN G s8.heap) aw Y ax (.ref B.heap.objs.size) [yv] (.ref B.heap.objs.size) [y] (λ_ H'=>W (i+1) m' (ys++[yv]) H') b1 rfl (.cons ry .nil) {_,ys,yv,rfl,rfl,ai,ap,av};refine c6 (v6 mt (λ_ be hq=>?_) λ_ _ z=>z.elim);let (bc,b0,a8,_,b6):=hq;exact g9 (g9 {rfl,m',a7,i+1,_,b0,wk ak a8,(gp a8).1,(gp a8).2,b6})
 exact codeAny_compStart_list (a4 _ rfl) (U.self _ 0 _ _ _ ah (a4 _ rfl))
end
end L2
namespace L2
open PySem PySem.Spec PyProof.Rows PySem.W
theorem gO {α β:Type} {F:α->β->Prop}:∀{xs:List α} {ys:List β},xs.length=ys.length->(∀(j:Nat) x y,xs[j]?=some x->ys[j]?=some y->F x y)->Paired F xs ys
 | [],[],_,_=>.nil
 | [],_::_,h,_=>by simp at h
 | _::_,[],h,_=>by simp at h
 | a::xs,b::ys,h,f=>.cons (f 0 a b rfl rfl) (gO (by simpa using h) λj x y d c=>f (j+1) x y (by simpa using d) (by simpa using c))
section
variable {X:Cx}
def wA (lo:Int) (n:Nat):List V:=(List.range n).map λ(k:Nat)=>V.int (lo+(k:Int))
def vZ (lo:Int) (n:Nat):(wA lo n).length=n:=by
 unfold wA;rw [g7,z8]
theorem wC:∀{cs:List Addr} {us:List Value},bG (cs.map V.ref) us->us=cs.map Value.ref
 | [],_,.nil=>rfl
 | c::cs,_,.cons r t=>by
  cases r
  rw [wC t]
  rfl
end
end L2
namespace L2
open PySem PySem.Spec PyProof.Rows PySem.W Builtin
section
variable {K:Frag} {x C:Addr} {prog:Program} {w:World} {A:Around} {E:Value->Shared->Prop} {s:Shared}
end
section
variable {X:Cx}
end
end L2
namespace L2
open PySem PySem.Spec PyProof.Rows PySem.W
section
variable {X:Cx}
def aO.as_at {pins:List (Addr × Obj)} {σ:St} {H:Hp} {s:Shared} {a:Addr} {u u':HO} (I:aO X pins σ H s) (e:H a=some u) (i:∀d,u≠.tup d) (A:∀h,u≠.tbl h) (D:∀x,u≠.own x) (l:∀o v,X.H₀ a≠some (.frz o v)) (g:bL X.prog X.w (aR H a u') s.heap a u'):aO X pins σ (aR H a u') s:=by
 let f:∀b,H b=none->b≠a:=λb n z=>by
  rw [z,e] at n;cases n
 refine {I.ok,I.os,I.bare,{I.base.keep,I.base.slot,λb o q n B=>?_,I.base.there,λb d q=>?_,λb o v q=>?_,λb h q=>?_},I.loc,I.cell,?_,λx c q=>?_,λp E=>?_,λb o q=>?_,I.len}
 ·let z:=I.base.free b o q n B;rw [aC (f b z)];exact z
 ·let z:=I.base.tups b d q;rw [aC (λy=>by rw [y,e] at z;exact i d (Option.some.inj z))];exact z
 ·rw [aC (λy=>l o v (by rw [<- y];exact q))];exact I.base.frzs b o v q
 ·let (m,z):=I.base.tbls b h q;exact {m,by rw [aC (λy=>by rw [y,e] at z;exact A _ (Option.some.inj z))];exact z}
 ·rw [aC (f _ I.free)];exact I.free
 ·rw [aC (f _ (I.freeC x c q))];exact I.freeC x c q
 ·let (t,k,C):=I.pin p E;exact {t,by rw [aC (f _ k)];exact k,C}
 ·by_cases j:b=a
  ·subst j;rw [aB] at q;cases q;exact g
  ·rw [aC j] at q;refine(I.hok b o q).stay (λc F _ r=>r) (λc z=>?_) λc d z=>?_
   ·rw [aC (λy=>by rw [y,e] at z;exact D _ (Option.some.inj z))];exact z
   ·rw [aC (λy=>by rw [y,e] at z;exact i _ (Option.some.inj z))];exact z
def bL.dK_at {P:Program} {w:World} {H H':Hp} {h:Heap} {a:Addr} {kvs:List (bZ × V)} (q:bL P w H h a (.dK kvs)):bL P w H' h a (.dK kvs):=q
def aO.thaw {pins:List (Addr × Obj)} {σ:St} {H:Hp} {s:Shared} {a:Addr} {o:Obj} {kvs:List (bZ × V)} (I:aO X pins σ H s) (e:H a=some (.frz o (.dK kvs))) (b:∀o v,X.H₀ a≠some (.frz o v)):aO X pins σ (aR H a (.dK kvs)) s:=by
 let (_,q):=(show bL X.prog X.w H s.heap a (.frz o (.dK kvs)) from I.hok a _ e);exact I.as_at e (λ_ z=>nomatch z) (λ_ z=>nomatch z) (λ_ z=>nomatch z) b q.dK_at
def aO.freeze {pins:List (Addr × Obj)} {σ:St} {H:Hp} {s:Shared} {a:Addr} {kvs:List (bZ × V)} (I:aO X pins σ H s) (e:H a=some (.dK kvs)):∃o,s.heap.get? a=some o/\aO X pins σ (aR H a (.frz o (.dK kvs))) s:=by
 let q:=(show bL X.prog X.w H s.heap a (.dK kvs) from I.hok a _ e);let (o,b):=q.is;refine {o,b,I.as_at e (λ_ z=>nomatch z) (λ_ z=>nomatch z) (λ_ z=>nomatch z) (λc v z=>?_) {(b),q.dK_at}};have:=I.base.frzs a c v z;rw [e] at this;cases this
def Wo (H0:Hp) (t:TS):TS:=λD σ H=>t { D with nx:=λσ1 H1=>∃a o kvs,H1 a=some (.frz o (.dK kvs))/\(∀o v,H0 a≠some (.frz o v))/\D.nx σ1 (aR H1 a (.dK kvs)) } σ H
def Ck {st:Stmt} {t:TS} (h:PS X st t):PS X st (Wo X.H₀ t):=λb s σ H D I q=>gM (h s σ H _ I q) λf k z=>by
 cases f with
 | next=>
  let (i,l,j,a,o,d,c,g,e):=z
  exact {i,_,j.thaw c g,e}
 | _=>exact z
def Ds {X:Cx} {pins:List (Addr × Obj)} {σ:St} {H:Hp} {s:Shared} {a:Addr} {o:Obj} {kvs:List (bZ × V)} {f:Array DictEntry} {ep:Nat} (I:aO X pins σ H s) (e:H a=some (.frz o (.dK kvs))) (h:o.data=.dict f ep):
  ∃b,KV kvs b/\s.heap.DictAt (cK X.prog X.w) a b ep:=by
 let (g,_,_,b,r,n,j,m,q,c,d,i,k,l):=(show bL X.prog X.w H s.heap a (.frz o (.dK kvs)) from I.hok a _ e);rw [g] at q;cases q;rw [h] at d;cases d;exact {(b),r,o,f,g,c,h,i,k,l}
section
variable {tg:Expr}
end
section
variable {prog:Program} {w:World} {A:Around} {E:Value->Shared->Prop} {s:Shared}
end
section
variable {prog:Program} {w:World} {A:Around} {E:Value->Shared->Prop} {s:Shared}
end
section
variable {prog:Program} {w:World} {A:Around} {E:Value->Shared->Prop}
end
def KN (x:Str):It:=⟨λi _=>i<x.length,λi H v H'=>H'=H/\∃c,x.cps[i]?=some c/\v=.str ⟨#[c]⟩,λi _=>x.length<=i⟩
def Hz {P:Program} {j:Option Value} {w:World} {K:Frag} {N:Expr} (x:Str) (t:Tok) (it:Addr) (G:j=none):Am P w K j N (KN x) [it] it (λi h=>h.IsStrIter it "str_ascii_iterator" x t i) where
 mem:=by simp
 obj:=λi h a b g=>by
  let e:b=it:=by simpa using g
  subst e
  let (o,e,c,d):=a
  exact {o,e,λv z=>by rw [d] at z;cases z}
 keep:=λi h n a k=>by
  let (o,e,c,d):=a
  exact {o,k it (by simp) o e,c,d}
 item:=by
  intro X u B r F i f s σ H E I m a q;subst u B r;let p:i<x.cps.size:=q;let (A,C,S,D,f4,y):=m it (by simp);refine wpAny_pyNext_ascii_item a (r9 p) λn l O=>?_;let L:aO X f σ H { s with heap:=n,toks:=s.toks+1 }:=I.turned (λb o g e=>(O.2 b g).trans e) A C D f4 y;let (U,M,Q,J):=id l;exact {_,rfl,xI (s:={ s with heap:=n,toks:=s.toks+1 }) M Q J (by decide) {.str _,H,L,{_,rfl},{rfl,_,r9 p,rfl},l,λb g=>(m b g).1}}
 done:=by
  intro X u B r F i f s σ H E I m a q;subst u B r;let p:x.cps.size<=i:=q;let (A,C,S,D,f4,y):=m it (by simp);exact wpAny_pyNext_ascii_end (F.trans G) a (Array.getElem?_eq_none p) λn T=>{rfl,I.turned (t':=s.toks) (λb o g e=>T b o g e) A C D f4 y}
 self:=λ_ _ _ _ _ a h=>wpAny_pyIter_striter_ascii a h
def JC (tl:TE):TI:=λσ H R=>tl σ H λv H1=>∃x,v=.str x/\x.cps.all (·<128)=true/\R (KN x) H1
def Zs {i l:Expr} {g:TE} (r:PE X l g) (c:X.calm=true:=by rfl):PI X i l (JC g):=by
 intro f s σ H R I h;refine eY (r s σ H _ I h) λv a y p d k m=>?_;let (x,rfl,n,q):=m;let (t,rfl):=k;refine wpAny_pyIter_ascii n ?_;refine {a.heap.objs.size,[a.heap.objs.size],_,_,p,rfl,d.kept (t':=a.toks) λb o e=>f6 _ e,Hz x t _ (I.ok.hd c),{_,i9 _ rfl,rfl,rfl},λb j=>?_,q};let e:b=a.heap.objs.size:=by simpa using j
 subst e;exact d.fpOk (c9 _) (d.hok.fresh (c9 _))
section
variable {e:Expr} {apos cpos p:Pos} {ty:TE}
end
end
end L2
namespace Sr
open PySem PyProof.Rows
noncomputable def fC:Bool->Keyed->Array Keyed->Nat->Nat->Nat->StateT SortSt Sem (Option Nat):=sortPriv% PySem.Builtin.gallop
noncomputable def xZ (left:Bool) (key:Keyed) (arr:Array Keyed) (base:Nat) (i:Nat):StateT SortSt Sem (Option Bool):=do
 let x <- elem' arr (base+i)
 if left then lt' x key else return (<- lt' key x).map (!·)
abbrev GS:=Option (Option Nat) × Nat × Nat
noncomputable def BJ (ask:Nat->StateT SortSt Sem (Option Bool)) (n lo hi:Nat):StateT SortSt Sem (Option Nat):=do
 let c <- forIn [0:n] ((none,lo,hi):GS) λ_ c=>if c.2.1 ≥ c.2.2 then pure (.done (none,c.2.1,c.2.2)) else ask (c.2.1+(c.2.2-c.2.1) / 2) >>= λr=>match r with
  | some w=>if w=true then pure (.yield (none,c.2.1+(c.2.2-c.2.1) / 2+1,c.2.2)) else pure (.yield (none,c.2.1,c.2.1+(c.2.2-c.2.1) / 2))
  | _=>pure (.done (some none,c.2.1,c.2.2))
 match c.1 with
 | some r=>pure r
 | none=>pure (some c.2.2)
noncomputable def My (ask:Nat->StateT SortSt Sem (Option Bool)) (f:Bool->Bool) (n mx:Nat) (k:Nat->Nat->StateT SortSt Sem (Option Nat)):StateT SortSt Sem (Option Nat):=do
 let c <- forIn [0:n] ((none,0,1):GS) λ_ c=>if c.2.2 ≥ mx then pure (.done (none,c.2.1,c.2.2)) else ask c.2.2 >>= λr=>match r with
  | some w=>if f w=true then pure (.done (none,c.2.1,c.2.2)) else pure (.yield (none,c.2.2,2 * c.2.2+1))
  | _=>pure (.done (some none,c.2.1,c.2.2))
 match c.1 with
 | some r=>pure r
 | none=>k c.2.1 c.2.2
def Aa (left:Bool) (e:Keyed) (d:Array Keyed) (base n a:Nat):fC left e d base n a=(xZ left e d base a >>= λr=>match r with
  | some w=>if w=true then My (λv=>xZ left e d base (a+v)) (λb=>!b) n (n-a) λu v=>BJ (xZ left e d base) n (a+u+1) (a+min v (n-a))
   else My (λv=>xZ left e d base (a-v)) (λb=>b) n (a+1) λu v=>BJ (xZ left e d base) n (a+1-min v (a+1)) (a-u)
  | _=>pure none):=by
 refine congrArg (bind _) (funext λr=>?_);cases r with
 | none=>rfl
 | some w=>
  dsimp only
  refine congr (congrArg (@ite _ _ _) (congrArg (bind _) (funext λc=>?_))) (congrArg (bind _) (funext λc=>?_))
  all_goals
   let (r,c):=c;cases r with
   | some r=>rfl
   | none=>
    refine congrArg (bind _) (funext λc=>?_);let (r,c):=c;cases r <;> rfl
section
variable {M:Model} {A:Around} {E:Value->Shared->Prop} {s:Shared} {st:SortSt}
def vD {g:Nat->StateT SortSt Sem (Option Bool)} {n lo hi:Nat} {p:Nat->Bool} {Q:Option Nat->SortSt->Prop} (F:∀i,i<n->∀R:Option Bool->SortSt->Prop,R (some (p i)) st->wpS M A E s (g i) R st)
  (v:∀i j,i<=j->j<n->p j=true->p i=true) (y:lo<=hi) (h2:hi<=n) (B:∀i,i<lo->p i=true) (G:∀i,hi<=i->i<n->p i=false)
  (h:∀k,k<=n->(∀i,i<k->p i=true)->(∀i,k<=i->i<n->p i=false)->Q (some k) st):wpS M A E s (BJ g n lo hi) Q st:=by
 let l:∀lo hi:Nat,lo<=hi->hi<=lo->hi<=n->(∀i,i<lo->p i=true)->(∀i,hi<=i->i<n->p i=false)->Q (some hi) st:=λlo hi q o u f d=>h hi u (λi z=>f i ∎) d;refine i3 (K8 (Q:=λc a=>a=st/\c.1=none/\Q (some c.2.2) st) (D7 (I:=λx c a=>a=st/\c.1=none/\c.2.1<=c.2.2/\c.2.2<=n/\c.2.2+x<=n+c.2.1/\(∀i,i<c.2.1->p i=true)/\∀i,c.2.2<=i->i<n->p i=false) (λx c a _ K z=>?_) (λc a z=>?_) {rfl,rfl,y,h2,l7 h2 (O6 _ _),B,G}) λc a z=>?_)
 ·let (rfl,w,q,o,u,f,d):=z;let (r,lo,hi):=c;dsimp only at *;by_cases b:lo ≥ hi
  ·rw [if_pos b];exact j7 {rfl,rfl,l _ _ q b o f d}
  ·rw [if_neg b];let C:lo<=lo+(hi-lo) / 2:=O6 _ _;let J:lo+(hi-lo) / 2<hi:=∎;generalize lo+(hi-lo) / 2=m at *;refine i3 (F _ ∎ _ ?_);cases e:p m with
   | true=>exact j7 {rfl,rfl,(by dsimp only;omega),o,(by dsimp only;omega),λi t=>v i _ (Nat.le_of_lt_succ t) ∎ e,d}
   | false=>
    refine j7 {rfl,rfl,C,(by dsimp only;omega),(by dsimp only;omega),f,λi D H=>?_};cases z:p i with
    | false=>rfl
    | true=>rw [v _ i D H z] at e;cases e
 ·let (rfl,w,q,o,u,f,d):=z;exact {rfl,w,l _ _ q ∎ o f d}
 ·let (r,c):=c;let (rfl,rfl,z):=z;exact j7 z
def rJ {g:Nat->StateT SortSt Sem (Option Bool)} {f:Bool->Bool} {n d:Nat} {k:Nat->Nat->StateT SortSt Sem (Option Nat)} {p:Nat->Bool} {Q:Option Nat->SortSt->Prop} (o:∀v,v<d->∀R:Option Bool->SortSt->Prop,R (some (p v)) st->wpS M A E s (g v) R st) (q:f (p 0)=false) (t:0<d) (h2:d<=n)
  (h:∀u v,u<v->u<d->f (p u)=false->(v<d->f (p v)=true)->wpS M A E s (k u v) Q st):wpS M A E s (My g f n d k) Q st:=by
 refine i3 (K8 (Q:=λc a=>a=st/\c.1=none/\wpS M A E s (k c.2.1 c.2.2) Q st) (D7 (I:=λx c a=>a=st/\c.1=none/\c.2.1<c.2.2/\x+1<=c.2.2/\c.2.1<d/\f (p c.2.1)=false) (λx c a _ y z=>?_) (λc a z=>?_) {rfl,rfl,Nat.zero_lt_one,c9 _,t,q}) λc a z=>?_)
 ·let (rfl,m,j,w,l,i):=z;by_cases b:c.2.2 ≥ d
  ·rw [if_pos b];exact j7 {rfl,rfl,h _ _ j l i λz=>absurd z (Nat.not_lt.mpr b)}
  ·rw [if_neg b];refine i3 (o _ ∎ _ ?_);dsimp only
   cases e:f (p c.2.2) with
   | true=>
    rw [if_pos rfl];exact j7 {rfl,rfl,h _ _ j l i λ_=>e}
   | false=>
    rw [if_neg (by simp)];exact j7 {rfl,rfl,(by omega:c.2.2<2 * _+1),(by omega:_<=2 * c.2.2+1),Nat.lt_of_not_le b,e}
 ·let (rfl,m,j,w,l,i):=z;exact {rfl,m,h _ _ j l i λz=>∎}
 ·let (r,c):=c;let (rfl,rfl,z):=z;exact z
def oN {left:Bool} {d:Keyed} {c:Array Keyed} {base n a:Nat} {p:Nat->Bool} {Q:Option Nat->SortSt->Prop}
  (f:∀i,i<n->∀R:Option Bool->SortSt->Prop,R (some (p i)) st->wpS M A E s (xZ left d c base i) R st)
  (b:∀i j,i<=j->j<n->p j=true->p i=true) (r:a<n)
  (h:∀k,k<=n->(∀i,i<k->p i=true)->(∀i,k<=i->i<n->p i=false)->Q (some k) st):
  wpS M A E s (fC left d c base n a) Q st:=by
 let o:∀i j,i<=j->j<n->p i=false->p j=false:=λi j x t e=>by
  cases z:p j with
  | false=>rfl
  | true=>rw [b i j x t z] at e;cases e
 rw [Aa];refine i3 (f a r _ ?_);dsimp only
 cases e0:p a with
 | true=>
  rw [if_pos rfl];refine rJ (p:=λv=>p (a+v)) (λv w=>f _ ∎) (by show (!p a)=false;rw [e0];rfl) ∎ (Nat.sub_le _ _) λu v y B g l=>?_;let g:p (a+u)=true:=by simpa using g
  refine vD f b ∎ ∎ (λi z=>b i (a+u) ∎ ∎ g) (λi q m=>?_) h;exact o (a+v) i ∎ m (by simpa using l ∎)
 | false=>
  rw [if_neg (by simp)];refine rJ (p:=λv=>p (a-v)) (λv w=>f _ ∎) e0 (Nat.succ_pos _) r λu v y B g l=>?_;refine vD f b ∎ ∎ (λi z=>?_) (λi q m=>o (a-u) i q m g) h;exact b i (a-v) ∎ ∎ (l ∎)
end
structure oJ (prog:Program) (w:World) (A:Around) (E:Value->Shared->Prop) (s:Shared) (κ:SortKind) (a₀:Array Keyed) (rk:Keyed->Int):Prop where
 lt:∀{x y:Keyed} {st:SortSt} {Q:Option Bool->SortSt->Prop},x ∈ a₀.toList->y ∈ a₀.toList->kindOf st=κ->Q (some (decide (rk x<rk y))) st->wpS (model prog w) A E s (lt' x y) Q st
structure SB (κ:SortKind) (a₀:Array Keyed) (st:SortSt):Prop where
 perm:(arrOf st).Perm a₀
 kind:kindOf st=κ
 failed:failedOf st=none
theorem SB.size {κ:SortKind} {a₀:Array Keyed} {st:SortSt} (h:SB κ a₀ st):(arrOf st).size=a₀.size:=h.perm.size_eq
def SB.put {κ:SortKind} {a₀:Array Keyed} {st:SortSt} (h:SB κ a₀ st) {xs:Array Keyed} (a:xs.Perm (arrOf st)):SB κ a₀ (setArr st xs):={a.trans h.perm,h.kind,h.failed}
def SB.at {κ:SortKind} {a₀:Array Keyed} {st:SortSt} (h:SB κ a₀ st) {i:Nat} (hi:i<a₀.size):∃p,(arrOf st)[i]?=some p/\p ∈ a₀.toList:=by
 let a:i<(arrOf st).size:=by rw [h.size];exact hi
 exact {_,getElem?_pos _ i a,(L4.mp h.perm).mem_iff.mp (by simp)}
def R (rk:Keyed->Int) (xs:Array Keyed) (i:Nat):Int:=match xs[i]? with
 | some p=>rk p
 | none=>0
def lR (rk:Keyed->Int) (xs:Array Keyed) (lo hi:Nat):Prop:=∀i j,lo<=i->i<=j->j<hi->R rk xs i<=R rk xs j
def Hg (rk:Keyed->Int) (xs:Array Keyed) (lo hi:Nat):Prop:=∀i j,lo<=i->i<=j->j<hi->R rk xs j<=R rk xs i
def qW (lo:Nat) (xs ys:Array Keyed):Prop:=∀k,k<lo->xs[k]?=ys[k]?
def qW.refl {lo:Nat} {xs:Array Keyed}:qW lo xs xs:=λ_ _=>rfl
theorem qW.trans {lo:Nat} {xs ys zs:Array Keyed} (h:qW lo xs ys) (k:qW lo ys zs):qW lo xs zs:=λi a=>(h i a).trans (k i a)
def iI {rk:Keyed->Int} {xs ys:Array Keyed} {i j:Nat} (h:xs[i]?=ys[j]?):R rk xs i=R rk ys j:=by unfold R;rw [h]
def iN {rk:Keyed->Int} {xs:Array Keyed} {i:Nat} {p:Keyed} (h:xs[i]?=some p):R rk xs i=rk p:=by unfold R;rw [h]
def yF {rk:Keyed->Int} {xs:Array Keyed} {a d:Nat} (f:a<xs.size) (g:d<=a) (k:Nat):
  R rk (bubble xs a d) k=if k=a-d then R rk xs a else if a-d<k/\k<=a then R rk xs (k-1) else R rk xs k:=by
 let e:=getElem?_bubble f d g k;by_cases c:k=a-d
 ·rw [if_pos c] at e ⊢;exact iI e
 ·rw [if_neg c] at e ⊢;by_cases b:a-d<k/\k<=a
  ·rw [if_pos b] at e ⊢;exact iI e
  ·rw [if_neg b] at e ⊢;exact iI e
def qS {rk:Keyed->Int} {xs:Array Keyed} {i j:Nat} (b:j<=xs.size) (k:Nat):
  R rk (mirror xs i j ((j-i) / 2)) k=if i<=k/\k<j then R rk xs (i+j-1-k) else R rk xs k:=by
 let e:=getElem?_mirror_all (i:=i) b k;by_cases a:i<=k/\k<j
 ·rw [if_pos a] at e ⊢;exact iI e
 ·rw [if_neg a] at e ⊢;exact iI e
def dW {rk:Keyed->Int} {xs:Array Keyed} {i j:Nat} (b:j<=xs.size) (a:∀k,i<=k->k<j->R rk xs k=R rk xs (j-1)) (k:Nat):
  R rk (mirror xs i j ((j-i) / 2)) k=R rk xs k:=by
 rw [qS b];split
 ·rw [a _ ∎ ∎,a k ∎ ∎]
 ·rfl
def gJ {xs:Array Keyed} {lo i j:Nat} (a:j<=xs.size) (hi:lo<=i):qW lo (mirror xs i j ((j-i) / 2)) xs:=λk b=>by
 rw [getElem?_mirror_all a,if_neg ∎]
def xB {xs:Array Keyed} {lo a d:Nat} (b:a<xs.size) (e:lo+d<=a):qW lo (bubble xs a d) xs:=λk c=>by
 rw [getElem?_bubble b d ∎,if_neg ∎,if_neg ∎]
section
variable {prog:Program} {w:World} {A:Around} {E:Value->Shared->Prop} {s:Shared} {κ:SortKind} {a₀:Array Keyed} {rk:Keyed->Int}
def bM {st:SortSt} {xs:Array Keyed} {i:Nat} {p:Keyed} {Q:Keyed->SortSt->Prop} (e:xs[i]?=some p) (h:Q p st):wpS (model prog w) A E s (elem' xs i) Q st:=by
 rw [elem'_eq,e];exact j7 h
def kX {st:SortSt} {i j:Nat} {Q:Option Bool->SortSt->Prop} (C:oJ prog w A E s κ a₀ rk) (a:SB κ a₀ st) (hi:i<a₀.size) (f:j<a₀.size)
  (h:Q (some (decide (R rk (arrOf st) i<R rk (arrOf st) j))) st):wpS (model prog w) A E s (ltAt' i j) Q st:=by
 let (p,c,d):=a.at hi;let (q,b,e):=a.at f;rw [ltAt'_eq];refine i3 (J9 ?_);refine i3 (bM c (i3 (bM b ?_)));refine C.lt d e a.kind ?_;rw [iN c,iN b] at h;exact h
abbrev AS:=Option (Option Nat) × Nat
abbrev DS:=Option (Option Nat) × Nat × Nat
def Ox (lo a m:Nat):StateT SortSt Sem AS:=
 forIn [a:m] ((none,a):AS) λ_ c=>do
  let x <- ltAt' (lo+c.2) (lo+c.2-1)
  match x with
  | some b=>if b=true then pure (ForInStep.done (none,c.2)) else pure (ForInStep.yield (none,c.2+1))
  | _=>pure (ForInStep.done (some none,c.2))
def Oe (lo n m:Nat):StateT SortSt Sem (Option Nat):=do
 reverseSlice' lo (lo+n)
 let c <- Ox lo n m
 match c.1 with
 | some r=>pure r
 | none=>pure (some c.2)
def Dt (lo n m:Nat):StateT SortSt Sem DS:=
 forIn [n:m] ((none,n,0):DS) λ_ c=>do
  let x <- ltAt' (lo+c.2.1) (lo+c.2.1-1)
  match x with
  | some b=>
   if b=true then
    if c.2.2 > 0 then do
     reverseSlice' (lo+c.2.1-(c.2.2+1)) (lo+c.2.1)
     pure (ForInStep.yield (none,c.2.1+1,0))
    else pure (ForInStep.yield (none,c.2.1+1,0))
   else do
    let x <- ltAt' (lo+c.2.1-1) (lo+c.2.1)
    match x with
    | some d=>if d=true then pure (ForInStep.done (none,c.2.1,c.2.2)) else pure (ForInStep.yield (none,c.2.1+1,c.2.2+1))
    | _=>pure (ForInStep.done (some none,c.2.1,c.2.2))
  | _=>pure (ForInStep.done (some none,c.2.1,c.2.2))
def xO (lo n m:Nat):StateT SortSt Sem (Option Nat):=do
 liftM (rule "list.sort.descending-run")
 let c <- Dt lo (n+1) m
 match c.1 with
 | some r=>pure r
 | none=>
  if c.2.2 > 0 then do
   reverseSlice' (lo+c.2.1-(c.2.2+1)) (lo+c.2.1)
   Oe lo c.2.1 m
  else Oe lo c.2.1 m
def Gp (lo m:Nat):countRun' lo m=(do
  let c <- Ox lo 1 m
  match c.1 with
  | some r=>pure r
  | none=>
   if (c.2 == m)=true then pure (some c.2)
   else if c.2 > 1 then do
    let x <- ltAt' lo (lo+c.2-1)
    match x with
    | some b=>if b=true then pure (some c.2) else do
      reverseSlice' lo (lo+c.2)
      xO lo c.2 m
    | _=>pure none
   else xO lo c.2 m):=by
 rw [countRun'_eq];unfold xO Oe Dt Ox;dsimp only
 congr 1;funext c;let (r,n):=c;cases r with
 | some r=>rfl
 | none=>
  dsimp only
  split
  ·rfl
  ·split
   ·congr 1;funext x;cases x with
    | none=>rfl
    | some b=>
     dsimp only
     split
     ·rfl
     ·congr 1;funext _r;congr 1;funext _u;congr 1;congr 1;funext s2;let (d,f,g):=s2;cases d with
      | some d=>rfl
      | none=>
       dsimp only
       split
       ·congr 1;funext _v;congr 1;funext _w;congr 1;funext s3;let (a,e):=s3;cases a <;> rfl
       ·congr 1;funext _w;congr 1;funext s3;let (a,e):=s3;cases a <;> rfl
   ·congr 1;funext _u;congr 1;congr 1;funext s2;let (d,f,g):=s2;cases d with
    | some d=>rfl
    | none=>
     dsimp only
     split
     ·congr 1;funext _v;congr 1;funext _w;congr 1;funext s3;let (a,e):=s3;cases a <;> rfl
     ·congr 1;funext _w;congr 1;funext s3;let (a,e):=s3;cases a <;> rfl
structure jL (κ:SortKind) (a₀:Array Keyed) (lo:Nat) (st₀ st:SortSt):Prop extends SB κ a₀ st where
 like:qW lo (arrOf st) (arrOf st₀)
 pend:pendingOf st=pendingOf st₀
theorem jL.put {lo:Nat} {st₀ st:SortSt} (h:jL κ a₀ lo st₀ st) {xs:Array Keyed} (a:xs.Perm (arrOf st)) (b:qW lo xs (arrOf st)):jL κ a₀ lo st₀ (setArr st xs):=
 {h.toSB.put a,b.trans h.like,h.pend}
variable {st₀:SortSt} {lo:Nat}
def vE {st:SortSt} {a m:Nat} {Q:AS->SortSt->Prop} (C:oJ prog w A E s κ a₀ rk) (hn:lo+m<=a₀.size) (ha:1<=a) (han:a<=m) (hB:SB κ a₀ st)
  (hs:lR rk (arrOf st) lo (lo+a))
  (h:∀n,a<=n->n<=m->lR rk (arrOf st) lo (lo+n)->(n=m\/R rk (arrOf st) (lo+n)<R rk (arrOf st) (lo+n-1))->Q (none,n) st):
  wpS (model prog w) A E s (Ox lo a m) Q st:=by
 unfold Ox;refine D7 (I:=λx c st'=>st'=st/\c=(none,x)/\lR rk (arrOf st) lo (lo+x)) ?step ?fin {(rfl),rfl,hs}
 case fin=>
  rintro c st' ⟨rfl,rfl,hs'⟩;rw [show max a m=m by omega] at hs' ⊢;exact h m han (c9 _) hs' (.inl rfl)
 case step=>
  rintro x c st' hax hxn ⟨rfl,rfl,hs'⟩;dsimp only
  refine i3 (kX C hB ∎ ∎ ?_);by_cases hless:R rk (arrOf st') (lo+x)<R rk (arrOf st') (lo+x-1)
  ·simp only [hless,decide_true,if_true];exact j7 (h x hax ∎ hs' (.inr hless))
  ·simp only [hless,decide_false,x0,if_false];refine j7 {rfl,rfl,λi j hl hij hj=>?_};by_cases hjx:j<lo+x
   ·exact hs' i j hl hij hjx
   ·let hj':j=lo+x:=∎;subst hj';by_cases hi':i=lo+x
    ·subst hi';exact j0 _
    ·exact v8 (hs' i (lo+x-1) hl ∎ ∎) (M9.mp hless)
def vC {st:SortSt} {n m:Nat} {Q:Option Nat->SortSt->Prop} (C:oJ prog w A E s κ a₀ rk) (q:lo+m<=a₀.size) (p:1<=n) (d:n<=m) (g:jL κ a₀ lo st₀ st)
  (l:Hg rk (arrOf st) lo (lo+n)) (h:∀k b,jL κ a₀ lo st₀ b->1<=k->k<=m->lR rk (arrOf b) lo (lo+k)->Q (some k) b):
  wpS (model prog w) A E s (Oe lo n m) Q st:=by
 unfold Oe;let a:lo+n<=(arrOf st).size:=by rw [g.size];omega
 refine i3 (wpS_reverse ?_);let c:jL κ a₀ lo st₀ (setArr st (mirror (arrOf st) lo (lo+n) ((lo+n-lo) / 2))):=g.put (mirror_perm _ _ _ _) (gJ a (c9 _));refine i3 (vE C q p d c.toSB ?_ λk r f e _=>j7 (h k _ c ∎ f e));intro i j u o t;show R rk (mirror (arrOf st) lo (lo+n) ((lo+n-lo) / 2)) i<=R rk (mirror (arrOf st) lo (lo+n) ((lo+n-lo) / 2)) j;rw [qS a,qS a,if_pos ∎,if_pos ∎];exact l _ _ ∎ ∎ ∎
def Eh {st:SortSt} {n m:Nat} {Q:DS->SortSt->Prop} (C:oJ prog w A E s κ a₀ rk) (hn:lo+m<=a₀.size) (h1:1<=n) (hnn:n<=m) (hB:jL κ a₀ lo st₀ st)
  (hs:Hg rk (arrOf st) lo (lo+n))
  (h:∀k q st',jL κ a₀ lo st₀ st'->n<=k->k<=m->Hg rk (arrOf st') lo (lo+k)->q+1<=k->(∀i,lo+k-(q+1)<=i->i<lo+k->R rk (arrOf st') i=R rk (arrOf st') (lo+k-1))->Q (none,k,q) st'):
  wpS (model prog w) A E s (Dt lo n m) Q st:=by
 unfold Dt;refine D7 (I:=λx c st'=>∃q,c=(none,x,q)/\jL κ a₀ lo st₀ st'/\Hg rk (arrOf st') lo (lo+x)/\q+1<=x /\
   (∀i,lo+x-(q+1)<=i->i<lo+x->R rk (arrOf st') i=R rk (arrOf st') (lo+x-1))) ?step ?fin {0,rfl,hB,hs,∎,λi h1 h2=>by congr 1;omega}
 case fin=>
  rintro c st' ⟨q,rfl,hB',hs',hq,he⟩;rw [show max n m=m by omega] at hs' hq he ⊢;exact h m q st' hB' hnn (c9 _) hs' hq he
 case step=>
  rintro x c st' hax hxn ⟨q,rfl,hB',hs',hq,he⟩;dsimp only
  let hsz:lo+x<=(arrOf st').size:=by rw [hB'.size];omega
  refine i3 (kX C hB'.toSB ∎ ∎ ?_);by_cases hless:R rk (arrOf st') (lo+x)<R rk (arrOf st') (lo+x-1)
  ·simp only [hless,decide_true,if_true];let step1:∀xs:Array Keyed,(∀k,R rk xs k=R rk (arrOf st') k)->Hg rk xs lo (lo+(x+1)):=by
    intro xs hk i j hl hij hj;rw [hk,hk];by_cases hjx:j<lo+x
    ·exact hs' i j hl hij hjx
    ·let hj':j=lo+x:=∎;subst hj';by_cases hi':i=lo+x
     ·subst hi';exact j0 _
     ·exact v8 (v7 hless) (hs' i (lo+x-1) hl ∎ ∎)
   by_cases hneq:q > 0
   ·rw [if_pos hneq];refine i3 (wpS_reverse (j7 {0,rfl,hB'.put (mirror_perm _ _ _ _) (gJ hsz ∎),step1 _ (dW hsz he),∎,λi h1 h2=>by congr 1;omega}))
   ·rw [if_neg hneq];exact j7 {0,rfl,hB',step1 _ (λ_=>rfl),∎,λi h1 h2=>by congr 1;omega}
  ·simp only [hless,decide_false,x0,if_false];refine i3 (kX C hB'.toSB ∎ ∎ ?_);by_cases hlarger:R rk (arrOf st') (lo+x-1)<R rk (arrOf st') (lo+x)
   ·simp only [hlarger,decide_true,if_true];exact j7 (h x q st' hB' hax ∎ hs' hq he)
   ·simp only [hlarger,decide_false,x0,if_false];let heqx:R rk (arrOf st') (lo+x)=R rk (arrOf st') (lo+x-1):=∎;refine j7 {q+1,rfl,hB',λi j hl hij hj=>?_,∎,λi h1 h2=>?_}
    ·by_cases hjx:j<lo+x
     ·exact hs' i j hl hij hjx
     ·let hj':j=lo+x:=∎;subst hj';by_cases hi':i=lo+x
      ·subst hi';exact j0 _
      ·rw [heqx];exact hs' i (lo+x-1) hl ∎ ∎
    ·rw [show lo+(x+1)-1=lo+x by omega];by_cases hix:i=lo+x
     ·subst hix;rfl
     ·rw [heqx];exact he i ∎ ∎
def rK {st:SortSt} {n m:Nat} {Q:Option Nat->SortSt->Prop} (C:oJ prog w A E s κ a₀ rk) (o:lo+m<=a₀.size) (g:n+1<=m) (u:jL κ a₀ lo st₀ st)
  (r:Hg rk (arrOf st) lo (lo+(n+1))) (h:∀k a,jL κ a₀ lo st₀ a->1<=k->k<=m->lR rk (arrOf a) lo (lo+k)->Q (some k) a):
  wpS (model prog w) A E s (xO lo n m) Q st:=by
 unfold xO;refine i3 (Q1 (F1 {rfl,?_}));refine i3 (Eh C o ∎ g u r λk q a c v f e y p=>?_);dsimp only
 let d:lo+k<=(arrOf a).size:=by rw [c.size];omega
 by_cases b:q > 0
 ·rw [if_pos b];refine i3 (wpS_reverse (vC C o ∎ f (c.put (mirror_perm _ _ _ _) (gJ d ∎)) ?_ h));intro i j x l t;show R rk (mirror (arrOf a) _ _ _) j<=R rk (mirror (arrOf a) _ _ _) i;rw [dW d p,dW d p];exact e i j x l t
 ·rw [if_neg b];exact vC C o ∎ f c e h
def Ei {st:SortSt} {m:Nat} {Q:Option Nat->SortSt->Prop} (C:oJ prog w A E s κ a₀ rk) (D:lo+m<=a₀.size) (H:1<=m) (e:jL κ a₀ lo st₀ st)
  (h:∀k l,jL κ a₀ lo st₀ l->1<=k->k<=m->lR rk (arrOf l) lo (lo+k)->Q (some k) l):
  wpS (model prog w) A E s (countRun' lo m) Q st:=by
 rw [Gp];refine i3 (vE C D (c9 1) H e.toSB (λi j d v G=>by
  have:i=j:=∎
  subst this;exact j0 _) λn q t c B=>?_);dsimp only
 by_cases f:n=m
 ·rw [if_pos (by simpa using f)];exact j7 (h n st e q t c)
 ·rw [if_neg (by simpa using f)];let p:R rk (arrOf st) (lo+n)<R rk (arrOf st) (lo+n-1):=B.resolve_left f;by_cases u:n > 1
  ·rw [if_pos u];refine i3 (kX C e.toSB ∎ ∎ ?_);by_cases b:R rk (arrOf st) lo<R rk (arrOf st) (lo+n-1)
   ·simp only [b,decide_true,if_true];exact j7 (h n st e q t c)
   ·simp only [b,decide_false,x0,if_false];let g:lo+n<=(arrOf st).size:=by rw [e.size];omega
    let a:∀k,lo<=k->k<lo+n->R rk (arrOf st) k=R rk (arrOf st) (lo+n-1):=by
     intro k d I;let J:=c lo k ∎ d I;let K:=c k (lo+n-1) d ∎ ∎;omega
    refine i3 (wpS_reverse (rK C D ∎ (e.put (mirror_perm _ _ _ _) (gJ g (c9 _))) ?_ h));intro i j d v G;show R rk (mirror (arrOf st) _ _ _) j<=R rk (mirror (arrOf st) _ _ _) i;rw [dW g a,dW g a];by_cases x:j<lo+n
    ·rw [a i d ∎,a j ∎ x];exact j0 _
    ·let F:j=lo+n:=∎;subst F;by_cases o:i=lo+n
     ·subst o;exact j0 _
     ·rw [a i d ∎];exact v7 p
  ·rw [if_neg u];let r:n=1:=∎;subst r;refine rK C D ∎ e ?_ h;intro i j d v G;by_cases o:i=j
   ·subst o;exact j0 _
   ·let y:i=lo:=∎;let z:j=lo+1:=∎;subst y;subst z;exact v7 p
def yK {st:SortSt} {n ok:Nat} {Q:Bool->SortSt->Prop} (C:oJ prog w A E s κ a₀ rk) (hn:lo+n<=a₀.size) (hok:ok<=n) (hB:jL κ a₀ lo st₀ st) (hs:lR rk (arrOf st) lo (lo+ok))
  (h:∀st',jL κ a₀ lo st₀ st'->lR rk (arrOf st') lo (lo+n)->Q true st'):wpS (model prog w) A E s (binarySort' lo n ok) Q st:=by
 rw [binarySort'_eq];refine i3 (K8 (D7 (I:=λk c st'=>c=(none,())/\jL κ a₀ lo st₀ st'/\lR rk (arrOf st') lo (lo+min k n))
  (Q:=λc st'=>c=(none,())/\jL κ a₀ lo st₀ st'/\lR rk (arrOf st') lo (lo+n)) ?step ?fin ?init) ?post)
 case post=>
  rintro c st' ⟨rfl,hB',hs'⟩;exact j7 (h st' hB' hs')
 case init=>
  refine {rfl,hB,λi j hl hij hj=>?_};by_cases h1:ok=0
  ·have:i=j:=∎;subst this;exact j0 _
  ·exact hs i j hl hij ∎
 case fin=>
  rintro c st' ⟨hc,hB',hs'⟩;refine {hc,hB',?_};rwa [show min (max (max ok 1) n) n=n by omega] at hs'
 case step=>
  rintro k c st' hak hkn ⟨rfl,hB',hs'⟩;rw [show min k n=k by omega] at hs';let hk:lo+k<a₀.size:=∎;refine i3 (K8 (D7 (I:=λx c st''=>st''=st'/\∃l r,c=(none,l,r)/\l<=r/\r<=k/\r+x<=k+l /\
    (∀i,lo<=i->i<lo+l->R rk (arrOf st') i<=R rk (arrOf st') (lo+k))/\(∀i,lo+r<=i->i<lo+k->R rk (arrOf st') (lo+k)<R rk (arrOf st') i))
   (Q:=λc st''=>st''=st'/\∃l r,c=(none,l,r)/\l<=k /\
    (∀i,lo<=i->i<lo+l->R rk (arrOf st') i<=R rk (arrOf st') (lo+k))/\(∀i,lo+l<=i->i<lo+k->R rk (arrOf st') (lo+k)<R rk (arrOf st') i)) ?istep ?ifin ?iinit) ?ipost)
  case iinit=>exact {rfl,0,k,rfl,∎,∎,∎,λi _ hi=>∎,λi h1 h2=>∎}
  case ifin=>
   rintro c st'' ⟨rfl,l,r,rfl,hlr,hrk,hm,hlo,hhi⟩;have:l=r:=∎;subst this;exact {(rfl),l,l,rfl,hrk,hlo,hhi}
  case istep=>
   rintro x c st'' _ hxk ⟨rfl,l,r,rfl,hlr,hrk,hm,hlo,hhi⟩;dsimp only
   by_cases hge:l ≥ r
   ·rw [if_pos hge];have:l=r:=∎;subst this;exact j7 {(rfl),l,l,rfl,hrk,hlo,hhi}
   ·rw [if_neg hge];let m1:l<=(l+r) / 2:=∎;let m2:(l+r) / 2<r:=∎;generalize (l+r) / 2=m at *;refine i3 (kX C hB'.toSB hk ∎ ?_);by_cases hless:R rk (arrOf st'') (lo+k)<R rk (arrOf st'') (lo+m)
    ·simp only [hless,decide_true,if_true];refine j7 {rfl,l,m,rfl,m1,∎,∎,hlo,λi h1 h2=>?_};exact Int.lt_of_lt_of_le hless (hs' _ _ ∎ h1 h2)
    ·simp only [hless,decide_false,x0,if_false];refine j7 {rfl,m+1,r,rfl,m2,hrk,∎,λi h0 h1=>?_,hhi};exact v8 (hs' i (lo+m) h0 ∎ ∎) (M9.mp hless)
  case ipost=>
   rintro c st'' ⟨rfl,l,r,rfl,hlk,hlo,hhi⟩;show wpS _ _ _ _ (do moveDown' (lo+k) (lo+l);pure (ForInStep.yield (none,()))) _ _;let hks:lo+k<(arrOf st'').size:=by rw [hB'.size];exact hk
   rw [moveDown'_eq];refine i3 (N0 (j7 {rfl,hB'.put (bubble_perm _ _ _) (xB hks ∎),?_}));rw [show min (k+1) n=k+1 by omega];intro i j hl hij hj;show R rk (bubble (arrOf st'') (lo+k) (lo+k-(lo+l))) i<=R rk (bubble (arrOf st'') (lo+k) (lo+k-(lo+l))) j;rw [yF hks ∎,yF hks ∎,show lo+k-(lo+k-(lo+l))=lo+l by omega]
   repeat' split
   all_goals first
    | (exfalso;omega)
    | exact j0 _
    | exact hlo _ ∎ ∎
    | exact v7 (hhi _ ∎ ∎)
    | exact hs' _ _ ∎ ∎ ∎
def jY {α:Type} {a:Array α} {i:Nat}:(a.extract i a.size).toList=a.toList.drop i:=by
 rw [K9,F2,p8];rw [C3];simp
def xP {α:Type} {a:Array α} {i k:Nat}:(a.extract i (i+k)).toList=(a.toList.drop i).take k:=by
 rw [K9,F2];congr 1;omega
def fK (rk:Keyed->Int) (l:List Keyed):Prop:=l.Pairwise λx y=>rk x<=rk y
structure Mg (rk:Keyed->Int) (a b:List Keyed) (o:List Keyed) (i j:Nat):Prop where
 perm:(o++(a.drop i++b.drop j)).Perm (a++b)
 srt:fK rk o
 la:∀x ∈ o,∀y ∈ a.drop i,rk x<=rk y
 lb:∀x ∈ o,∀y ∈ b.drop j,rk x<=rk y
def Mg.len {rk:Keyed->Int} {a b o:List Keyed} {i j:Nat} (h:Mg rk a b o i j):o.length+((a.length-i)+(b.length-j))=a.length+b.length:=by
 have:=h.perm.length_eq;simpa using this
def fK.app {rk:Keyed->Int} {x y:List Keyed} (h:fK rk x) (k:fK rk y) (l:∀u ∈ x,∀v ∈ y,rk u<=rk v):fK rk (x++y):=
 C4.mpr {(h),k,l}
theorem fK.drop {rk:Keyed->Int} {x:List Keyed} {i:Nat} (h:fK rk x):fK rk (x.drop i):=h.sublist (List.drop_sublist _ _)
theorem fK.take {rk:Keyed->Int} {x:List Keyed} {i:Nat} (h:fK rk x):fK rk (x.take i):=h.sublist (N5 _ _)
def Mg.takeA {rk:Keyed->Int} {a b o:List Keyed} {i j k:Nat} (h:Mg rk a b o i j) (d:fK rk a) (n:∀x ∈ (a.drop i).take k,∀y ∈ b.drop j,rk x<=rk y):Mg rk a b (o++(a.drop i).take k) (i+k) j:=by
 let e:a.drop i=(a.drop i).take k++a.drop (i+k):=by
  rw [<- C8];exact(z9 k _).symm
 let g:fK rk ((a.drop i).take k++a.drop (i+k)):=e ▸ d.drop;let f:∀x ∈ (a.drop i).take k,x ∈ a.drop i:=λx hx=>A5 hx;let m:∀x ∈ a.drop (i+k),x ∈ a.drop i:=λx hx=>by rw [e];exact j3 _ hx
 refine {?_,h.srt.app d.drop.take λu p v l=>h.la u p v (f v l),λx hx y c=>?_,λx hx y c=>?_}
 ·refine List.Perm.trans (List.Perm.of_eq ?_) h.perm
  conv=>rhs;rw [e]
  simp [p9]
 ·rcases j1.mp hx with hx|hx
  ·exact h.la x hx y (m y c)
  ·exact(C4.mp g).2.2 x hx y c
 ·rcases j1.mp hx with hx|hx
  ·exact h.lb x hx y c
  ·exact n x hx y c
def Mg.takeB {rk:Keyed->Int} {a b o:List Keyed} {i j k:Nat} (h:Mg rk a b o i j) (d:fK rk b) (n:∀x ∈ (b.drop j).take k,∀y ∈ a.drop i,rk x<=rk y):Mg rk a b (o++(b.drop j).take k) i (j+k):=by
 let e:b.drop j=(b.drop j).take k++b.drop (j+k):=by
  rw [<- C8];exact(z9 k _).symm
 let g:fK rk ((b.drop j).take k++b.drop (j+k)):=e ▸ d.drop;let f:∀x ∈ (b.drop j).take k,x ∈ b.drop j:=λx hx=>A5 hx;let m:∀x ∈ b.drop (j+k),x ∈ b.drop j:=λx hx=>by rw [e];exact j3 _ hx
 refine {?_,h.srt.app d.drop.take λu p v l=>h.lb u p v (f v l),λx hx y c=>?_,λx hx y c=>?_}
 ·refine List.Perm.trans ?_ h.perm
  conv=>rhs;rw [e]
  have:(a.drop i++((b.drop j).take k++b.drop (j+k))).Perm ((b.drop j).take k++(a.drop i++b.drop (j+k))):=by
   rw [<- p9,<- p9];exact List.perm_append_comm.append_right _
  rw [p9];exact(this.symm).append_left _
 ·rcases j1.mp hx with hx|hx
  ·exact h.la x hx y c
  ·exact n x hx y c
 ·rcases j1.mp hx with hx|hx
  ·exact h.lb x hx y (m y c)
  ·exact(C4.mp g).2.2 x hx y c
def gT {α:Type} {l:List α} {i:Nat} {x:α} (h:l[i]?=some x):(l.drop i).take 1=[x]:=by
 let a:i<l.length:=by
  rcases Nat.lt_or_ge i l.length with z|z
  ·exact z
  ·rw [A0 z] at h;cases h
 rw [A6 a];rw [c7 a] at h;cases h;rfl
def Mg.pushA {rk:Keyed->Int} {a b o:List Keyed} {i j:Nat} {x:Keyed} (h:Mg rk a b o i j) (f:fK rk a) (e:a[i]?=some x) (c:∀y ∈ b.drop j,rk x<=rk y):Mg rk a b (o++[x]) (i+1) j:=by
 have:=h.takeA (k:=1) f (by rw [gT e];intro u d;cases l6.mp d;exact c);rwa [gT e] at this
def Mg.pushB {rk:Keyed->Int} {a b o:List Keyed} {i j:Nat} {x:Keyed} (h:Mg rk a b o i j) (c:fK rk b) (e:b[j]?=some x) (d:∀y ∈ a.drop i,rk x<=rk y):Mg rk a b (o++[x]) i (j+1):=by
 have:=h.takeB (k:=1) c (by rw [gT e];intro u f;cases l6.mp f;exact d);rwa [gT e] at this
def jI (rk:Keyed->Int) (a b:List Keyed) (r:Array Keyed):Prop:=r.toList.Perm (a++b)/\fK rk r.toList
def Mg.doneB {rk:Keyed->Int} {a b:Array Keyed} {o:Array Keyed} {i j:Nat} (h:Mg rk a.toList b.toList o.toList i j) (d:fK rk a.toList) (e:b.size<=j):jI rk a.toList b.toList (o++a.extract i a.size++b.extract j b.size):=by
 let z:b.toList.drop j=[]:=O3 (by simpa using e);let c:(o++a.extract i a.size++b.extract j b.size).toList=o.toList++a.toList.drop i:=by
  rw [m9,m9,jY,jY,z,x9]
 refine {?_,?_}
 ·rw [c];have:=h.perm;rwa [z,x9] at this
 ·rw [c];exact h.srt.app d.drop h.la
def Mg.doneA {rk:Keyed->Int} {a b:Array Keyed} {o:Array Keyed} {i j:Nat} (h:Mg rk a.toList b.toList o.toList i j) (d:fK rk b.toList) (e:a.size<=i):jI rk a.toList b.toList (o++a.extract i a.size++b.extract j b.size):=by
 let z:a.toList.drop i=[]:=O3 (by simpa using e);let c:(o++a.extract i a.size++b.extract j b.size).toList=o.toList++b.toList.drop j:=by
  rw [m9,m9,jY,jY,z,x9]
 refine {?_,?_}
 ·rw [c];have:=h.perm;rwa [z,List.nil_append] at this
 ·rw [c];exact h.srt.app d.drop h.lb
def Mg.lastA {rk:Keyed->Int} {a b:Array Keyed} {o:Array Keyed} {i j:Nat} (h:Mg rk a.toList b.toList o.toList i j) (k:fK rk a.toList) (g:fK rk b.toList) (e:i+1=a.size) (m:∀y ∈ b.toList,∀x,a.toList[a.size-1]?=some x->rk y<=rk x):jI rk a.toList b.toList (o++b.extract j b.size++a.extract i a.size):=by
 let d:(o++b.extract j b.size++a.extract i a.size).toList=o.toList++(b.toList.drop j++a.toList.drop i):=by
  rw [m9,m9,jY,jY,p9]
 refine {?_,?_}
 ·rw [d];exact(List.perm_append_comm.append_left _).trans h.perm
 ·rw [d];refine h.srt.app (g.drop.app k.drop λu c v hv=>?_) λu c v hv=>?_
  ·let f:i<a.toList.length:=by simp;omega
   let l:a.toList.drop i=[a.toList[i]]:=by
    rw [A6 f,O3 (by simp;omega)]
   rw [l] at hv;cases l6.mp hv;refine m u (D8 c) _ ?_;rw [show a.size-1=i by omega,c7 f]
  ·rcases j1.mp hv with hv|hv
   ·exact h.lb u c v hv
   ·exact h.la u c v hv
structure Sg (st₀ st:SortSt):Prop where
 kind:kindOf st=kindOf st₀
 arr:arrOf st=arrOf st₀
 pend:pendingOf st=pendingOf st₀
 failed:failedOf st=failedOf st₀
def Sg.refl {st:SortSt}:Sg st st:={(rfl),rfl,rfl,rfl}
def sF:Nat->StateT SortSt Sem Unit:=sortPriv% PySem.Builtin.setMinGallop
def Mx (g:Nat):sF g=modify λt=>SortSt.mk' (kindOf t) (arrOf t) (pendingOf t) g (failedOf t):=rfl
def kW {st st₀:SortSt} {g:Nat} {Q:Unit->SortSt->Prop} (b:Sg st₀ st) (h:∀a,Sg st₀ a->Q () a):wpS (model prog w) A E s (sF g) Q st:=by
 rw [Mx];exact N0 (h _ {(b.kind),b.arr,b.pend,b.failed})
def oO {st:SortSt} {b:Keyed} {a:Array Keyed} {base n d:Nat} {Q:Option Nat->SortSt->Prop} (C:oJ prog w A E s κ a₀ rk) (t:kindOf st=κ) (F:b ∈ a₀.toList) (u:∀x ∈ a.toList,x ∈ a₀.toList)
  (D:fK rk ((a.toList.drop base).take n)) (U:base+n<=a.size) (B:d<n)
  (h:∀k,k<=n->(∀x ∈ (a.toList.drop base).take k,rk x<=rk b)->(∀i x,k<=i->i<n->a.toList[base+i]?=some x->rk b<rk x)->Q (some k) st):
  wpS (model prog w) A E s (fC false b a base n d) Q st:=by
 let c:∀i,i<n->∃x,a[base+i]?=some x/\x ∈ a₀.toList/\((a.toList.drop base).take n)[i]?=some x:=λi g=>by
  let z:base+i<a.size:=∎;refine {a[base+i],r9 z,u _ (by simp),?_};rw [v5 g,p7];simp [z]
 refine oN (p:=λi=>!decide (rk b<R rk a (base+i))) (λi g Q h=>?_) (λi j o T e=>?_) B λk H P L=>h k H (λx O=>?_) λi x J G e=>?_
 ·let (x,e,m,_):=c i g;unfold xZ;refine i3 (bM e ?_);rw [if_neg (by simp)];refine i3 (C.lt F m t (j7 ?_));rw [iN e] at h;exact h
 ·let (x,r,_,M):=c i ∎;let (y,f,_,S):=c j T
  try dsimp only at e ⊢
  rw [iN f] at e;rw [iN r];simp only [J0,decide_eq_false_iff_not,M9] at e ⊢;rcases G8 o with z|z
  ·subst z;rw [r] at f;cases f;exact e
  ·refine v8 ?_ e;let (I,v):=c8.mp M;let (K,N):=c8.mp S;rw [<- v,<- N];exact t4.mp D i j I K z
 ·let (i,g,rfl):=y6 O;let l:i<k:=by
   have:=g;simp at this;omega
  let (y,f,_,_):=c i ∎;have:=P i l
  try dsimp only at this
  rw [iN f] at this;simp only [J0,decide_eq_false_iff_not,M9] at this;let q:((a.toList.drop base).take k)[i]?=some y:=by
   rw [v5 l,p7];simpa using f
  rw [c7 g] at q;cases q;exact this
 ·have:=L i J G
  try dsimp only at this
  rw [iN (show a[base+i]?=some x by simpa using e)] at this;simpa using this
def oP {st:SortSt} {b:Keyed} {a:Array Keyed} {base n d:Nat} {Q:Option Nat->SortSt->Prop} (C:oJ prog w A E s κ a₀ rk) (t:kindOf st=κ) (F:b ∈ a₀.toList) (u:∀x ∈ a.toList,x ∈ a₀.toList)
  (D:fK rk ((a.toList.drop base).take n)) (U:base+n<=a.size) (B:d<n)
  (h:∀k,k<=n->(∀x ∈ (a.toList.drop base).take k,rk x<rk b)->(∀i x,k<=i->i<n->a.toList[base+i]?=some x->rk b<=rk x)->Q (some k) st):
  wpS (model prog w) A E s (fC true b a base n d) Q st:=by
 let c:∀i,i<n->∃x,a[base+i]?=some x/\x ∈ a₀.toList/\((a.toList.drop base).take n)[i]?=some x:=λi g=>by
  let z:base+i<a.size:=∎;refine {a[base+i],r9 z,u _ (by simp),?_};rw [v5 g,p7];simp [z]
 refine oN (p:=λi=>decide (R rk a (base+i)<rk b)) (λi g Q h=>?_) (λi j o T e=>?_) B λk H P L=>h k H (λx O=>?_) λi x J G e=>?_
 ·let (x,e,m,_):=c i g;unfold xZ;refine i3 (bM e ?_);rw [if_pos rfl];refine C.lt m F t ?_;rw [iN e] at h;exact h
 ·let (x,r,_,M):=c i ∎;let (y,f,_,S):=c j T
  try dsimp only at e ⊢
  rw [iN f] at e;rw [iN r];simp only [decide_eq_true_eq] at e ⊢;rcases G8 o with z|z
  ·subst z;rw [r] at f;cases f;exact e
  ·refine Int.lt_of_le_of_lt ?_ e;let (I,v):=c8.mp M;let (K,N):=c8.mp S;rw [<- v,<- N];exact t4.mp D i j I K z
 ·let (i,g,rfl):=y6 O;let l:i<k:=by
   have:=g;simp at this;omega
  let (y,f,_,_):=c i ∎;have:=P i l
  try dsimp only at this
  rw [iN f] at this;simp only [decide_eq_true_eq] at this;let q:((a.toList.drop base).take k)[i]?=some y:=by
   rw [v5 l,p7];simpa using f
  rw [c7 g] at q;cases q;exact this
 ·have:=L i J G
  try dsimp only at this
  rw [iN (show a[base+i]?=some x by simpa using e)] at this;simpa using this
noncomputable def AM:Array Keyed->Array Keyed->StateT SortSt Sem (Array Keyed):=sortPriv% PySem.Builtin.mergeLo
abbrev SA:=Option (Array Keyed) × Array Keyed × Nat × Nat × Nat × Nat
abbrev SG:=Option (Array Keyed) × Array Keyed × Nat × Nat × Nat × Nat × Nat
abbrev SO:=Option (Array Keyed) × Array Keyed × Nat × Nat × Nat
section
variable (x y:Array Keyed)
noncomputable def Uj (o:Array Keyed) (i j:Nat):=o++x.extract i x.size++y.extract j y.size
noncomputable def FH (o:Array Keyed) (i j:Nat):=o++y.extract j y.size++x.extract i x.size
noncomputable def JZ (g:Nat) (o:Array Keyed) (i j c d:Nat):StateT SortSt Sem (ForInStep SA):=
 elem' y j >>= λp=>elem' x i >>= λq=>lt' p q >>= λr=>match r with
 | some w=>if w=true then elem' y j >>= λp=>
   if (j+1 == y.size)=true then pure (.done (some (Uj x y (o.push p) i (j+1)),o.push p,i,j+1,0,d+1))
   else if d+1 ≥ g then pure (.done (none,o.push p,i,j+1,0,d+1)) else pure (.yield (none,o.push p,i,j+1,0,d+1))
  else elem' x i >>= λq=>
   if (i+1+1 == x.size)=true then pure (.done (some (FH x y (o.push q) (i+1) j),o.push q,i+1,j,c+1,0))
   else if c+1 ≥ g then pure (.done (none,o.push q,i+1,j,c+1,0)) else pure (.yield (none,o.push q,i+1,j,c+1,0))
 | _=>pure (.done (some (Uj x y o i j),o,i,j,c,d))
noncomputable def IX (o:Array Keyed) (i j g c d:Nat):StateT SortSt Sem (ForInStep SG):=do
 let q <- elem' x i
 if (i+1+1 == x.size)=true then pure (.done (some (FH x y (o.push q) (i+1) j),o.push q,i+1,j,g,c,d))
 else if (c<7 && d<7)=true then pure (.done (none,o.push q,i+1,j,g,c,d)) else pure (.yield (none,o.push q,i+1,j,g,c,d))
noncomputable def KA (o:Array Keyed) (i j g c d:Nat):StateT SortSt Sem (ForInStep SG):=
 elem' x i >>= λq=>fC true q y j (y.size-j) 0 >>= λr=>match r with
 | some k=>if k > 0 then
   if (j+k == y.size)=true then pure (.done (some (Uj x y (o++y.extract j (j+k)) i (j+k)),o++y.extract j (j+k),i,j+k,g,c,k)) else IX x y (o++y.extract j (j+k)) i (j+k) g c k
  else IX x y o i j g c k
 | _=>pure (.done (some (Uj x y o i j),o,i,j,g,c,d))
noncomputable def IY (o:Array Keyed) (i j g c d:Nat):StateT SortSt Sem (ForInStep SG):=do
 let p <- elem' y j
 if (j+1 == y.size)=true then pure (.done (some (Uj x y (o.push p) i (j+1)),o.push p,i,j+1,g,c,d)) else KA x y (o.push p) i (j+1) g c d
noncomputable def IZ (o:Array Keyed) (i j g c d:Nat):StateT SortSt Sem (ForInStep SG):=
 sF g >>= λ_=>elem' y j >>= λp=>fC false p x i (x.size-i) 0 >>= λr=>match r with
 | some k=>if k > 0 then
   if (i+k+1 == x.size)=true then pure (.done (some (FH x y (o++x.extract i (i+k)) (i+k) j),o++x.extract i (i+k),i+k,j,g,k,d))
   else if (i+k == x.size)=true then pure (.done (some (Uj x y (o++x.extract i (i+k)) (i+k) j),o++x.extract i (i+k),i+k,j,g,k,d))
   else IY x y (o++x.extract i (i+k)) (i+k) j g k d
  else IY x y o i j g k d
 | _=>pure (.done (some (Uj x y o i j),o,i,j,g,c,d))
noncomputable def KB (o:Array Keyed) (i j g c d:Nat):StateT SortSt Sem (ForInStep SG):=if g > 1 then IZ x y o i j (g-1) c d else IZ x y o i j g c d
noncomputable def JY (o:Array Keyed) (i j g:Nat):StateT SortSt Sem (ForInStep SO):=do
 let c <- forIn [0:x.size+y.size] ((none,o,i,j,0,0):SA) λ_ c=>JZ x y g c.2.1 c.2.2.1 c.2.2.2.1 c.2.2.2.2.1 c.2.2.2.2.2
 match c.1 with
 | some r=>pure (.done (some r,c.2.1,c.2.2.1,c.2.2.2.1,g))
 | none=>do
  liftM (rule "list.sort.gallop")
  let c <- forIn [0:x.size+y.size] ((none,c.2.1,c.2.2.1,c.2.2.2.1,g+1,c.2.2.2.2.1,c.2.2.2.2.2):SG) λ_ c=>KB x y c.2.1 c.2.2.1 c.2.2.2.1 c.2.2.2.2.1 c.2.2.2.2.2.1 c.2.2.2.2.2.2
  match c.1 with
  | some r=>pure (.done (some r,c.2.1,c.2.2.1,c.2.2.2.1,c.2.2.2.2.1))
  | none=>do
   sF (c.2.2.2.2.1+1)
   pure (.yield (none,c.2.1,c.2.2.1,c.2.2.2.1,c.2.2.2.2.1+1))
def Tt:AM x y=(do
  liftM (rule "list.sort.merge-lo")
  let p <- elem' y 0
  if (1 == y.size)=true then pure (Uj x y #[p] 0 1) else if (0+1 == x.size)=true then pure (FH x y #[p] 0 1) else do
  let st <- get
  let c <- forIn [0:x.size+y.size] ((none,#[p],0,1,gallopOf st):SO) λ_ c=>JY x y c.2.1 c.2.2.1 c.2.2.2.1 c.2.2.2.2
  match c.1 with
  | some r=>pure r
  | none=>do unsupported "internal:list.sort.merge-bound"):=by
 refine congrArg (bind _) (funext λ_=>congrArg (bind _) (funext λp=>?_));dsimp only
 refine congr (congrArg (@ite _ _ _) rfl) (congr (congrArg (@ite _ _ _) rfl) (congrArg (bind _) (funext λst=>congr (congrArg bind (congrArg (forIn _ _) (funext λn=>funext λc=>congrArg (bind _) (funext λc=>?_)))) (funext λc=>?_))))
 ·let (r,c):=c;cases r with
  | some r=>rfl
  | none=>
   refine congrArg (bind _) (funext λ_=>congrArg (bind _) (funext λc=>?_));let (r,c):=c;cases r <;> rfl
 ·let (r,c):=c;cases r <;> rfl
end
def lN {l:List Keyed} {i:Nat} {y:Keyed} (h:y ∈ l.drop i):∃k,i<=k/\l[k]?=some y:=by
 let (n,a,e):=y6 h;refine {i+n,∎,?_};rw [<- p7,c7 a,e]
def jQ {l:List Keyed} {i:Nat} {x:Keyed} (f:fK rk l) (e:l[i]?=some x):∀y ∈ l.drop i,rk x<=rk y:=λy b=>by
 let (k,u,a):=lN b
 let (t,r):=c8.mp e
 let (m,h):=c8.mp a
 rcases G8 u with z|z
 ·subst z;rw [e] at a;cases a;exact j0 _
 ·rw [<- r,<- h];exact t4.mp f i k t m z
def mX {x:Array Keyed} {i:Nat} (h:i<x.size):∃p,x[i]?=some p/\x.toList[i]?=some p/\p ∈ x.toList:={x[i],r9 h,by simp [h],by simp}
structure Md (rk:Keyed->Int) (x y o:Array Keyed) (i j n:Nat):Prop where
 m:Mg rk x.toList y.toList o.toList i j
 hi:i+1<x.size
 hj:j<y.size
 sz:n<=o.size
structure Rn (a₀:Array Keyed) (rk:Keyed->Int) (x y:Array Keyed):Prop where
 mx:∀p ∈ x.toList,p ∈ a₀.toList
 my:∀p ∈ y.toList,p ∈ a₀.toList
 sx:fK rk x.toList
 sy:fK rk y.toList
inductive En {γ:Type} (D:Array Keyed->Prop) (G:γ->Prop):Option (Array Keyed)->γ->Prop
 | out {r c} (h:D r):En D G (some r) c
 | on {c} (h:G c):En D G none c
def Ee {γ:Type} (D:Array Keyed->Prop) (G' G:γ->Prop):ForInStep (Option (Array Keyed) × γ)->Prop
 | .done c=>En D G' c.1 c.2
 | .yield c=>c.1=none/\G c.2
variable {x y o:Array Keyed} {i j n g c d:Nat} {st:SortSt} {p q:Keyed}
abbrev Wl (rk:Keyed->Int) (x y:Array Keyed):Array Keyed->Prop:=jI rk x.toList y.toList
abbrev yI {β:Type} (rk:Keyed->Int) (x y:Array Keyed) (n:Nat):Array Keyed × Nat × Nat × β->Prop:=λc=>Md rk x y c.1 c.2.1 c.2.2.1 n
def Md.a (h:Md rk x y o i j n) (R:Rn a₀ rk x y) (b:∀p ∈ y.toList,∀q,x.toList[x.size-1]?=some q->rk p<=rk q) (e:x.toList[i]?=some q) (l:∀v ∈ y.toList.drop j,rk q<=rk v):(i+1+1=x.size->Wl rk x y (FH x y (o.push q) (i+1) j))/\(¬ i+1+1=x.size->Md rk x y (o.push q) (i+1) j (n+1)):=by
 let m:Mg rk x.toList y.toList (o.push q).toList (i+1) j:=by
  rw [N7];exact h.m.pushA R.sx e l
 let k:=h.hi;let f:=h.sz;exact {λz=>m.lastA R.sx R.sy z b,λz=>{m,∎,h.hj,by rw [M0];omega}}
def Md.b (h:Md rk x y o i j n) (R:Rn a₀ rk x y) (e:y.toList[j]?=some p) (l:∀v ∈ x.toList.drop i,rk p<=rk v):(j+1=y.size->Wl rk x y (Uj x y (o.push p) i (j+1)))/\(¬ j+1=y.size->Md rk x y (o.push p) i (j+1) (n+1)):=by
 let m:Mg rk x.toList y.toList (o.push p).toList i (j+1):=by
  rw [N7];exact h.m.pushB R.sy e l
 let f:=h.hj;let a:=h.sz;exact {λz=>m.doneB R.sx (D4 z.symm),λz=>{m,h.hi,∎,by rw [M0];omega}}
def Md.le {a:Nat} (h:Md rk x y o i j n) (l:a<=n):Md rk x y o i j a:={h.m,h.hi,h.hj,l7 l h.sz}
def lW {γ:Type} {D:Array Keyed->Prop} {G' G:γ->Prop} {b:Bool} {u:Prop} [Decidable u] {P:Prop} {r:Array Keyed} {c:γ} (k:P->D r) (h2:¬ P->G c) (l:∀c,G c->G' c) (f:b=true↔P):
  wpS (model prog w) A E s (if b=true then pure (.done (some r,c)) else if u then pure (.done (none,c)) else pure (.yield (none,c)):StateT SortSt Sem (ForInStep (Option (Array Keyed) × γ))) (λr e=>e=st/\Ee D G' G r) st:=by
 by_cases a:b=true
 ·rw [if_pos a];exact j7 {rfl,.out (k (f.mp a))}
 rw [if_neg a];let z:=h2 λz=>a (f.mpr z);by_cases h:u
 ·rw [if_pos h];exact j7 {rfl,.on (l _ z)}
 ·rw [if_neg h];exact j7 {(rfl),rfl,z}
def FJ {k:Nat} (D:k<=n+1) (C:oJ prog w A E s κ a₀ rk) (G:kindOf st=κ) (R:Rn a₀ rk x y) (J:∀p ∈ y.toList,∀q,x.toList[x.size-1]?=some q->rk p<=rk q) (h:Md rk x y o i j n):wpS (model prog w) A E s (JZ x y g o i j c d) (λr t=>t=st/\Ee (Wl rk x y) (yI rk x y k) (yI rk x y (n+1)) r) st:=by
 let (p,F,B,H):=mX h.hj;let (q,v,u,I):=mX (x:=x) (i:=i) (by have:=h.hi;omega);refine i3 (bM F (i3 (bM v (i3 (C.lt (R.my p H) (R.mx q I) G ?_)))));dsimp only
 by_cases e:rk p<rk q
 ·rw [if_pos (decide_eq_true e)];let (f,m):=h.b R B λz l=>v8 (v7 e) (jQ R.sx u z l);exact i3 (bM F (lW f m (λ_ z=>z.le D) beq_iff_eq))
 ·rw [if_neg (by simpa using e)];let (f,m):=h.a R J u λz l=>v8 (M9.mp e) (jQ R.sy B z l);exact i3 (bM v (lW f m (λ_ z=>z.le D) beq_iff_eq))
def Xh (R:Rn a₀ rk x y) (m:∀p ∈ y.toList,∀q,x.toList[x.size-1]?=some q->rk p<=rk q) (h:Md rk x y o i j n) (k:x[i]?=some q) (f:x.toList[i]?=some q) (l:∀v ∈ y.toList.drop j,rk q<=rk v):wpS (model prog w) A E s (IX x y o i j g c d) (λr b=>b=st/\Ee (Wl rk x y) (yI rk x y n) (yI rk x y n) r) st:=by
 let (e,t):=h.a R m f l;exact i3 (bM k (lW e (λz=>(t z).le (F6 _)) (λ_ z=>z) beq_iff_eq))
def FK (C:oJ prog w A E s κ a₀ rk) (H:kindOf st=κ) (R:Rn a₀ rk x y) (D:∀p ∈ y.toList,∀q,x.toList[x.size-1]?=some q->rk p<=rk q) (h:Md rk x y o i j n):wpS (model prog w) A E s (KA x y o i j g c d) (λr B=>B=st/\Ee (Wl rk x y) (yI rk x y n) (yI rk x y n) r) st:=by
 let I:=h.hi;let O:=h.hj;let P:=h.sz;let (q,l,b,N):=mX (x:=x) (i:=i) ∎;refine i3 (bM l (i3 (oP C H (R.mx q N) R.my R.sy.drop.take ∎ ∎ λk Q M J=>?_)));dsimp only
 let a:∀v ∈ y.toList.drop (j+k),rk q<=rk v:=λv f=>by
  let (t,S,G):=lN f;let L:=(c8.mp G).1;rw [l9] at L;exact J (t-j) v ∎ ∎ (by rw [show j+(t-j)=t by omega];exact G)
 by_cases F:k > 0
 ·rw [if_pos F];let m:Mg rk x.toList y.toList (o++y.extract j (j+k)).toList i (j+k):=by
   rw [m9,xP];exact h.m.takeB R.sy λu K v f=>v8 (v7 (M u K)) (jQ R.sx b v f)
  by_cases e:(j+k == y.size)=true
  ·rw [if_pos e];exact j7 {rfl,.out (m.doneB R.sx (D4 (beq_iff_eq.mp e).symm))}
  ·rw [if_neg e];have:¬ j+k=y.size:=λz=>e (beq_iff_eq.mpr z);exact Xh R D {m,I,∎,by rw [N8];omega} l b a
 ·rw [if_neg F];obtain rfl:k=0:=∎;exact Xh R D h l b a
def Xi (C:oJ prog w A E s κ a₀ rk) (f:kindOf st=κ) (R:Rn a₀ rk x y) (u:∀p ∈ y.toList,∀q,x.toList[x.size-1]?=some q->rk p<=rk q) (h:Md rk x y o i j n) (ep:y[j]?=some p) (t:y.toList[j]?=some p) (l:∀v ∈ x.toList.drop i,rk p<=rk v):wpS (model prog w) A E s (IY x y o i j g c d) (λr a=>a=st/\Ee (Wl rk x y) (yI rk x y n) (yI rk x y n) r) st:=by
 let (k,m):=h.b R t l;refine i3 (bM ep ?_);by_cases e:(j+1 == y.size)=true
 ·rw [if_pos e];exact j7 {rfl,.out (k (beq_iff_eq.mp e))}
 ·rw [if_neg e];exact FK C f R u ((m λz=>e (beq_iff_eq.mpr z)).le (F6 _))
def Xj {st₀:SortSt} (C:oJ prog w A E s κ a₀ rk) (B:kindOf st₀=κ) (N:Sg st₀ st) (R:Rn a₀ rk x y) (I:∀p ∈ y.toList,∀q,x.toList[x.size-1]?=some q->rk p<=rk q) (h:Md rk x y o i j n):wpS (model prog w) A E s (IZ x y o i j g c d) (λr b=>Sg st₀ b/\Ee (Wl rk x y) (yI rk x y n) (yI rk x y n) r) st:=by
 let W:=h.hi;let L:=h.hj;let X:=h.sz;let (p,G,H,M):=mX h.hj;refine i3 (kW N λF a=>i3 (bM G (i3 (oO C (a.kind.trans B) (R.my p M) R.mx R.sx.drop.take ∎ ∎ λk Y S O=>?_))));dsimp only
 let f:∀v ∈ x.toList.drop (i+k),rk p<=rk v:=λv D=>by
  let (t,Z,K):=lN D;let Q:=(c8.mp K).1;rw [l9] at Q;exact v7 (O (t-i) v ∎ ∎ (by rw [show i+(t-i)=t by omega];exact K))
 refine K8 ?_ λr b (z:b=F/\_)=>{z.1 ▸ a,z.2};by_cases J:k > 0
 ·rw [if_pos J];let m:Mg rk x.toList y.toList (o++x.extract i (i+k)).toList (i+k) j:=by
   rw [m9,xP];exact h.m.takeA R.sx λu P v D=>v8 (S u P) (jQ R.sy H v D)
  by_cases e:(i+k+1 == x.size)=true
  ·rw [if_pos e];exact j7 {rfl,.out (m.lastA R.sx R.sy (beq_iff_eq.mp e) I)}
  rw [if_neg e];by_cases l:(i+k == x.size)=true
  ·rw [if_pos l];exact j7 {rfl,.out (m.doneA R.sy (D4 (beq_iff_eq.mp l).symm))}
  rw [if_neg l];let T:¬ i+k+1=x.size:=λz=>e (beq_iff_eq.mpr z);let U:¬ i+k=x.size:=λz=>l (beq_iff_eq.mpr z);exact Xi C (a.kind.trans B) R I {m,∎,L,by rw [N8];omega} G H f
 ·rw [if_neg J];obtain rfl:k=0:=∎;exact Xi C (a.kind.trans B) R I h G H f
def jP {γ:Type} {D:Array Keyed->Prop} {G:Nat->γ->Prop} {G':γ->Prop} {S:SortSt->Prop} {m:Nat} {f:Nat->(Option (Array Keyed) × γ)->StateT SortSt Sem (ForInStep (Option (Array Keyed) × γ))} {c:γ} {Q:(Option (Array Keyed) × γ)->SortSt->Prop} (v:G 0 c) (u:S st)
  (C:∀t c st,G t c->S st->wpS (model prog w) A E s (f t (none,c)) (λr a=>S a/\Ee D G' (G (t+1)) r) st) (B:∀c,G m c->G' c) (h:∀r c a,S a->En D G' r c->Q (r,c) a):wpS (model prog w) A E s (forIn [0:m] (none,c) f) Q st:=by
 refine D7 (I:=λt c a=>S a/\c.1=none/\G t c.2) (λt c a _ _ z=>?_) (λc a z=>?_) {(u),rfl,v}
 ·let (e,k,b):=z;let (r,c):=c;obtain rfl:r=none:=k;refine K8 (C t c a b e) λr l z=>?_;cases r with
  | done c=>exact h c.1 c.2 l z.1 z.2
  | yield c=>exact z
 ·let (e,k,b):=z;let (r,c):=c;obtain rfl:r=none:=k;rw [Nat.max_eq_right (i5 _)] at b;exact h _ _ _ e (.on (B _ b))
def FI {st₀:SortSt} (C:oJ prog w A E s κ a₀ rk) (b:kindOf st₀=κ) (f:Sg st₀ st) (R:Rn a₀ rk x y) (m:∀p ∈ y.toList,∀q,x.toList[x.size-1]?=some q->rk p<=rk q) (h:Md rk x y o i j n):wpS (model prog w) A E s (JY x y o i j g) (λr a=>Sg st₀ a/\Ee (Wl rk x y) (λ_=>False) (yI rk x y (n+1)) r) st:=by
 refine i3 (jP (D:=Wl rk x y) (G:=λt=>yI rk x y (n+t)) (G':=yI rk x y (n+1)) (S:=λa=>a=st) h rfl (λt c a h e=>?_) (λc h=>h.le (by have:=h.hi;omega)) λr c a e k=>?_)
 ·cases e;exact FJ (O7 (O6 n t)) C (f.kind.trans b) R m h
 cases e;cases k with
 | out h=>exact j7 {f,.out h}
 | on h=>
  refine i3 (Q1 (F1 {rfl,?_}));refine i3 (jP (D:=Wl rk x y) (G:=λ_=>yI rk x y (n+1)) (G':=yI rk x y (n+1)) (S:=Sg st₀) h f (λt c a h e=>?_) (λc h=>h) λr c a e k=>?_)
  ·dsimp only [KB];by_cases u:c.2.2.2.1 > 1
   ·rw [if_pos u];exact Xj C b e R m h
   ·rw [if_neg u];exact Xj C b e R m h
  cases k with
  | out h=>exact j7 {e,.out h}
  | on h=>exact i3 (kW e λv l=>j7 {(l),rfl,h})
def Qi {Q:Array Keyed->SortSt->Prop} (C:oJ prog w A E s κ a₀ rk) (H:kindOf st=κ)
  (J:∀p ∈ x.toList,p ∈ a₀.toList) (N:∀p ∈ y.toList,p ∈ a₀.toList) (l:fK rk x.toList) (u:fK rk y.toList) (T:1<=x.size) (P:1<=y.size)
  (M:∀p,y.toList[0]?=some p->∀q ∈ x.toList,rk p<=rk q) (F:∀p ∈ y.toList,∀q,x.toList[x.size-1]?=some q->rk p<=rk q)
  (h:∀r a,jI rk x.toList y.toList r->Sg st a->Q r a):wpS (model prog w) A E s (AM x y) Q st:=by
 rw [Tt];let (v,I,B,_):=mX (x:=y) (i:=0) ∎;refine i3 (Q1 (F1 {rfl,i3 (bM I ?_)}));let k:Mg rk x.toList y.toList (#[v]:Array Keyed).toList 0 1:=by
  let z:Mg rk x.toList y.toList [] 0 0:={by simp,G9,λ_ h=>(nomatch h),λ_ h=>(nomatch h)};exact z.pushB u B (by rw [K0];exact M v B)
 by_cases f:(1 == y.size)=true
 ·rw [if_pos f];exact j7 (h _ _ (k.doneB l (D4 (beq_iff_eq.mp f).symm)) Sg.refl)
 rw [if_neg f];let K:¬ 1=y.size:=λz=>f (beq_iff_eq.mpr z);by_cases b:(0+1 == x.size)=true
 ·rw [if_pos b];exact j7 (h _ _ (k.lastA l u (beq_iff_eq.mp b) F) Sg.refl)
 rw [if_neg b];let O:¬ 0+1=x.size:=λz=>b (beq_iff_eq.mpr z);refine i3 (J9 (i3 (jP (D:=Wl rk x y) (G:=λt=>yI rk x y (t+1)) (G':=λ_=>False) (S:=Sg st) {k,(by omega:0+1<x.size),(by omega:1<y.size),c9 _} Sg.refl (λt c a h e=>FI C H e {(J),N,l,u} F h) (λc h=>?_) λr c a e L=>?_)))
 ·have:=h.m.len;have:=h.sz;rw [l9,l9,l9] at *;omega
 cases L with
 | out z=>exact j7 (h _ _ z e)
 | on z=>exact z.elim
structure Mh (rk:Keyed->Int) (a b:List Keyed) (o:List Keyed) (n m:Nat):Prop where
 perm:(a.take n++b.take m++o).Perm (a++b)
 srt:fK rk o
 la:∀y ∈ a.take n,∀x ∈ o,rk y<=rk x
 lb:∀y ∈ b.take m,∀x ∈ o,rk y<=rk x
def Mh.len {rk:Keyed->Int} {a b o:List Keyed} {n m:Nat} (h:Mh rk a b o n m):min n a.length+min m b.length+o.length=a.length+b.length:=by
 have:=h.perm.length_eq;simp at this;omega
def oS {a:List Keyed} {i n:Nat} (hi:i<=n):a.take n=a.take i++(a.drop i).take (n-i):=by
 rw [<- Q6];congr 1;omega
def Mh.takeA {rk:Keyed->Int} {a b o:List Keyed} {n m i:Nat} (h:Mh rk a b o n m) (k:fK rk a) (hi:i<=n) (t:∀x ∈ (a.drop i).take (n-i),∀y ∈ b.take m,rk y<=rk x):Mh rk a b ((a.drop i).take (n-i)++o) i m:=by
 let e:=oS (a:=a) hi;let l:fK rk (a.take i++(a.drop i).take (n-i)):=e ▸ k.take;refine {?_,k.drop.take.app h.srt λu z v r=>h.la u (by rw [e];exact j3 _ z) v r,λy f x hx=>?_,λy f x hx=>?_}
 ·refine List.Perm.trans ?_ h.perm;rw [e];have:(b.take m++(a.drop i).take (n-i)).Perm ((a.drop i).take (n-i)++b.take m):=List.perm_append_comm;have:=(this.append_left (a.take i)).append_right o;simpa [p9] using this
 ·rcases j1.mp hx with hx|hx
  ·exact(C4.mp l).2.2 y f x hx
  ·exact h.la y (by rw [e];exact A4 _ f) x hx
 ·rcases j1.mp hx with hx|hx
  ·exact t x hx y f
  ·exact h.lb y f x hx
def Mh.takeB {rk:Keyed->Int} {a b o:List Keyed} {n m j:Nat} (h:Mh rk a b o n m) (k:fK rk b) (r:j<=m) (z:∀x ∈ (b.drop j).take (m-j),∀y ∈ a.take n,rk y<=rk x):Mh rk a b ((b.drop j).take (m-j)++o) n j:=by
 let e:=oS (a:=b) r;let l:fK rk (b.take j++(b.drop j).take (m-j)):=e ▸ k.take;refine {?_,k.drop.take.app h.srt λu B v t=>h.lb u (by rw [e];exact j3 _ B) v t,λy f x hx=>?_,λy f x hx=>?_}
 ·refine List.Perm.trans ?_ h.perm;rw [e];simp [p9]
 ·rcases j1.mp hx with hx|hx
  ·exact z x hx y f
  ·exact h.la y f x hx
 ·rcases j1.mp hx with hx|hx
  ·exact(C4.mp l).2.2 y f x hx
  ·exact h.lb y (by rw [e];exact A4 _ f) x hx
def Mh.pushA {rk:Keyed->Int} {a b o:List Keyed} {n m:Nat} {x:Keyed} (h:Mh rk a b o n m) (k:fK rk a) (r:1<=n) (e:a[n-1]?=some x) (l:∀y ∈ b.take m,rk y<=rk x):Mh rk a b (x::o) (n-1) m:=by
 let z:(a.drop (n-1)).take (n-(n-1))=[x]:=by rw [show n-(n-1)=1 by omega];exact gT e
 have:=h.takeA (i:=n-1) k ∎ (by rw [z];intro u f;cases l6.mp f;exact l);rwa [z] at this
def Mh.pushB {rk:Keyed->Int} {a b o:List Keyed} {n m:Nat} {x:Keyed} (h:Mh rk a b o n m) (f:fK rk b) (r:1<=m) (e:b[m-1]?=some x) (k:∀y ∈ a.take n,rk y<=rk x):Mh rk a b (x::o) n (m-1):=by
 let z:(b.drop (m-1)).take (m-(m-1))=[x]:=by rw [show m-(m-1)=1 by omega];exact gT e
 have:=h.takeB (j:=m-1) f ∎ (by rw [z];intro u l;cases l6.mp l;exact k);rwa [z] at this
def jX {α:Type} {a:Array α} {n:Nat}:(a.extract 0 n).toList=a.toList.take n:=by
 rw [K9,F2];simp
def oC {α:Type} {a:Array α} {i n:Nat}:(a.extract i n).toList=(a.toList.drop i).take (n-i):=by
 rw [K9,F2]
def Mh.doneA {rk:Keyed->Int} {a b:Array Keyed} {o:Array Keyed} {m:Nat} (h:Mh rk a.toList b.toList o.toList.reverse 0 m) (f:fK rk b.toList):jI rk a.toList b.toList (a.extract 0 0++b.extract 0 m++o.reverse):=by
 let e:(a.extract 0 0++b.extract 0 m++o.reverse).toList=b.toList.take m++o.toList.reverse:=by
  rw [m9,m9,jX,jX,F3];simp
 refine {?_,?_}
 ·rw [e];simpa using h.perm
 ·rw [e];exact f.take.app h.srt h.lb
def Mh.doneB {rk:Keyed->Int} {a b:Array Keyed} {o:Array Keyed} {n:Nat} (h:Mh rk a.toList b.toList o.toList.reverse n 0) (f:fK rk a.toList):jI rk a.toList b.toList (a.extract 0 n++b.extract 0 0++o.reverse):=by
 let e:(a.extract 0 n++b.extract 0 0++o.reverse).toList=a.toList.take n++o.toList.reverse:=by
  rw [m9,m9,jX,jX,F3];simp
 refine {?_,?_}
 ·rw [e];simpa using h.perm
 ·rw [e];exact f.take.app h.srt h.la
def Mh.firstB {rk:Keyed->Int} {a b:Array Keyed} {o:Array Keyed} {n:Nat} (h:Mh rk a.toList b.toList o.toList.reverse n 1) (t:fK rk a.toList) (r:fK rk b.toList) (m:∀p,b.toList[0]?=some p->∀q ∈ a.toList,rk p<=rk q):jI rk a.toList b.toList (b.extract 0 1++a.extract 0 n++o.reverse):=by
 let k:(b.extract 0 1++a.extract 0 n++o.reverse).toList=b.toList.take 1++a.toList.take n++o.toList.reverse:=by
  rw [m9,m9,jX,jX,F3]
 refine {?_,?_}
 ·rw [k];exact(List.perm_append_comm.append_right _).trans h.perm
 ·rw [k];refine(r.take.app t.take λu hu v f=>?_).app h.srt λu hu v f=>?_
  ·let (i,l,e):=y6 hu;let z:i=0:=by simp at l;omega
   subst z;refine m u ?_ v (A5 f);have:=c7 l;rw [v5 ∎] at this;rw [this,e]
  ·rcases j1.mp hu with hu|hu
   ·exact h.lb u hu v f
   ·exact h.la u hu v f
noncomputable def Np:Array Keyed->Array Keyed->StateT SortSt Sem (Array Keyed):=sortPriv% PySem.Builtin.mergeHi
abbrev KK:=Option (Array Keyed) × Nat × Nat × Array Keyed × Nat × Nat
abbrev CJ:=Option (Array Keyed) × Nat × Nat × Array Keyed × Nat × Nat × Nat
abbrev KJ:=Option (Array Keyed) × Nat × Nat × Array Keyed × Nat
section
variable (x y:Array Keyed)
noncomputable def Uk (o:Array Keyed) (i j:Nat):=x.extract 0 i++y.extract 0 j++o.reverse
noncomputable def FW (o:Array Keyed) (i j:Nat):=y.extract 0 j++x.extract 0 i++o.reverse
noncomputable def KD (g i j:Nat) (o:Array Keyed) (c d:Nat):StateT SortSt Sem (ForInStep KK):=
 elem' y (j-1) >>= λp=>elem' x (i-1) >>= λq=>lt' p q >>= λr=>match r with
 | some w=>if w=true then elem' x (i-1) >>= λq=>
   if (i-1 == 0)=true then pure (.done (some (Uk x y (o.push q) (i-1) j),i-1,j,o.push q,c+1,0))
   else if c+1 ≥ g then pure (.done (none,i-1,j,o.push q,c+1,0)) else pure (.yield (none,i-1,j,o.push q,c+1,0))
  else elem' y (j-1) >>= λp=>
   if (j-1 == 1)=true then pure (.done (some (FW x y (o.push p) i (j-1)),i,j-1,o.push p,0,d+1))
   else if d+1 ≥ g then pure (.done (none,i,j-1,o.push p,0,d+1)) else pure (.yield (none,i,j-1,o.push p,0,d+1))
 | _=>pure (.done (some (Uk x y o i j),i,j,o,c,d))
noncomputable def JE (i j:Nat) (o:Array Keyed) (g c d:Nat):StateT SortSt Sem (ForInStep CJ):=
 elem' x (i-1) >>= λq=>
 if (i-1 == 0)=true then pure (.done (some (Uk x y (o.push q) (i-1) j),i-1,j,o.push q,g,c,d))
 else if (c<7 && d<7)=true then pure (.done (none,i-1,j,o.push q,g,c,d)) else pure (.yield (none,i-1,j,o.push q,g,c,d))
noncomputable def KE (i j:Nat) (o:Array Keyed) (g c d:Nat):StateT SortSt Sem (ForInStep CJ):=
 elem' x (i-1) >>= λq=>fC true q y 0 j (j-1) >>= λr=>match r with
 | some t=>if j-t > 0 then
   if (t == 1)=true then pure (.done (some (FW x y (o++(y.extract t j).reverse) i t),i,t,o++(y.extract t j).reverse,g,c,j-t))
   else if (t == 0)=true then pure (.done (some (Uk x y (o++(y.extract t j).reverse) i t),i,t,o++(y.extract t j).reverse,g,c,j-t))
   else JE x y i t (o++(y.extract t j).reverse) g c (j-t)
  else JE x y i j o g c (j-t)
 | _=>pure (.done (some (Uk x y o i j),i,j,o,g,c,d))
noncomputable def JF (i j:Nat) (o:Array Keyed) (g c d:Nat):StateT SortSt Sem (ForInStep CJ):=
 elem' y (j-1) >>= λp=>
 if (j-1 == 1)=true then pure (.done (some (FW x y (o.push p) i (j-1)),i,j-1,o.push p,g,c,d)) else KE x y i (j-1) (o.push p) g c d
noncomputable def JG (i j:Nat) (o:Array Keyed) (g c d:Nat):StateT SortSt Sem (ForInStep CJ):=
 sF g >>= λ_=>elem' y (j-1) >>= λp=>fC false p x 0 i (i-1) >>= λr=>match r with
 | some t=>if i-t > 0 then
   if (t == 0)=true then pure (.done (some (Uk x y (o++(x.extract t i).reverse) t j),t,j,o++(x.extract t i).reverse,g,i-t,d))
   else JF x y t j (o++(x.extract t i).reverse) g (i-t) d
  else JF x y i j o g (i-t) d
 | _=>pure (.done (some (Uk x y o i j),i,j,o,g,c,d))
noncomputable def KG (i j:Nat) (o:Array Keyed) (g c d:Nat):StateT SortSt Sem (ForInStep CJ):=if g > 1 then JG x y i j o (g-1) c d else JG x y i j o g c d
noncomputable def KC (i j:Nat) (o:Array Keyed) (g:Nat):StateT SortSt Sem (ForInStep KJ):=do
 let c <- forIn [0:x.size+y.size] ((none,i,j,o,0,0):KK) λ_ c=>KD x y g c.2.1 c.2.2.1 c.2.2.2.1 c.2.2.2.2.1 c.2.2.2.2.2
 match c.1 with
 | some r=>pure (.done (some r,c.2.1,c.2.2.1,c.2.2.2.1,g))
 | none=>do
  liftM (rule "list.sort.gallop")
  let c <- forIn [0:x.size+y.size] ((none,c.2.1,c.2.2.1,c.2.2.2.1,g+1,c.2.2.2.2.1,c.2.2.2.2.2):CJ) λ_ c=>KG x y c.2.1 c.2.2.1 c.2.2.2.1 c.2.2.2.2.1 c.2.2.2.2.2.1 c.2.2.2.2.2.2
  match c.1 with
  | some r=>pure (.done (some r,c.2.1,c.2.2.1,c.2.2.2.1,c.2.2.2.2.1))
  | none=>do
   sF (c.2.2.2.2.1+1)
   pure (.yield (none,c.2.1,c.2.2.1,c.2.2.2.1,c.2.2.2.2.1+1))
def No:Np x y=(do
  liftM (rule "list.sort.merge-hi")
  let q <- elem' x (x.size-1)
  if (x.size-1 == 0)=true then pure (Uk x y #[q] (x.size-1) y.size) else if (y.size == 1)=true then pure (FW x y #[q] (x.size-1) y.size) else do
  let st <- get
  let c <- forIn [0:x.size+y.size] ((none,x.size-1,y.size,#[q],gallopOf st):KJ) λ_ c=>KC x y c.2.1 c.2.2.1 c.2.2.2.1 c.2.2.2.2
  match c.1 with
  | some r=>pure r
  | none=>do unsupported "internal:list.sort.merge-bound"):=by
 refine congrArg (bind _) (funext λ_=>congrArg (bind _) (funext λp=>?_));dsimp only
 refine congr (congrArg (@ite _ _ _) rfl) (congr (congrArg (@ite _ _ _) rfl) (congrArg (bind _) (funext λst=>congr (congrArg bind (congrArg (forIn _ _) (funext λn=>funext λc=>congrArg (bind _) (funext λc=>?_)))) (funext λc=>?_))))
 ·let (r,c):=c;cases r with
  | some r=>rfl
  | none=>
   refine congrArg (bind _) (funext λ_=>congrArg (bind _) (funext λc=>?_));let (r,c):=c;cases r <;> rfl
 ·let (r,c):=c;cases r <;> rfl
end
def kY {l:List Keyed} {n:Nat} {y:Keyed} (h:y ∈ l.take n):∃k,k<n/\l[k]?=some y:=by
 let (k,b,e):=y6 h;let a:k<n:=by simp at b;omega
 refine {k,a,?_};have:=c7 b;rw [v5 a] at this;rw [this,e]
def kZ {l:List Keyed} {n:Nat} {x:Keyed} (f:fK rk l) (e:l[n-1]?=some x):∀y ∈ l.take n,rk y<=rk x:=λy b=>by
 let (k,u,a):=kY b
 let (t,r):=c8.mp e
 let (m,h):=c8.mp a
 rcases G8 (show k<=n-1 by omega) with z|z
 ·subst z;rw [e] at a;cases a;exact j0 _
 ·rw [<- r,<- h];exact t4.mp f k (n-1) m t z
def De {l:List Keyed} {i n:Nat} {y:Keyed} (h:y ∈ (l.drop i).take (n-i)):∃k,i<=k/\k<n/\l[k]?=some y:=by
 let (k,a,e):=kY h;rw [p7] at e;exact {i+k,∎,∎,e}
structure Nd (rk:Keyed->Int) (x y:Array Keyed) (i j:Nat) (o:Array Keyed) (n:Nat):Prop where
 m:Mh rk x.toList y.toList o.toList.reverse i j
 i1:1<=i
 ix:i<=x.size
 j2:2<=j
 jy:j<=y.size
 sz:n<=o.size
variable {x y o:Array Keyed} {i j n g c d:Nat} {st:SortSt} {p q:Keyed}
abbrev yJ {β:Type} (rk:Keyed->Int) (x y:Array Keyed) (n:Nat):Nat × Nat × Array Keyed × β->Prop:=λc=>Nd rk x y c.1 c.2.1 c.2.2.1 n
def Nd.a (h:Nd rk x y i j o n) (R:Rn a₀ rk x y) (e:x.toList[i-1]?=some q) (l:∀v ∈ y.toList.take j,rk v<=rk q):(i-1=0->Wl rk x y (Uk x y (o.push q) (i-1) j))/\(¬ i-1=0->Nd rk x y (i-1) j (o.push q) (n+1)):=by
 let m:Mh rk x.toList y.toList (o.push q).toList.reverse (i-1) j:=by
  rw [N7,L6];exact h.m.pushA R.sx h.i1 e l
 let f:=h.ix;let b:=h.sz;exact {λz=>by rw [z] at m ⊢;exact m.doneA R.sy,λz=>{m,∎,∎,h.j2,h.jy,by rw [M0];omega}}
def Nd.b (h:Nd rk x y i j o n) (R:Rn a₀ rk x y) (a:∀p,y.toList[0]?=some p->∀q ∈ x.toList,rk p<=rk q) (e:y.toList[j-1]?=some p) (l:∀v ∈ x.toList.take i,rk v<=rk p):(j-1=1->Wl rk x y (FW x y (o.push p) i (j-1)))/\(¬ j-1=1->Nd rk x y i (j-1) (o.push p) (n+1)):=by
 let k:=h.j2;let m:Mh rk x.toList y.toList (o.push p).toList.reverse i (j-1):=by
  rw [N7,L6];exact h.m.pushB R.sy ∎ e l
 let f:=h.jy;let r:=h.sz;exact {λz=>by rw [z] at m ⊢;exact m.firstB R.sx R.sy a,λz=>{m,h.i1,h.ix,∎,∎,by rw [M0];omega}}
def Nd.le {a:Nat} (h:Nd rk x y i j o n) (l:a<=n):Nd rk x y i j o a:={h.m,h.i1,h.ix,h.j2,h.jy,l7 l h.sz}
def AW {k:Nat} (D:k<=n+1) (C:oJ prog w A E s κ a₀ rk) (G:kindOf st=κ) (R:Rn a₀ rk x y) (H:∀p,y.toList[0]?=some p->∀q ∈ x.toList,rk p<=rk q) (h:Nd rk x y i j o n):wpS (model prog w) A E s (KD x y g i j o c d) (λr t=>t=st/\Ee (Wl rk x y) (yJ rk x y k) (yJ rk x y (n+1)) r) st:=by
 let (p,F,B,I):=mX (x:=y) (i:=j-1) (by have:=h.j2;have:=h.jy;omega);let (q,v,u,J):=mX (x:=x) (i:=i-1) (by have:=h.i1;have:=h.ix;omega);refine i3 (bM F (i3 (bM v (i3 (C.lt (R.my p I) (R.mx q J) G ?_)))));dsimp only
 by_cases e:rk p<rk q
 ·rw [if_pos (decide_eq_true e)];let (f,m):=h.a R u λz l=>v8 (kZ R.sy B z l) (v7 e);exact i3 (bM v (lW f m (λ_ z=>z.le D) beq_iff_eq))
 ·rw [if_neg (by simpa using e)];let (f,m):=h.b R H B λz l=>v8 (kZ R.sx u z l) (M9.mp e);exact i3 (bM F (lW f m (λ_ z=>z.le D) beq_iff_eq))
def Nl (R:Rn a₀ rk x y) (h:Nd rk x y i j o n) (k:x[i-1]?=some q) (f:x.toList[i-1]?=some q) (l:∀v ∈ y.toList.take j,rk v<=rk q):wpS (model prog w) A E s (JE x y i j o g c d) (λr b=>b=st/\Ee (Wl rk x y) (yJ rk x y n) (yJ rk x y n) r) st:=by
 let (e,m):=h.a R f l;exact i3 (bM k (lW e (λz=>(m z).le (F6 _)) (λ_ z=>z) beq_iff_eq))
def AX (C:oJ prog w A E s κ a₀ rk) (I:kindOf st=κ) (R:Rn a₀ rk x y) (N:∀p,y.toList[0]?=some p->∀q ∈ x.toList,rk p<=rk q) (h:Nd rk x y i j o n):wpS (model prog w) A E s (KE x y i j o g c d) (λr B=>B=st/\Ee (Wl rk x y) (yJ rk x y n) (yJ rk x y n) r) st:=by
 let (J,L,K,W,X,U):=id h;let (q,D,f,T):=mX (x:=x) (i:=i-1) ∎;refine i3 (bM D (i3 (oP C I (R.mx q T) R.my R.sy.drop.take ∎ ∎ λt M S P=>?_)));dsimp only
 let a:∀v ∈ y.toList.take t,rk v<=rk q:=λv l=>v7 (S v (by rw [K0];exact l));by_cases H:j-t > 0
 ·rw [if_pos H];let m:Mh rk x.toList y.toList (o++(y.extract t j).reverse).toList.reverse i t:=by
   rw [m9,L6,F3,List.reverse_reverse,oC];refine J.takeB R.sy M λu Q v l=>?_;let (k,F,G,O):=De Q;exact v8 (kZ R.sx f v l) (P k u F G (by rw [P6];exact O))
  by_cases e:(t == 1)=true
  ·rw [if_pos e];refine j7 {rfl,.out ?_};rw [beq_iff_eq.mp e] at m ⊢;exact m.firstB R.sx R.sy N
  rw [if_neg e];by_cases b:(t == 0)=true
  ·rw [if_pos b];refine j7 {rfl,.out ?_};rw [beq_iff_eq.mp b] at m ⊢;exact m.doneB R.sx
  rw [if_neg b];let F:¬ t=1:=λz=>e (beq_iff_eq.mpr z);let G:¬ t=0:=λz=>b (beq_iff_eq.mpr z);exact Nl R {m,L,K,∎,∎,by rw [N8];omega} D f a
 ·rw [if_neg H];obtain rfl:t=j:=∎;exact Nl R h D f a
def Nm (C:oJ prog w A E s κ a₀ rk) (k:kindOf st=κ) (R:Rn a₀ rk x y) (f:∀p,y.toList[0]?=some p->∀q ∈ x.toList,rk p<=rk q) (h:Nd rk x y i j o n) (ep:y[j-1]?=some p) (u:y.toList[j-1]?=some p) (l:∀v ∈ x.toList.take i,rk v<=rk p):wpS (model prog w) A E s (JF x y i j o g c d) (λr a=>a=st/\Ee (Wl rk x y) (yJ rk x y n) (yJ rk x y n) r) st:=by
 let (m,t):=h.b R f u l;refine i3 (bM ep ?_);by_cases e:(j-1 == 1)=true
 ·rw [if_pos e];exact j7 {rfl,.out (m (beq_iff_eq.mp e))}
 ·rw [if_neg e];exact AX C k R f ((t λz=>e (beq_iff_eq.mpr z)).le (F6 _))
def Nn {st₀:SortSt} (C:oJ prog w A E s κ a₀ rk) (l:kindOf st₀=κ) (Q:Sg st₀ st) (R:Rn a₀ rk x y) (J:∀p,y.toList[0]?=some p->∀q ∈ x.toList,rk p<=rk q) (h:Nd rk x y i j o n):wpS (model prog w) A E s (JG x y i j o g c d) (λr b=>Sg st₀ b/\Ee (Wl rk x y) (yJ rk x y n) (yJ rk x y n) r) st:=by
 let (K,Y,X,M,W,Z):=id h;let (p,F,G,P):=mX (x:=y) (i:=j-1) ∎;refine i3 (kW Q λD a=>i3 (bM F (i3 (oO C (a.kind.trans l) (R.my p P) R.mx R.sx.drop.take ∎ ∎ λt N U S=>?_))));dsimp only
 let f:∀v ∈ x.toList.take t,rk v<=rk p:=λv B=>U v (by rw [K0];exact B);refine K8 ?_ λr b (z:b=D/\_)=>{z.1 ▸ a,z.2};by_cases I:i-t > 0
 ·rw [if_pos I];let m:Mh rk x.toList y.toList (o++(x.extract t i).reverse).toList.reverse t j:=by
   rw [m9,L6,F3,List.reverse_reverse,oC];refine K.takeA R.sx N λu T v B=>?_;let (k,H,L,O):=De T;exact v8 (kZ R.sy G v B) (v7 (S k u H L (by rw [P6];exact O)))
  by_cases e:(t == 0)=true
  ·rw [if_pos e];refine j7 {rfl,.out ?_};rw [beq_iff_eq.mp e] at m ⊢;exact m.doneA R.sy
  rw [if_neg e];let H:¬ t=0:=λz=>e (beq_iff_eq.mpr z);exact Nm C (a.kind.trans l) R J {m,∎,∎,M,W,by rw [N8];omega} F G f
 ·rw [if_neg I];obtain rfl:t=i:=∎;exact Nm C (a.kind.trans l) R J h F G f
def AV {st₀:SortSt} (C:oJ prog w A E s κ a₀ rk) (b:kindOf st₀=κ) (k:Sg st₀ st) (R:Rn a₀ rk x y) (f:∀p,y.toList[0]?=some p->∀q ∈ x.toList,rk p<=rk q) (h:Nd rk x y i j o n):wpS (model prog w) A E s (KC x y i j o g) (λr a=>Sg st₀ a/\Ee (Wl rk x y) (λ_=>False) (yJ rk x y (n+1)) r) st:=by
 refine i3 (jP (D:=Wl rk x y) (G:=λt=>yJ rk x y (n+t)) (G':=yJ rk x y (n+1)) (S:=λa=>a=st) h rfl (λt c a h e=>?_) (λc h=>h.le (by have:=h.i1;have:=h.ix;omega)) λr c a e l=>?_)
 ·cases e;exact AW (O7 (O6 n t)) C (k.kind.trans b) R f h
 cases e;cases l with
 | out h=>exact j7 {k,.out h}
 | on h=>
  refine i3 (Q1 (F1 {rfl,?_}));refine i3 (jP (D:=Wl rk x y) (G:=λ_=>yJ rk x y (n+1)) (G':=yJ rk x y (n+1)) (S:=Sg st₀) h k (λt c a h e=>?_) (λc h=>h) λr c a e l=>?_)
  ·dsimp only [KG];by_cases u:c.2.2.2.1 > 1
   ·rw [if_pos u];exact Nn C b e R f h
   ·rw [if_neg u];exact Nn C b e R f h
  cases l with
  | out h=>exact j7 {e,.out h}
  | on h=>exact i3 (kW e λv m=>j7 {(m),rfl,h})
def Ho {Q:Array Keyed->SortSt->Prop} (C:oJ prog w A E s κ a₀ rk) (I:kindOf st=κ)
  (L:∀p ∈ x.toList,p ∈ a₀.toList) (T:∀p ∈ y.toList,p ∈ a₀.toList) (l:fK rk x.toList) (u:fK rk y.toList) (P:1<=x.size) (W:1<=y.size)
  (F:∀p,y.toList[0]?=some p->∀q ∈ x.toList,rk p<=rk q) (J:∀p ∈ y.toList,∀q,x.toList[x.size-1]?=some q->rk p<=rk q)
  (h:∀r a,jI rk x.toList y.toList r->Sg st a->Q r a):wpS (model prog w) A E s (Np x y) Q st:=by
 rw [No];let (B,K,H,_):=mX (x:=x) (i:=x.size-1) ∎;refine i3 (Q1 (F1 {rfl,i3 (bM K ?_)}));let b:Mh rk x.toList y.toList (#[B]:Array Keyed).toList.reverse (x.size-1) y.size:=by
  let z:Mh rk x.toList y.toList [] x.size y.size:={by rw [p8 (by simp),p8 (by simp)];simp,G9,λ_ _ _ h=>(nomatch h),λ_ _ _ h=>(nomatch h)};exact z.pushA l P H λv M=>J v (A5 M) B H
 by_cases k:(x.size-1 == 0)=true
 ·rw [if_pos k];rw [beq_iff_eq.mp k] at b ⊢;exact j7 (h _ _ (b.doneA u) Sg.refl)
 rw [if_neg k];let N:¬ x.size-1=0:=λz=>k (beq_iff_eq.mpr z);by_cases f:(y.size == 1)=true
 ·rw [if_pos f];rw [beq_iff_eq.mp f] at b ⊢;exact j7 (h _ _ (b.firstB l u F) Sg.refl)
 rw [if_neg f];let U:¬ y.size=1:=λz=>f (beq_iff_eq.mpr z);refine i3 (J9 (i3 (jP (D:=Wl rk x y) (G:=λt=>yJ rk x y (t+1)) (G':=λ_=>False) (S:=Sg st) {b,(by omega:1<=x.size-1),(by omega:x.size-1<=x.size),(by omega:2<=y.size),c9 _,c9 _} Sg.refl (λt c a h e=>AV C I e {(L),T,l,u} F h) (λc h=>?_) λr c a e O=>?_)))
 ·have:=h.m.len;have:=h.sz;have:=h.i1;have:=h.j2;have:=h.ix;have:=h.jy;rw [List.length_reverse,l9,l9,l9] at *;omega
 cases O with
 | out z=>exact j7 (h _ _ z e)
 | on z=>exact z.elim
def dd {α:Type} (l:List α) (a b:Nat):l.drop (a+b)=(l.drop a).drop b:=by rw [C8]
theorem Kv {α:Type} (b:Nat):∀(m:List α) (a:Array α) (j:Nat),b+j+m.length<=a.size ->
  ((m.zipIdx j).foldl (λa (x:α × Nat)=>match x with|(p,i)=>a.setIfInBounds (b+i) p) a).toList=a.toList.take (b+j)++(m++a.toList.drop (b+j+m.length))
 | [],a,j,h=>by simp
 | p::r,a,j,h=>by
  rw [List.zipIdx_cons,List.foldl_cons]
  simp only [j9] at h
  rw [Kv b r _ (j+1) (by simp;omega)]
  simp only [Array.toList_setIfInBounds,j9]
  let c:b+j<a.toList.length:=by simp;omega
  rw [show b+(j+1)=b+j+1 by omega]
  let e:(a.toList.set (b+j) p).take (b+j+1)=a.toList.take (b+j)++[p]:=by
   rw [List.take_set,List.take_succ_eq_append_getElem c,List.set_append_right _ _ (by simp;omega)];simp [y0 (B5 c)];have:b+j-min (b+j) a.size=0:=by simp at c;omega
   rw [this];rfl
  let d:(a.toList.set (b+j) p).drop (b+j+1+r.length)=a.toList.drop (b+j+(r.length+1)):=by
   rw [List.drop_set_of_lt ∎];congr 1;omega
  rw [e,d];simp
def Se {α:Type} (l r:List α) {a na b k m:Nat} (c:k<=na) (d:m<=b):l.take (a+k)++(r++l.drop (a+k+(na-k+m)))=l.take a++((((l.drop a).take na).take k++(r++((l.drop (a+na)).take b).drop m))++l.drop (a+na+b)):=by
 rw [Q6,N1,y0 c,p9,p9,p9];congr 3;rw [List.drop_take,C8,show a+k+(na-k+m)=a+na+m by omega];rw [show a+na+b=(a+na+m)+(b-m) by omega,dd _ (a+na+m) (b-m),z9]
def tR {xs:Array Keyed} {lo hi:Nat} (a:hi<=xs.size):((xs.toList.drop lo).take (hi-lo)).length=hi-lo:=by rw [l0,C3,l9,y0 (Nat.sub_le_sub_right a lo)]
def Bs {rk:Keyed->Int} {xs:Array Keyed} {lo hi:Nat} (c:hi<=xs.size) (h:lR rk xs lo hi):fK rk ((xs.toList.drop lo).take (hi-lo)):=by
 refine t4.mpr λi j d a b=>?_;let e:=tR c ▸ a;have:=h (lo+i) (lo+j) ∎ ∎ ∎;rw [iN (p:=xs[lo+i]'∎) (r9 ∎),iN (p:=xs[lo+j]'∎) (r9 ∎)] at this;simpa using this
def tK {rk:Keyed->Int} {xs:Array Keyed} {lo hi:Nat} (c:hi<=xs.size) (h:fK rk ((xs.toList.drop lo).take (hi-lo))):lR rk xs lo hi:=by
 intro i j b a d;rcases G8 a with z|z
 ·subst z;exact j0 _
 ·have:=t4.mp h (i-lo) (j-lo) (by rw [tR c];omega) (by rw [tR c];omega) ∎;rw [iN (p:=xs[i]'∎) (r9 ∎),iN (p:=xs[j]'∎) (r9 ∎)];simpa [J4 b,J4 (l7 b a)] using this
section
variable {M:Model} {σ:Type}
def Qh {t:σ} {Q:PUnit->σ->Prop} {st:σ} (h:Q ⟨⟩ t):wpS M A E s (set t:StateT σ Sem PUnit) Q st:=by
 unfold wpS;rw [StateT.run_set];exact g9 {(rfl),h}
end
def xA (i:Nat):mergeAt' i=(do
  let t <- get
  let (some (sa,na,pw),some (sb,nb,_)):=((pendingOf t)[i]?,(pendingOf t)[i+1]?)|unsupported "internal:list.sort.pending"
  set (SortSt.mk' (kindOf t) (arrOf t) (((pendingOf t).setIfInBounds i (sa,na+nb,pw)).eraseIdxIfInBounds (i+1)) (gallopOf t) (failedOf t))
  let some k <- fC false (<- elem' (arrOf t) sb) (arrOf t) sa na 0|return false
  let (sa,na):=(sa+k,na-k)
  if na == 0 then return true
  let some nb <- fC true (<- elem' (arrOf t) (sa+na-1)) (arrOf t) sb nb (nb-1)|return false
  if nb == 0 then return true
  let x:=(arrOf t).extract sa sb
  let y:=(arrOf t).extract sb (sb+nb)
  let b <- if na<=nb then AM x y else Np x y
  modify λt=>setArr t (b.toList.zipIdx.foldl (λa (p,j)=>a.setIfInBounds (sa+j) p) (arrOf t))
  return (failedOf (<- get)).isNone):=rfl
def merged_ok {a a':Array Keyed} {T c AB' D:List Keyed} {lo hi:Nat} (e:a.toList=T++(c++D)) (b:a'.toList=T++(AB'++D)) (h:AB'.Perm c) (i:fK rk AB') (g:T.length=lo) (f:c.length=hi-lo) (l:lo<=hi):
  a'.Perm a/\lR rk a' lo hi/\∀k,(k<lo\/hi<=k)->a'[k]?=a[k]?:=by
 let d:AB'.length=hi-lo:=h.length_eq.trans f;let j:hi<=a'.size:=by
  have:=congrArg List.length b;simp at this;omega
 refine {L4.mpr ?_,tK j ?_,λk hk=>?_}
 ·rw [e,b];exact(h.append_right D).append_left T
 ·rw [b,<- g,List.drop_left,g,<- d,List.take_left];exact i
 ·rw [<- P1,<- P1,e,b];rcases hk with hk|hk
  ·rw [w5 ∎,w5 ∎]
  ·rw [y7 ∎,y7 ∎,y7 ∎,y7 ∎,d,f]
def vB {st:SortSt} {i sa na pa sb nb pb:Nat} {Q:Bool->SortSt->Prop} (C:oJ prog w A E s κ a₀ rk) (hB:SB κ a₀ st)
  (p1:(pendingOf st)[i]?=some (sa,na,pa)) (p2:(pendingOf st)[i+1]?=some (sb,nb,pb)) (es:sb=sa+na) (hz:sb+nb<=a₀.size) (h1:1<=na) (h2:1<=nb) (s1:lR rk (arrOf st) sa sb) (s2:lR rk (arrOf st) sb (sb+nb))
  (h:∀st',SB κ a₀ st'->pendingOf st'=((pendingOf st).setIfInBounds i (sa,na+nb,pa)).eraseIdxIfInBounds (i+1)->lR rk (arrOf st') sa (sb+nb)->(∀k,(k<sa\/sb+nb<=k)->(arrOf st')[k]?=(arrOf st)[k]?)->Q true st'):
  wpS (model prog w) A E s (mergeAt' i) Q st:=by
 rw [xA];refine i3 (J9 ?_);rw [p1,p2];dsimp only
 refine i3 (Qh ?_);let hsz:(arrOf st).size=a₀.size:=hB.size;let mem:∀x ∈ (arrOf st).toList,x ∈ a₀.toList:=λx hx=>(L4.mp hB.perm).mem_iff.mp hx;let (b0,e0,f0,g0):=mX (x:=arrOf st) (i:=sb) ∎;let S1:=Bs ∎ s1;let S2:=Bs ∎ s2;rw [show sb-sa=na by omega] at S1;rw [show sb+nb-sb=nb by omega] at S2;let sz:(arrOf st).toList.length=a₀.size:=by simpa using hsz
 let lA:(((arrOf st).toList.drop sa).take na).length=na:=by rw [l0,C3,sz,y0 ∎]
 let lB:(((arrOf st).toList.drop sb).take nb).length=nb:=by rw [l0,C3,sz,y0 ∎]
 let b0B:∀v ∈ ((arrOf st).toList.drop sb).take nb,rk b0<=rk v:=by
  obtain⟨nb',rfl⟩:∃n,nb=n+1:={nb-1,∎};let hlt:sb<(arrOf st).toList.length:=∎;rw [A6 hlt,List.take_succ_cons] at S2 ⊢;rw [c7 hlt] at f0;cases f0;intro v hv;rcases g8.mp hv with rfl|hv
  ·exact j0 _
  ·exact(v9.mp S2).1 v hv
 refine i3 (bM e0 ?_);refine i3 (oO C hB.kind (mem b0 g0) mem S1 ∎ ∎ λk k1 k2 k3=>?_);dsimp only
 by_cases c1:(na-k == 0)=true
 ·rw [if_pos c1];let ek:k=na:=by have:=beq_iff_eq.mp c1;omega
  subst ek;refine j7 (h _ {(hB.perm),hB.kind,hB.failed} rfl ?_ λ_ _=>rfl);refine tK (by rw [show (arrOf (SortSt.mk' (kindOf st) (arrOf st) (((pendingOf st).setIfInBounds i (sa,k+nb,pa)).eraseIdxIfInBounds (i+1)) (gallopOf st) (failedOf st)))=arrOf st from rfl];omega) ?_;show fK rk (((arrOf st).toList.drop sa).take (sb+nb-sa));rw [show sb+nb-sa=k+nb by omega,Q6,C8,<- es];exact S1.app S2 λu hu v hv=>v8 (k2 u hu) (b0B v hv)
 rw [if_neg c1];let hk:k<na:=by
  have:¬ na-k=0:=λz=>c1 (beq_iff_eq.mpr z);omega
 let ix:sa+k+(na-k)=sb:=by rw [es,Nat.add_assoc,J4 k1]
 let (a1,e1,fa1,g1):=mX (x:=arrOf st) (i:=sb-1) ∎;rw [ix];let lastA:∀v ∈ ((arrOf st).toList.drop sa).take na,rk v<=rk a1:=λv hv=>by
  let (t,t1,t2):=kY hv;rw [p7] at t2;have:=s1 (sa+t) (sb-1) ∎ ∎ ∎;rwa [iN (show (arrOf st)[sa+t]?=some v by simpa using t2),iN (show (arrOf st)[sb-1]?=some a1 by simpa using fa1)] at this
 refine i3 (bM e1 ?_);refine i3 (oP C hB.kind (mem a1 g1) mem S2 ∎ ∎ λm m1 m2 m3=>?_);dsimp only
 let hiB:∀v ∈ ((arrOf st).toList.drop (sb+m)).take (nb-m),rk a1<=rk v:=λv hv=>by
  let (t,t1,t2):=kY hv;rw [p7] at t2;exact m3 (m+t) v ∎ ∎ (by rw [<- t2];congr 1;omega)
 by_cases c2:(m == 0)=true
 ·rw [if_pos c2];let em:m=0:=beq_iff_eq.mp c2;subst em;refine j7 (h _ {(hB.perm),hB.kind,hB.failed} rfl ?_ λ_ _=>rfl);refine tK (by show sb+nb<=(arrOf st).size;omega) ?_;show fK rk (((arrOf st).toList.drop sa).take (sb+nb-sa));rw [show sb+nb-sa=na+nb by omega,Q6,C8,<- es];exact S1.app S2 λu hu v hv=>v8 (lastA u hu) (hiB v hv)
 rw [if_neg c2];let hm:1<=m:=by
  have:¬ m=0:=λz=>c2 (beq_iff_eq.mpr z);omega
 let xl:((arrOf st).extract (sa+k) sb).toList=(((arrOf st).toList.drop sa).take na).drop k:=by
  rw [oC,List.drop_take,C8];congr 1;omega
 let yl:((arrOf st).extract sb (sb+m)).toList=(((arrOf st).toList.drop sb).take nb).take m:=by
  rw [oC,N1];congr 1;omega
 let dec:(arrOf st).toList=(arrOf st).toList.take sa++((((arrOf st).toList.drop sa).take na++((arrOf st).toList.drop sb).take nb)++(arrOf st).toList.drop (sb+nb)):=by
  rw [p9,dd _ sb nb,z9];rw [show (arrOf st).toList.drop sb=((arrOf st).toList.drop sa).drop na by rw [C8,es],z9,z9]
 have post:∀(r:Array Keyed) (st':SortSt),jI rk ((arrOf st).extract (sa+k) sb).toList ((arrOf st).extract sb (sb+m)).toList r ->
   Sg (SortSt.mk' (kindOf st) (arrOf st) (((pendingOf st).setIfInBounds i (sa,na+nb,pa)).eraseIdxIfInBounds (i+1)) (gallopOf st) (failedOf st)) st' ->
   Q true (setArr st' (r.toList.zipIdx.foldl (λa (x:Keyed × Nat)=>match x with|(p,j)=>a.setIfInBounds (sa+k+j) p) (arrOf st'))):=by
  intro r st' hW hS;let arr:arrOf st'=arrOf st:=hS.arr;let (wp,ws):=hW;rw [xl,yl] at wp;let rl:r.toList.length=(na-k)+m:=by
   rw [wp.length_eq,i7,C3,lA,l0,lB,y0 m1]
  have e':(r.toList.zipIdx.foldl (λa (x:Keyed × Nat)=>match x with|(p,j)=>a.setIfInBounds (sa+k+j) p) (arrOf st)).toList =
    (arrOf st).toList.take sa++(((((arrOf st).toList.drop sa).take na).take k++(r.toList++(((arrOf st).toList.drop sb).take nb).drop m))++(arrOf st).toList.drop (sb+nb)):=by
   rw [Kv (sa+k) r.toList (arrOf st) 0 (by rw [rl];omega),rl,Nat.add_zero,Se _ _ k1 m1,es]
  let hsub:∀u ∈ r.toList,u ∈ (((arrOf st).toList.drop sa).take na).drop k\/u ∈ (((arrOf st).toList.drop sb).take nb).take m:=λu hu=>j1.mp (wp.mem_iff.mp hu);let hperm:((((arrOf st).toList.drop sa).take na).take k++(r.toList++(((arrOf st).toList.drop sb).take nb).drop m)).Perm (((arrOf st).toList.drop sa).take na++((arrOf st).toList.drop sb).take nb):=by
   let e1:((arrOf st).toList.drop sa).take na=(((arrOf st).toList.drop sa).take na).take k++(((arrOf st).toList.drop sa).take na).drop k:=(z9 k _).symm;let e2:((arrOf st).toList.drop sb).take nb=(((arrOf st).toList.drop sb).take nb).take m++(((arrOf st).toList.drop sb).take nb).drop m:=(z9 m _).symm
   conv=>rhs;rw [e1,e2]
   rw [p9];refine List.Perm.append_left _ ?_;rw [<- p9];exact wp.append_right _
  let hsrt:fK rk ((((arrOf st).toList.drop sa).take na).take k++(r.toList++(((arrOf st).toList.drop sb).take nb).drop m)):=by
   refine S1.take.app (ws.app S2.drop λu hu v hv=>?_) λu hu v hv=>?_
   ·let hv':v ∈ ((arrOf st).toList.drop (sb+m)).take (nb-m):=by rwa [List.drop_take,C8] at hv
    rcases hsub u hu with z|z
    ·exact v8 (lastA u (D8 z)) (hiB v hv')
    ·exact v8 (v7 (m2 u (by rwa [N1,y0 m1] at z))) (hiB v hv')
   ·let hu':rk u<=rk b0:=k2 u (by rwa [N1,y0 k1] at hu);rcases j1.mp hv with z|z
    ·rcases hsub v z with z|z
     ·let e1:((arrOf st).toList.drop sa).take na=(((arrOf st).toList.drop sa).take na).take k++(((arrOf st).toList.drop sa).take na).drop k:=(z9 k _).symm;rw [e1] at S1;exact(C4.mp S1).2.2 u hu v z
     ·exact v8 hu' (b0B v (A5 z))
    ·exact v8 hu' (b0B v (D8 z))
  let (g1,g2,g3):=merged_ok (rk:=rk) (lo:=sa) (hi:=sb+nb) dec e' hperm hsrt (by rw [l0,sz,y0 ∎]) (by rw [i7,lA,lB];omega) ∎;refine h _ {?_,hS.kind.trans hB.kind,hS.failed.trans hB.failed} (hS.pend) ?_ ?_
  ·show (r.toList.zipIdx.foldl _ (arrOf st')).Perm a₀;rw [arr];exact g1.trans hB.perm
  ·show lR rk (r.toList.zipIdx.foldl _ (arrOf st')) _ _;rw [arr];exact g2
  ·show ∀k',_->(r.toList.zipIdx.foldl _ (arrOf st'))[k']?=_;rw [arr];exact g3
 have fin:∀(r:Array Keyed) (st':SortSt),jI rk ((arrOf st).extract (sa+k) sb).toList ((arrOf st).extract sb (sb+m)).toList r ->
   Sg (SortSt.mk' (kindOf st) (arrOf st) (((pendingOf st).setIfInBounds i (sa,na+nb,pa)).eraseIdxIfInBounds (i+1)) (gallopOf st) (failedOf st)) st'->failedOf st'=none:=
  λr st' _ hS=>hS.failed.trans hB.failed
 let mx:∀p ∈ ((arrOf st).extract (sa+k) sb).toList,p ∈ a₀.toList:=λp hp=>by
  rw [xl] at hp;exact mem p (D8 (A5 (D8 hp)))
 let my:∀p ∈ ((arrOf st).extract sb (sb+m)).toList,p ∈ a₀.toList:=λp hp=>by
  rw [yl] at hp;exact mem p (D8 (A5 (A5 hp)))
 let sx:((arrOf st).extract (sa+k) sb).size=na-k:=by rw [<- l9,xl,C3,lA]
 let hx:1<=((arrOf st).extract (sa+k) sb).size:=by rw [sx];omega
 let hy:1<=((arrOf st).extract sb (sb+m)).size:=by rw [<- l9,yl,l0,lB,y0 m1];exact hm
 let hf:∀p,((arrOf st).extract sb (sb+m)).toList[0]?=some p->∀q ∈ ((arrOf st).extract (sa+k) sb).toList,rk p<=rk q:=λp hp q hq=>by
  have:p=b0:=by
   rw [yl,v5 ∎,v5 ∎,p7] at hp;simp only [Nat.add_zero] at hp;rw [f0] at hp;exact(Option.some.inj hp).symm
  subst this;rw [xl] at hq;let (t,t1,t2):=lN hq;let tl:t<na:=lA ▸ (c8.mp t2).1;rw [v5 tl,p7] at t2;exact v7 (k3 t q t1 tl t2)
 let hl:∀p ∈ ((arrOf st).extract sb (sb+m)).toList,∀q,((arrOf st).extract (sa+k) sb).toList[((arrOf st).extract (sa+k) sb).size-1]?=some q->rk p<=rk q:=λp hp q hq=>by
  have:q=a1:=by
   rw [sx,xl,p7,v5 ∎,p7,show sa+(k+(na-k-1))=sb-1 by omega,fa1] at hq;exact(Option.some.inj hq).symm
  subst this;rw [yl] at hp;exact v7 (m2 p (by rwa [N1,y0 m1] at hp))
 let sx:fK rk ((arrOf st).extract (sa+k) sb).toList:=by rw [xl];exact S1.drop
 let sy:fK rk ((arrOf st).extract sb (sb+m)).toList:=by rw [yl];exact S2.take
 by_cases c3:na-k<=m
 ·rw [if_pos c3];refine i3 (Qi C hB.kind mx my sx sy hx hy hf hl λr st' hW hS=>?_);refine i3 (N0 (i3 (J9 (j7 ?_))));have:=post r st' hW hS;rw [show failedOf (setArr st' (r.toList.zipIdx.foldl (λa (x:Keyed × Nat)=>match x with|(p,j)=>a.setIfInBounds (sa+k+j) p) (arrOf st')))=none from fin r st' hW hS];exact this
 ·rw [if_neg c3];refine i3 (Ho C hB.kind mx my sx sy hx hy hf hl λr st' hW hS=>?_);refine i3 (N0 (i3 (J9 (j7 ?_))));have:=post r st' hW hS;rw [show failedOf (setArr st' (r.toList.zipIdx.foldl (λa (x:Keyed × Nat)=>match x with|(p,j)=>a.setIfInBounds (sa+k+j) p) (arrOf st')))=none from fin r st' hW hS];exact this
def Tp:∀n,n<128->n<=2 * minRun' n n 0:=⋯
inductive KI (rk:Keyed->Int) (a₀:Array Keyed) (lo:Nat) (st:SortSt):Prop
 | no (_:lo=0) (_:pendingOf st=#[])
 | one (_:pendingOf st=#[(0,lo,0)]) (_:1<=lo) (_:a₀.size<=2 * lo) (_:lR rk (arrOf st) 0 lo)
 | two (m:Nat) (_:lo=a₀.size) (_:∃p,pendingOf st=#[(0,m,p),(m,a₀.size-m,0)]) (_:1<=m) (_:m<a₀.size) (_:lR rk (arrOf st) 0 m) (_:lR rk (arrOf st) m a₀.size)
def lR.like {rk:Keyed->Int} {xs ys:Array Keyed} {lo hi:Nat} (h:lR rk xs lo hi) (e:∀k,lo<=k->k<hi->ys[k]?=xs[k]?):lR rk ys lo hi:=λi j c a b=>by
 rw [iI (e i c ∎),iI (e j ∎ b)]
 exact h i j c a b
def wpS_sortAny {st:SortSt} {Q:Unit->SortSt->Prop} (C:oJ prog w A E s κ a₀ rk) (hB:SB κ a₀ st) (hp:pendingOf st=#[]) (h1:1<=a₀.size) (h2:a₀.size<128)
  (h:∀st',SB κ a₀ st'->lR rk (arrOf st') 0 a₀.size->Q () st'):wpS (model prog w) A E s sortRuns' Q st:=by
 rw [sortRuns'_eq];refine i3 (J9 ?_);dsimp only
 let mp:=Tp _ h2;simp only [hB.size];generalize minRun' a₀.size a₀.size 0=mr at mp ⊢;refine i3 (K8 (D7
  (I:=λx c st'=>∃lo,c=(none,lo)/\SB κ a₀ st'/\KI rk a₀ lo st'/\lo<=a₀.size/\(x<=lo\/lo=a₀.size))
  (Q:=λc st'=>c=(none,a₀.size)/\SB κ a₀ st'/\KI rk a₀ a₀.size st') ?step ?fin {0,rfl,hB,.no rfl hp,∎,∎}) ?post)
 case fin=>
  rintro c st' ⟨lo,rfl,hB',hR,hlo,hx⟩;have:lo=a₀.size:=∎;subst this;exact {(rfl),hB',hR}
 case step=>
  rintro x c st' _ hx ⟨lo,rfl,hB',hR,hlo,hx'⟩;dsimp only
  by_cases hge:lo ≥ a₀.size
  ·rw [if_pos hge];have:lo=a₀.size:=∎;subst this;exact j7 {(rfl),hB',hR}
  rw [if_neg hge];refine i3 (Ei (st₀:=st') (lo:=lo) C ∎ ∎ {(hB'),qW.refl,rfl} λn st2 hK2 n1 n2 hs2=>?_);dsimp only
  let key:∃n',1<=n'/\n' + lo<=a₀.size/\(mr<=n'\/n' + lo=a₀.size)/\(n<mr/\n'=min (a₀.size-lo) mr\/¬ n<mr/\n'=n):=by
   by_cases hlt:n<mr
   ·exact {_,∎,∎,∎,.inl {(hlt),rfl}}
   ·exact {n,n1,∎,∎,.inr {(hlt),rfl}}
  obtain⟨n',c1,c2,c3,⟨hlt,rfl⟩|⟨hlt,rfl⟩⟩:=key;rw [if_pos hlt];refine i3 (Q1 (F1 {rfl,?_}));refine i3 (yK (st₀:=st') (lo:=lo) C ∎ ∎ hK2 hs2 λst3 hK3 hs3=>?_);simp only [Bool.not_true,x0,if_false];generalize min (a₀.size-lo) mr=n' at hs3 c1 c2 c3 ⊢;clear hK2 hs2;rotate_left;rw [if_neg hlt];revert hs2 hK2;generalize st2=st3;intro hK3 hs3
  all_goals
   refine i3 (J9 ?_);rcases hR with ⟨rfl,e⟩|⟨e,l1,l2,sg⟩|⟨_,e,_⟩
   ·rw [hK3.pend.trans e];refine i3 (N0 (j7 {0+n',rfl,{(hK3.perm),hK3.kind,hK3.failed},.one ?_ ∎ ∎ hs3,∎,.inl ∎}));show (pendingOf st3).push (0,n',0)=_;rw [hK3.pend.trans e,P6];rfl
   ·let e:=hK3.pend.trans e;rw [e];let en:n' + lo=a₀.size:=∎;refine i3 (K8 (D7 (I:=λ_ c st4=>c=(none,())/\st4=st3) (Q:=λc st4=>c=(none,())/\st4=st3) (λz c st4 _ hz h=>?_) (λ_ _ z=>z) {(rfl),rfl}) ?_)
    ·let (rfl,rfl):=h;refine i3 (J9 ?_);rw [e];exact j7 {(rfl),rfl}
    ·rintro c st4 ⟨rfl,rfl⟩;refine i3 (N0 (i3 (N0 (j7 {lo+n',rfl,{(hK3.perm),hK3.kind,hK3.failed},.two lo ∎ ?_ l1 ∎ ?_ ?_,∎,.inl ∎}))))
     ·show ∃p,((pendingOf st4).modify ((pendingOf st4).size-1) _).push (lo,n',0)=_;rw [e,show n'=a₀.size-lo by omega];exact {_,rfl}
     ·exact sg.like λk _ k2=>hK3.like k k2
     ·rw [<- en,Nat.add_comm];exact hs3
   ·exact absurd e ∎
 case post=>
  rintro c st' ⟨rfl,hB',hR⟩;dsimp only
  refine i3 (K8 (D7
   (I:=λx c st2=>c=(none,())/\((SB κ a₀ st2/\lR rk (arrOf st2) 0 a₀.size/\(pendingOf st2).size<=1)\/(st2=st'/\x=0/\∃m p,pendingOf st'=#[(0,m,p),(m,a₀.size-m,0)]/\1<=m/\m<a₀.size/\lR rk (arrOf st') 0 m/\lR rk (arrOf st') m a₀.size)))
   (Q:=λc st2=>c=(none,())/\SB κ a₀ st2/\lR rk (arrOf st2) 0 a₀.size) ?step3 ?fin3 {rfl,?ini}) ?post3)
  case ini=>
   rcases hR with ⟨z,_⟩|⟨e,_,_,sg⟩|⟨m,_,⟨p,e⟩,l1,l2,s1,s2⟩
   ·omega
   ·exact .inl {hB',sg,by rw [e];exact c9 1}
   ·exact .inr {(rfl),rfl,m,p,e,l1,l2,s1,s2}
  case fin3=>
   rintro c st2 ⟨rfl,⟨B,R,_⟩|⟨_,z,_⟩⟩
   ·exact {(rfl),B,R}
   ·omega
  case step3=>
   rintro x c st2 _ hx ⟨rfl,⟨B,R,hz⟩|⟨rfl,_,m,p,e,l1,l2,s1,s2⟩⟩
   ·refine i3 (J9 ?_);rw [if_pos hz];exact j7 {(rfl),B,R}
   ·refine i3 (J9 ?_);rw [e];refine i3 (vB (i:=0) C hB' (by rw [e];rfl) (by rw [e];rfl) (P6 _).symm ∎ l1 ∎ s1 (by rw [J4 (B5 l2)];exact s2) λst3 B3 e3 R3 _=>?_);simp only [Bool.not_true,x0,if_false];rw [J4 (B5 l2)] at R3;exact j7 {rfl,.inl {B3,R3,by rw [e3,e];simp}}
  case post3=>
   rintro c st2 ⟨rfl,B,R⟩;exact j7 (h st2 B R)
def cmp_ints {a₀:Array Keyed} (h0:IntKeys a₀):oJ prog w A E s oneType' a₀ (λp=>numOf p.1):=⟨λ{x y st Q} hx hy hk h=>by
 let (n,t,e1):=h0 x hx
 let (m,u,e2):=h0 y hy
 rw [lt'_eq]
 refine i3 (J9 ?_)
 rw [hk,keyLt'_oneType,e1,e2]
 rw [e1,e2] at h
 exact i3 (Q1 (L3 (oneLt_int {rfl,j7 h})))⟩
def sort_codeA {a:Addr} {vs:List Value} {ns:List Int} {n:Nat} {P:Fin->Shared->Prop} (ho:s.heap.get? a=some (seqObj "list" vs.toArray n))
  (hI:IntsAre vs ns) (h7:vs.length<128)
  (h:∀(out:Array Value) (ns':List Int),IntsAre out.toList ns'->ns'.Perm ns->ns'.Pairwise (·<=·)->P (.done (.ret .none)) { s with heap:=sortedHeap s.heap a vs out }):
  wpAny (model prog w) A (Builtin.«list.sort» {[.ref a],[]}) P E s:=by
 let hz:vs.length<=sizeLine:=l7 (B5 h7) (by decide);rw [list_sort_plain];let ha:=i4 ho;let hsz:vs.toArray.size=vs.length:=by simp
 refine c6 (listItems_at ho rfl (c6 (listUpdate_at ho rfl ?_ (by rw [hsz];exact hz))));obtain⟨e1,h1⟩:∃e1,(s.heap.update a (Obj.mapSeq λ_=>#[])).get? a=some (seqObj "list" #[] e1):={_,get?_update_seq ho (λ_=>#[])};refine c6 (seqEpoch_at h1 rfl (c6 (Q0 (c6 (Q7 (w9 ?_))))));let h6:(((s.heap.update a (Obj.mapSeq λ_=>#[])).push (seqObj "tuple" vs.toArray 0)).push (seqObj "list" #[] 0)).get? a=some (seqObj "list" #[] e1):=by
  rw [Heap.get?_push_ne _ _ _ (by rw [size_push',Heap.size_update];exact j8 (Nat.lt_succ_of_lt ha)),
   Heap.get?_push_ne _ _ _ (by rw [Heap.size_update];exact j8 ha)];exact h1
 show wpAny (model prog w) A _ P E { s with heap:=((s.heap.update a (Obj.mapSeq λ_=>#[])).push (seqObj "tuple" vs.toArray 0)).push (seqObj "list" #[] 0) };dsimp only
 let fin:∀st':SortSt,(arrOf st').Perm (pairsOf vs)->SortedTo (arrOf st') (pairsOf vs).size->P (.done (.ret .none)) { s with heap:=sortedHeap s.heap a vs ((arrOf st').map (·.2)) }:=λst' hp hs=>by
  let (ns',x1,x2,x3):=sorted_out hI hp hs;exact h _ ns' x1 x2 x3
 by_cases h2:vs.toArray.size<2
 ·rw [if_pos h2,if_pos h2];refine c6 (g9 ?_);rw [StateT.run_pure];refine c6 (g9 ?_);dsimp only
  refine c6 (seqEpoch_at h6 rfl (c6 (listUpdate_at h6 rfl ?_ (hsz2:=by rw [Array.size_map];show (pairsOf vs).size<=_;rw [pairsOf_size];omega))));simp only [bne_self_eq_false,x0,if_false];refine g9 (fin (SortSt.mk' general' (vs.toArray.zip vs.toArray) #[] 7 none) (P7 _) λi j hij hj=>?_);have:i=j:=by rw [pairsOf_size] at hj;omega
  subst this;exact j0 _
 ·rw [if_neg h2,if_neg h2];let kk:keyKind' vs.toArray=pure oneType':=by
   match vs,hsz,h2,hI with
   | [],_,h2,_=>simp at h2
   | [_],_,h2,_=>simp at h2
   | v1::v2::r,_,_,hI=>exact keyKind_ints hI
  rw [kk];refine c6 (g9 ?_);refine c6 (v6 (wpS_sortAny (a₀:=pairsOf vs) (κ:=oneType') (rk:=λp=>numOf p.1) (st:=SortSt.mk' oneType' (vs.toArray.zip vs.toArray) #[] 7 none)
   (Q:=λ_ st'=>(arrOf st').Perm (pairsOf vs)/\failedOf st'=none/\SortedTo (arrOf st') (pairsOf vs).size)
   (cmp_ints hI.intKeys) {P7 _,rfl,rfl} rfl (by rw [pairsOf_size];omega) (by rw [pairsOf_size];exact h7) λst' b hs=>{b.perm,b.failed,λi j hij hj=>hs i j (i5 _) hij hj}) ?_ λ_ _ e=>e);rintro⟨⟨⟩,st'⟩ s' ⟨rfl,hp,hf,hs⟩;dsimp only
  refine c6 (seqEpoch_at h6 rfl (c6 (listUpdate_at h6 rfl ?_ (hsz2:=by
   let z:((arrOf st').map (·.2)).size=vs.length:=by rw [Array.size_map,hp.size_eq,pairsOf_size]
   exact l7 (D4 z) ∎))));rw [hf];simp only [bne_self_eq_false,x0,if_false];exact g9 (fin st' hp hs)
end
end Sr
namespace L2
open PySem PySem.Spec PyProof.Rows PySem.W
def Ga {ns:List Int} {us:List Value} (h:IntsAre us ns):bG (ns.map V.int) us:=rL h
section
variable {X:Cx}
def yU {prog:Program} {w:World} {A:Around} {E:Value->Shared->Prop} {s:Shared} {D:Addr} {vs:List Value} {ns:List Int} {n:Nat} {Q:Value->Shared->Prop} (ho:s.heap.get? D=some (seqObj "list" vs.toArray n)) (rv:bG (ns.map V.int) vs) (hz:vs.length<128)
  (h:∀(os:List Value) (ns':List Int),bG (ns'.map V.int) os->ns'.Perm ns->ns'.Pairwise (·<=·)->Q .none { s with heap:=sortedHeap s.heap D vs os.toArray }):wpAny (model prog w) A (call (.builtin "list.sort") [.ref D]) Q E s:=by
 refine E4 slot_list_sort {_,ho,rfl} entry_list_sort ?_ (args_list_sort _);refine Sr.sort_codeA ho (xF rv) hz λout ns' a1 a2 a3=>{.none,rfl,?_};have:=h out.toList ns' (Ga a1) a2 a3;rwa [Array.toArray_toList] at this
def rE (hc:X.calm=true):fP X (.builtin "sorted") (λxs H Q=>∃(a:Addr) (kvs:List (bZ × V)) (ns:List Int),xs=[.ref a]/\H a=some (.dK kvs)/\kvs.map (·.1)=ns.map Sum.inl/\ns.length<128 /\
  ∀(l:Addr) (ns':List Int),H l=none->ns'.Perm ns->ns'.Pairwise (·<=·)->Q (.ref l) (aR H l (.lst (ns'.map V.int)))):=by
 intro a0 s σ H xs d Q I r h;let (a,kvs,ns,rfl,hq,U,a3,q):=h;let (u,rfl,rx):=iT r;cases rx;let (hz,hS,O,rv,o,es,ep,d1,d2,d3,d4,d5,d6):=I.hok a _ hq;let sl:sizeLine=16777216:=sizeLine_eq;let vl:kvs.length=O.length:=Paired.length rv;let kl:kvs.length=ns.length:=by
  have:=congrArg List.length U;rwa [g7,g7] at this
 let (m,F):=I.fr;let J:O.map (·.1)=ns.map Sum.inl:=by
  rw [<- U];clear U hq d5 d6 vl kl hz q
  induction rv with
  | nil=>rfl
  | cons e t ih=>rw [r6,r6,ih,e.1]
 refine kdu_sorted (kdl_dict (knd:=cK X.prog X.w) (kvs:=O) (ep:=ep) hS) (I.ok.hd hc) F pR {(o),es,d1,d2,d3,d4,d5,d6} ∎ λD M tk d F' N' A a2 hP=>?_;let y:∀j (P:j<d.length),∃t,d[j]=.int (ns.getD j 0) t:=λj P=>by
  let (k,x,K,B):=hP j d[j] (c7 P);let E:(O.map (·.1))[j]?=some k:=by rw [i8,K];rfl
  rw [J,i8] at E;let p:j<ns.length:=∎;rw [c7 p] at E;let E:Sum.inl ns[j]=k:=Option.some.inj E;subst E;let (t,e):=Value.isInt_shape (k:=ns[j]) (v:=d[j]) B;exact {t,by rw [e,y9,c7 p];rfl}
 let Z:bG (ns.map V.int) d:=by
  let K:d=(List.range d.length).map λj=>d.getD j .none:=by
   apply List.ext_getElem
   ·simp
   ·intro i T h2;simp [y9,T]
  let B:ns.map V.int=(List.range d.length).map λj=>V.int (ns.getD j 0):=by
   apply List.ext_getElem
   ·simp;omega
   ·intro i T h2;have:i<ns.length:=by simpa using T
    simp [y9,this]
  rw [B];rw [K];simp only [g7,z8];refine kJ _ _ λj P=>?_;let p:j<d.length:=C7.mp P;let (t,e):=y j p;refine {t,?_};rw [<- e,y9,c7 p];rfl
 let g:=N' (D,W.listOf d.toArray 0) (i0 ..);let L:s.heap.get? D=none:=by
  cases z:s.heap.get? D with
  | none=>rfl
  | some f=>
   have:=A (D,f) (jB g.2.1 g.2.2 z);exact absurd this (x6 _)
 let G:∀b f,b≠X.env.locals->s.heap.get? b=some f->M.get? b=some f:=λb f N e=>by
  cases z:X.base.get? b with
  | some o'=>
   have:=I.bk b o' z;rw [e] at this;cases this;exact F'.keep b f z
  | none=>exact(N' (b,f) (d0 _ (jB N z e))).1
 refine yU (n:=0) g.1 Z ∎ λos ns' r' pm pw=>?_;let (c,S):=sortedHeap_at (out:=os.toArray) (show M.get? D=some (seqObj "list" d.toArray 0) from g.1);let C:∀b f,b≠D->M.get? b=some f->(sortedHeap M D d os.toArray).get? b=some f:=λb f N e=>by
  rw [sortedHeap_old N (i4 e)];exact e
 let a1:ns'.length=ns.length:=pm.length_eq;let Y:(sortedHeap M D d os.toArray).Ns X.env.locals m:=by
  let (o1,K,B,z,rr):=F'.ns;exact {o1,K,B,C _ _ g.2.1.symm z,rr}
 let (z1,I1):=I.byNewsL (tk:=tk) (zs:=ns'.map V.int) F.ns Y (λb f N e=>C b f (λz=>by rw [z,L] at e;cases e) (G b f N e)) L (by rw [g7];omega) r' S;exact {.ref D,_,I1,rfl,q D ns' z1 pm pw}
end
end L2
namespace Lm
abbrev Ps:=List (Int × Int)
def mem (ps:Ps) (x:Int):Prop:=∃p ∈ ps,p.1<=x/\x<p.2
def iG {x:Int}:mem [] x↔False:=by simp [mem]
def mem_cons {p:Int × Int} {t:Ps} {x:Int}:mem (p::t) x↔(p.1<=x/\x<p.2)\/mem t x:=by simp [mem]
def Dg {s t:Ps} {x:Int}:mem (s++t) x↔mem s x\/mem t x:=by
 induction s with
 | nil=>simp [iG]
 | cons p s ih=>rw [List.cons_append,mem_cons,mem_cons,ih,or_assoc]
def Wk:Ps->Prop
 | []=>True
 | p::t=>p.1<p.2/\(∀q ∈ t,p.2<=q.1)/\Wk t
def Sh:Ps->Prop
 | []=>True
 | p::t=>p.1<p.2/\(∀q ∈ t,p.2<q.1)/\Sh t
theorem Sh.wk:∀{t:Ps},Sh t->Wk t
 | [],_=>trivial
 | _::_,{(h1),h2,h3}=>{h1,λq a=>v7 (h2 q a),Sh.wk h3}
theorem Sh.lt:∀{t:Ps},Sh t->∀q ∈ t,q.1<q.2
 | _::_,{(h1),h2,h3},q,hq=>by
  rcases g8.mp hq with rfl|hq
  ·exact h1
  ·exact Sh.lt h3 q hq
theorem Wk.lt:∀{t:Ps},Wk t->∀q ∈ t,q.1<q.2
 | _::_,{(h1),h2,h3},q,hq=>by
  rcases g8.mp hq with rfl|hq
  ·exact h1
  ·exact Wk.lt h3 q hq
def uM {t:Ps} {b x:Int} (h:∀q ∈ t,b<=q.1) (c:mem t x):b<=x:=by
 let (p,a,z,_):=c;have:=h p a;omega
def oW {p:Int × Int} {t:Ps} (h:Sh (p::t)) {x:Int} (a:mem (p::t) x):p.1<=x:=by
 rcases mem_cons.mp a with z|z
 ·exact z.1
 ·have:=uM (b:=p.2) (λq c=>v7 (h.2.1 q c)) z;have:=h.1;omega
theorem yW:∀{s t:Ps},Sh s->Sh t->(∀p ∈ s,∀q ∈ t,p.2<q.1)->Sh (s++t)
 | [],_,_,ht,_=>ht
 | p::s,t,hs,ht,h=>by
  refine {hs.1,λq hq=>?_,yW hs.2.2 ht λa d b c=>h a (d0 _ d) b c}
  rcases j1.mp hq with hq|hq
  ·exact hs.2.1 q hq
  ·exact h p (i0 ..) q hq
def mg:Int × Int->Ps->Ps
 | c,[]=>[c]
 | c,p::t=>if p.1<=c.2 then mg (c.1,if p.2 > c.2 then p.2 else c.2) t else c::mg p t
def merged:Ps->Ps
 | []=>[]
 | p::t=>mg p t
def Lo:Ps->Prop
 | []=>True
 | p::t=>p.1<p.2/\(∀q ∈ t,p.1<=q.1)/\Lo t
theorem Wk.lo:∀{t:Ps},Wk t->Lo t
 | [],_=>trivial
 | _::_,{(h1),h2,h3}=>⟨h1,λq a=>by have:=h2 q a;omega,Wk.lo h3⟩
theorem Mr:∀{t:Ps} {c:Int × Int},c.1<c.2->(∀q ∈ t,c.1<=q.1)->Lo t->Sh (mg c t)/\(∀p ∈ mg c t,c.1<=p.1)/\(∀x,mem (mg c t) x↔(c.1<=x/\x<c.2)\/mem t x)/\(mg c t).length<=t.length+1
 | [],c,h,_,_=>by
  refine {{h,by simp,trivial},λp g=>?_,λx=>?_,c9 _}
  ·rw [l6.mp g]
   exact j0 _
  ·show mem [c] x↔_
   rw [mem_cons]
 | p::t,c,h,hq,hl=>by
  let g:=hq p (i0 ..)
  let f:=hl.1
  by_cases z:p.1<=c.2
  ·let e:mg c (p::t)=mg (c.1,if p.2 > c.2 then p.2 else c.2) t:=by
    show (if p.1<=c.2 then _ else _)=_;rw [if_pos z]
   rw [e];let i:c.1<(if p.2 > c.2 then p.2 else c.2):=by split <;> omega
   let (d,a,b,j):=Mr (t:=t) (c:=(c.1,if p.2 > c.2 then p.2 else c.2)) i (λq hq'=>by have:=hl.2.1 q hq';show c.1<=q.1;omega) hl.2.2;refine {d,a,λx=>?_,by rw [j9];omega};rw [b x,mem_cons];show (c.1<=x/\x<(if p.2 > c.2 then p.2 else c.2))\/mem t x↔_;by_cases m:mem t x
   ·simp [m]
   ·simp only [m,or_false];split <;> omega
  ·let e:mg c (p::t)=c::mg p t:=by
    show (if p.1<=c.2 then _ else _)=_;rw [if_neg z]
   rw [e];let (d,a,b,j):=Mr (t:=t) (c:=p) f hl.2.1 hl.2.2;refine {⟨h,λq hq'=>by have:=a q hq';omega,d⟩,λq hq'=>?_,λx=>?_,by rw [j9,j9];omega}
   ·rcases g8.mp hq' with rfl|hq'
    ·exact j0 _
    ·have:=a q hq';omega
   ·rw [mem_cons,mem_cons,b x]
theorem merged_ok:∀{t:Ps},Lo t->Sh (merged t)/\(∀x,mem (merged t) x↔mem t x)/\(merged t).length<=t.length
 | [],_=>{trivial,λx=>Iff.rfl,c9 _}
 | p::t,h=>by
  let (b,d,a,c):=Mr h.1 h.2.1 h.2.2
  exact {b,λx=>by rw [show merged (p::t)=mg p t from rfl,a x,mem_cons],c}
def cut (at_ high:Int):Ps->Ps
 | []=>if at_<high then [(at_,high)] else []
 | g::gs=>if g.1<high then(if at_<g.1 then [(at_,g.1)] else [])++cut g.2 high gs else if at_<high then [(at_,high)] else []
def skip (low:Int):Ps->Ps
 | []=>[]
 | g::gs=>if g.2<=low then skip low gs else g::gs
def wo:Ps->Ps->Ps
 | [],_=>[]
 | p::t,gs=>cut p.1 p.2 (skip p.1 gs)++wo t (skip p.1 gs)
def pK {a b:Int}:Sh (if a<b then [(a,b)] else [])/\(∀p ∈ (if a<b then [(a,b)] else []),a<=p.1/\p.2<=b)/\(∀x,mem (if a<b then [(a,b)] else []) x↔a<=x/\x<b)/\(if a<b then [(a,b)] else([]:Ps)).length<=1:=by
 by_cases h:a<b
 ·rw [if_pos h];refine {{h,by simp,trivial},λp c=>?_,λx=>?_,c9 _}
  ·rw [l6.mp c];exact {j0 _,j0 _}
  ·rw [mem_cons,iG,or_false]
 ·rw [if_neg h];refine {trivial,by simp,λx=>?_,i5 _};rw [iG];exact {False.elim,λz=>∎}
theorem Ol:∀{gs:Ps} {a b:Int},Sh gs->(∀g ∈ gs,a<g.2)->Sh (cut a b gs)/\(∀p ∈ cut a b gs,a<=p.1/\p.2<=b)/\(∀x,mem (cut a b gs) x↔(a<=x/\x<b)/\¬ mem gs x)/\(cut a b gs).length<=gs.length+1
 | [],a,b,_,_=>by
  let (i,d,f,k):=pK (a:=a) (b:=b)
  exact {i,d,λx=>by rw [show cut a b []=(if a<b then [(a,b)] else []) from rfl,f x,iG];simp,k}
 | g::gs,a,b,hs,hg=>by
  let t:=hs.1
  let r:=hg g (i0 ..)
  by_cases z:g.1<b
  ·let e:cut a b (g::gs)=(if a<g.1 then [(a,g.1)] else [])++cut g.2 b gs:=by
    show (if g.1<b then _ else _)=_;rw [if_pos z]
   rw [e];let (i,d,f,k):=pK (a:=a) (b:=g.1);let (n,l,o,s):=Ol (gs:=gs) (a:=g.2) (b:=b) hs.2.2 λq c=>by
    have:=hs.2.1 q c;have:=Sh.lt hs.2.2 q c;omega
   refine {yW i n λp hp q c=>?_,λp hp=>?_,λx=>?_,?_}
   ·have:=(d p hp).2;have:=(l q c).1;omega
   ·rcases j1.mp hp with hp|hp
    ·have:=d p hp;exact {this.1,∎}
    ·have:=l p hp;exact { ∎,this.2}
   ·rw [Dg,f x,o x,mem_cons];let j:mem gs x->g.2<=x:=λm=>uM (λq c=>v7 (hs.2.1 q c)) m;by_cases m:mem gs x
    ·have:=j m;simp only [m,not_true_eq_false,and_false,or_false,or_true,iff_false,false_and];omega
    ·simp only [m,not_false_eq_true,and_true,or_false];omega
   ·rw [i7,j9];omega
  ·let e:cut a b (g::gs)=if a<b then [(a,b)] else []:=by
    show (if g.1<b then _ else _)=_;rw [if_neg z]
   rw [e];let (i,d,f,k):=pK (a:=a) (b:=b);refine {i,d,λx=>?_,by rw [j9];omega};rw [f x];let j:mem (g::gs) x->g.1<=x:=λm=>oW hs m;constructor
   ·intro h;exact⟨h,λm=>by have:=j m;omega⟩
   ·exact λh=>h.1
theorem tP:∀{gs:Ps} {a:Int},Sh gs->Sh (skip a gs)/\(∀g ∈ skip a gs,a<g.2)/\(∀x,a<=x->(mem (skip a gs) x↔mem gs x))/\(skip a gs).length<=gs.length
 | [],a,_=>{trivial,by simp [skip],λx _=>Iff.rfl,c9 _}
 | g::gs,a,hs=>by
  by_cases z:g.2<=a
  ·let e:skip a (g::gs)=skip a gs:=by
    show (if g.2<=a then _ else _)=_;rw [if_pos z]
   rw [e];let (d,f,c,i):=tP (gs:=gs) (a:=a) hs.2.2;refine {d,f,λx b=>?_,by rw [j9];omega};rw [c x b,mem_cons];constructor
   ·exact .inr
   ·rintro(h|h)
    ·omega
    ·exact h
  ·let e:skip a (g::gs)=g::gs:=by
    show (if g.2<=a then _ else _)=_;rw [if_neg z]
   rw [e];refine {hs,λq hq=>?_,λx _=>Iff.rfl,c9 _};rcases g8.mp hq with rfl|hq
   ·omega
   ·have:=hs.2.1 q hq;have:=Sh.lt hs.2.2 q hq;omega
theorem wo_ok:∀{ks gs:Ps},Sh ks->Sh gs->Sh (wo ks gs)/\(∀p ∈ wo ks gs,∃k ∈ ks,k.1<=p.1)/\(∀x,mem (wo ks gs) x↔mem ks x/\¬ mem gs x)
 | [],gs,_,_=>{trivial,by simp [wo],λx=>by rw [show wo [] gs=[] from rfl,iG];simp}
 | p::t,gs,hk,hg=>by
  let (f,i,n,y):=tP (a:=p.1) hg
  let (o,h,l,v):=Ol (b:=p.2) f i
  let (j,e,u):=wo_ok (ks:=t) (gs:=skip p.1 gs) hk.2.2 f
  have d:∀q ∈ wo t (skip p.1 gs),p.2<q.1:=λq hq=>by
   let (k,c,z):=e q hq
   have:=hk.2.1 k c
   omega
  refine {yW o j λa s q hq=>?_,λq hq=>?_,λx=>?_}
  ·have:=(h a s).2
   have:=d q hq
   omega
  ·rcases j1.mp hq with hq|hq
   ·exact {p,i0 ..,(h q hq).1}
   ·let (k,c,z):=e q hq
    exact {k,d0 _ c,z}
  ·show mem (cut p.1 p.2 (skip p.1 gs)++wo t (skip p.1 gs)) x↔_
   rw [Dg,l x,u x,mem_cons]
   have g:mem t x->p.2<=x:=λm=>uM (λq hq=>v7 (hk.2.1 q hq)) m
   have w:=hk.1
   by_cases r:p.1<=x
   ·rw [n x r]
    constructor
    ·rintro(⟨a,b⟩|⟨a,b⟩)
     ·exact {.inl a,b}
     ·exact {.inr a,b}
    ·rintro⟨a|a,b⟩
     ·exact .inl {(a),b}
     ·exact .inr {(a),b}
   ·constructor
    ·rintro(⟨a,b⟩|⟨a,b⟩)
     ·omega
     ·have:=g a
      omega
    ·rintro⟨a|a,b⟩
     ·omega
     ·have:=g a
      omega
theorem vM (f:Int × Int->Bool) (a:Int):∀b:Ps,(skip a b).countP f<=b.countP f
 | []=>c9 _
 | g::b=>by
  show (if g.2<=a then skip a b else g::b).countP f<=_
  split
  ·have:=vM f a b
   rw [L0]
   omega
  ·exact c9 _
theorem Dx:∀{gs:Ps} {a b:Int},Sh gs->(∀g ∈ gs,a<g.2)->(cut a b gs).length<=1+gs.countP λg=>decide (a<g.1/\g.1<b)
 | [],a,b,_,_=>by
  have:=(pK (a:=a) (b:=b)).2.2.2
  show (if a<b then [(a,b)] else([]:Ps)).length<=_
  omega
 | g::gs,a,b,hs,hg=>by
  let f:=hs.1
  let h:=hg g (i0 ..)
  rw [L0]
  by_cases z:g.1<b
  ·let e:cut a b (g::gs)=(if a<g.1 then [(a,g.1)] else [])++cut g.2 b gs:=by
    show (if g.1<b then _ else _)=_;rw [if_pos z]
   rw [e,i7];let i:=Dx (gs:=gs) (a:=g.2) (b:=b) hs.2.2 λq c=>by
    have:=hs.2.1 q c;have:=Sh.lt hs.2.2 q c;omega
   let m:(gs.countP λq=>decide (g.2<q.1/\q.1<b))<=gs.countP λq=>decide (a<q.1/\q.1<b):=List.countP_mono_left λq c d=>by
    have:=of_decide_eq_true d;exact decide_eq_true { ∎,this.2}
   by_cases y:a<g.1
   ·rw [if_pos y,decide_eq_true (show a<g.1/\g.1<b from {(y),z})];show 1+_<=1+(_+1);omega
   ·rw [if_neg y];show 0+_<=_;omega
  ·let e:cut a b (g::gs)=if a<b then [(a,b)] else []:=by
    show (if g.1<b then _ else _)=_;rw [if_neg z]
   rw [e];have:=(pK (a:=a) (b:=b)).2.2.2;omega
theorem Dz {α:Type} (f g h:α->Bool) (d:∀x,f x=true->g x=true->False) (e:∀x,f x=true\/g x=true->h x=true):∀l:List α,l.countP f+l.countP g<=l.countP h
 | []=>c9 _
 | x::l=>by
  have:=Dz f g h d e l
  rw [L0,L0,L0]
  by_cases a:f x=true
  ·by_cases b:g x=true
   ·exact(d x a b).elim
   ·rw [if_pos a,if_neg b,if_pos (e x (.inl a))]
    omega
  ·by_cases b:g x=true
   ·rw [if_neg a,if_pos b,if_pos (e x (.inr b))]
    omega
   ·rw [if_neg a,if_neg b]
    omega
theorem Hq:∀{ks gs:Ps} {L:Int},Sh ks->Sh gs->(∀k ∈ ks,L<=k.1)->(wo ks gs).length<=ks.length+gs.countP λg=>decide (L<g.1)
 | [],gs,L,_,_,_=>i5 _
 | p::t,gs,L,hk,hg,hL=>by
  let (f,h,l,o):=tP (a:=p.1) hg
  have i:=Dx (b:=p.2) f h
  have j:=Hq (ks:=t) (gs:=skip p.1 gs) (L:=p.2) hk.2.2 f λk e=>v7 (hk.2.1 k e)
  have n:=hL p (i0 ..)
  have c:=Dz (λg:Int × Int=>decide (p.1<g.1/\g.1<p.2)) (λg=>decide (p.2<g.1)) (λg=>decide (L<g.1)) (λx a b=>by
    have:=of_decide_eq_true a
    have:=of_decide_eq_true b
    omega) (λx z=>by
    refine decide_eq_true ?_
    have m:=hk.1
    rcases z with z|z
    ·have:=of_decide_eq_true z
     omega
    ·have:=of_decide_eq_true z
     omega) (skip p.1 gs)
  have d:=vM (λg=>decide (L<g.1)) p.1 gs
  show (cut p.1 p.2 (skip p.1 gs)++wo t (skip p.1 gs)).length<=_
  rw [i7,j9]
  omega
def wo_len {ks gs:Ps} (a:Sh ks) (b:Sh gs):(wo ks gs).length<=ks.length+gs.length:=by
 match ks,a with
 | [],_=>exact i5 _
 | p::t,a=>
  have:=Hq (L:=p.1) a b λk hk'=>by
   rcases g8.mp hk' with rfl|hk'
   ·exact j0 _
   ·have:=a.2.1 k hk';have:=a.1;omega
  have:=List.countP_le_length (p:=λg:Int × Int=>decide (p.1<g.1)) (l:=gs);omega
open Classical in
noncomputable def KY (P:Int->Prop) (x:Int):Int:=if P x then 1 else 0
noncomputable def KZ (P:Int->Prop) (lo:Int):Nat->Int
 | 0=>0
 | n+1=>KZ P lo n+KY P (lo+n)
end Lm
namespace L2
open PySem PySem.Spec PyProof.Rows PySem.W
def Fy {K:Frag} {α:Type} {d:Hp} {c:Addr} {xs:List α} {val:α->V} (e:d c=some (.lst (xs.map val))):
  (∀G i,aM d G->i<xs.length->(Hl K c).go i G)/\(∀G,aM d G->(Hl K c).stop xs.length G)/\∀G i x f,aM d G->(Hl K c).yld i G x f->f=G/\∃z,xs[i]?=some z/\x=val z:=by
 refine {λG i b h=>{_,_,dD.of (b _ _ e),by rw [i8,c7 h];rfl},λG b=>{_,dD.of (b _ _ e),by rw [g7];exact c9 _},λG i x f b g=>?_};let (rfl,a):=g;let a:=a _ (dD.of (b _ _ e));rw [i8] at a;cases hz:xs[i]? with
 | none=>rw [hz] at a;cases a
 | some z=>
  rw [hz] at a;cases a;exact {(rfl),z,rfl,rfl}
end L2
namespace L2
open PySem PySem.Spec PyProof.Rows
def uY (h:Heap) (mg:Str->Option Value):Prop:=∃bm o,mg "__builtins__"=some (.ref bm)/\bm≠builtinsNs/\h.get? bm=some o/\o.cls=.type "module"/\o.dict=some builtinsNs/\o.data=.plain
def Qa (ts:List Addr) (H:Hp):Prop:=∀b,H b=none\/(∃o xs,H b=some (.frz o (.lst xs)))\/(b ∈ ts/\H b=some (.tbl #[]))
def Fu {P:Program} {w:World} {K:PySem.W.Frag} {mg mb:Str->Option Value} {CX:mK} {k:Nat} {fa a:Addr} {fd:FuncData} {x:Str} {sp:Sp} {s₁:Shared} {vs:List Value} {ns:List Int} {ts:List Addr}
  (KX:K.In s₁.heap) (hns:s₁.heap.Ns mainGlobals mg) (hb:s₁.heap.Ns builtinsNs mb) (hbb:∀x:Str,x≠"__name__"->mb x=bootBuiltins x) (hlim:s₁.heap.NoLimit) (hg:s₁.gens=#[])
  (hT:∀P ∈ ts,s₁.heap.get? P=some (PySem.W.tabObj #[])) (hKT:PySem.W.noTabs K=true) (hC:∀P ∈ ts,isCodeTable s₁.heap P) (hBm:uY s₁.heap mg)
  (ha:s₁.heap.get? a=some { cls:=.type "list",data:=.seq vs.toArray }) (hi:IntsAre vs ns) (hl:ns.length<=sizeLine) (hr:Room k callerA)
  (F:∀base:Heap,K.In base->base.Ns mainGlobals mg->uY base mg->bK P w K mg base CX k fa fd [x] sp) (hbind:∀(s:Shared) (u:Value),BindsTo s fd {[u],[]} [(x,u)])
  (hsp:∀H:Hp,Qa ts H->(∀P ∈ ts,H P=some (.tbl #[]))->dD K H a (ns.map V.int)->sp [.ref a] H (λv _=>v=.bl true) λ_ _ _=>False)
  (hCX:∀H e s',CX [] H s₁ (λ_ _ _=>False) e s'->False):
  codeAny (model P w) callerA (.call (.ref fa) {[.ref a],[]}) (λr s'=>r=.ok (.ret (.bool true))/\OldK s₁.heap s'.heap/\s'.os=s₁.os/\AllBare s'.gens) s₁:=by
 let rv:=rL hi;let lenV:=hi.length;let kT:∀P ∈ ts,K.lookup P=none:=λp hp=>by
  cases q:K.lookup p with
  | none=>rfl
  | some o=>
   let e:=KX p o q;rw [hT p hp] at e;cases e;exact absurd (F7.mp hKT (p,_) (PySem.W.mem_of_lookupK q)) (by simp)
 let aT:a ∉ ts:=λhm=>by
  let e:=hT a hm;rw [ha] at e;cases e
 have core:∀H:Hp,Qa ts H->(∀P ∈ ts,H P=some (.tbl #[]))->dD K H a (ns.map V.int)->kH P w H s₁.heap->(∀b,H b≠none->b=a\/b ∈ ts)->(H a≠none->K.lookup a=none) ->
   codeAny (model P w) callerA (.call (.ref fa) {[.ref a],[]}) (λr s'=>r=.ok (.ret (.bool true))/\OldK s₁.heap s'.heap/\s'.os=s₁.os/\AllBare s'.gens) s₁:=by
  intro H hO hTs hS hok hA hK;let base_of:∀{b:Addr} {o:Obj},s₁.heap.get? b=some o->H b=none->(rB s₁.heap H).get? b=some o:=λe n=>Nq e n;let noA:∀{b:Addr} {o:Obj} {es:Array DictEntry} {ep:Nat},s₁.heap.get? b=some o->o.data=.dict es ep->H b=none:=λ{b o es ep} e d=>by
   cases q:H b with
   | none=>rfl
   | some u=>
    rcases hA b (by rw [q];simp) with e' | e'
    ·subst e';rw [ha] at e;cases e;let d':Data.seq vs.toArray _=Data.dict es ep:=d;cases d'
    ·rw [hT b e'] at e;cases e;let d':Data.fields #[]=Data.dict es ep:=d;cases d'
  let nsK:∀{b:Addr} {m:Str->Option Value},s₁.heap.Ns b m->(rB s₁.heap H).Ns b m:=λ{b m} ⟨o,es,ep,e,d,r⟩=>{o,es,ep,base_of e (noA e d),d,r};let hKb:K.In (rB s₁.heap H):=λb o e=>base_of (KX b o e) (by
   cases q:H b with
   | none=>rfl
   | some u=>
    rcases hA b (by rw [q];simp) with e' | e'
    ·subst e'
     rw [hK (by rw [q];simp)] at e;cases e
    ·rw [kT b e'] at e;cases e);let hM:Mod K mg (rB s₁.heap H):=⟨hKb,nsK hns,{mb,nsK hb,hbb},let ⟨mc,h1,h2⟩:=hlim;{mc,nsK h1,h2}⟩;let hBb:uY (rB s₁.heap H) mg:=by
   let (bm,ob,b1,b2,b3,b4,b5,b6):=hBm;refine {bm,ob,b1,b2,base_of b3 ?_,b4,b5,b6};cases q:H bm with
   | none=>rfl
   | some u=>
    rcases hA bm (by rw [q];simp) with e' | e'
    ·subst e';rw [ha] at b3;cases b3;let b4:Value.type "list"=.type "module":=b4;exact absurd (Value.type.inj b4) (by decide)
    ·rw [hT bm e'] at b3;cases b3;cases b4
  let e0:uX P w K mg (rB s₁.heap H) callerA [] s₁ H:={rfl,hM,λb o e=>Tm e,D4 (Gc _ _),trivial,λb hb=>absurd (show b ∈ ([]:List Addr) from hb) (by simp),hok,.of_eq hg};refine D5 ((F _ hKb (nsK hns) hBb).run callerA [] s₁ H {[.ref a],[]} [.ref a] [.ref a] _ _ hr e0 (hbind s₁ (.ref a)) (.cons rfl .nil) (hsp H hO hTs hS)) λr s' h=>?_;cases r with
  | error e=>exact(hCX H e s' h).elim
  | ok fl=>
   cases fl with
   | next=>exact False.elim h
   | brk=>exact False.elim h
   | cont=>exact False.elim h
   | ret u=>
    let (v,H',os,bare,un,hok',r',q):=h;let q':v=.bl true:=q;subst q';obtain rfl:u=Value.bool true:=r';refine {rfl,{λb o e=>?_,λb o e=>un.there b o e (by simp)},os,bare};cases q:H b with
    | none=>exact .inl (un.keep b o e q (by intro z;exact absurd (show b ∈ ([]:List Addr) from z) (by simp)) (by simp))
    | some u=>
     rcases hO b with z|⟨ob,xs,z⟩|⟨hm,z⟩
     ·rw [q] at z;cases z
     ·let z2:=un.frzs b ob _ z;let (e1,_):=hok b _ z;let (e2,_):=hok' b _ z2;rw [e] at e1;cases e1;exact .inl e2
     ·let (more,z2):=un.tbls b _ z;let e2:s'.heap.get? b=some { cls:=.none,data:=.fields (#[]++more) }:=hok' b _ z2;let e3:=hT b hm;rw [e] at e3;cases e3;exact .inr (.inl {hC b hm,rfl,#[],more,rfl,e2})
 let dec:∀b,Decidable (b ∈ ts):=λb=>inferInstance;let tb:∀b,b ∈ ts->bL P w (λ_=>none) s₁.heap b (.tbl #[]):=λb hb=>hT b hb;cases hk:K.lookup a with
 | some o=>
  let e:=KX a o hk;rw [ha] at e;cases e;refine core (λb=>if b ∈ ts then some (.tbl #[]) else none) (λb=>?_) (λp hp=>if_pos hp) (.inr {_,vs.toArray,_,hk,rfl,rfl,rfl,by rw [j6,lenV];exact hl,by simpa using rv}) (λb u z=>?_) (λb z=>?_) λz=>absurd (if_neg aT) z
  ·by_cases hb:b ∈ ts
   ·exact .inr (.inr {hb,if_pos hb})
   ·exact .inl (if_neg hb)
  ·by_cases hb:b ∈ ts
   ·let z':=(if_pos hb).symm.trans z;cases z';exact hT b hb
   ·let z':=(if_neg hb).symm.trans z;cases z'
  ·by_cases hb:b ∈ ts
   ·exact .inr hb
   ·exact absurd (if_neg hb) z
 | none=>
  refine core (λb=>if b=a then some (.frz { cls:=.type "list",data:=.seq vs.toArray } (.lst (ns.map V.int))) else if b ∈ ts then some (.tbl #[]) else none) (λb=>?_) (λp hp=>?_) (.inl (.inr {{ cls:=.type "list",data:=.seq vs.toArray },if_pos rfl})) (λb u z=>?_) (λb z=>?_) λ_=>hk
  ·by_cases hb:b=a
   ·exact .inr (.inl {_,_,if_pos hb})
   ·by_cases ht:b ∈ ts
    ·exact .inr (.inr {ht,(if_neg hb).trans (if_pos ht)})
    ·exact .inl ((if_neg hb).trans (if_neg ht))
  ·exact(if_neg (λz:p=a=>aT (by rw [<- z];exact hp))).trans (if_pos hp)
  ·by_cases hb:b=a
   ·let z':=(if_pos hb).symm.trans z;cases z';subst hb;exact {ha,by rw [g7];exact hl,vs,_,rv,ha}
   ·by_cases ht:b ∈ ts
    ·let z':=((if_neg hb).trans (if_pos ht)).symm.trans z;cases z';exact hT b ht
    ·let z':=((if_neg hb).trans (if_neg ht)).symm.trans z;cases z'
  ·by_cases hb:b=a
   ·exact .inl hb
   ·by_cases ht:b ∈ ts
    ·exact .inr ht
    ·exact absurd ((if_neg hb).trans (if_neg ht)) z
def walk_ofT {l:PySem.W.OpenLaw} {n k:Nat} {q:Program} {j:List Str} {XP:(Str->Option Value)->Heap->Prop} {L:World->Heap->Prop} {d:DefRec} {K:Params->PySem.W.Frag} {CX:World->mK} {sp:World->Sp} {x:Str} {z:List Addr}
  (Z:l.most=some n) (E:n<=sizeLine) (B:d.params.defaults=[]) (hr:Room k callerA)
  (U:∀(w:World) (h:Heap),L w h->(K w.params).In h/\PySem.W.noTabs (K w.params)=true/\∀p ∈ z,h.get? p=some (PySem.W.tabObj #[])/\isCodeTable h p)
  (F:∀(w:World) (mg:Str->Option Value) (t:Addr) (h:Heap),(K w.params).In h->h.Ns mainGlobals mg->mg d.name=some (.ref t) ->
   ∃A:FuncData,(∀(s:Shared) (u:Value),BindsTo s A {[u],[]} [(x,u)]) /\
    ∀base:Heap,(K w.params).In base->base.Ns mainGlobals mg->uY base mg->bK l.prog w (K w.params) mg base (CX w) k t A [x] (sp w))
  (y:∀(w:World) (H:Hp) (a:Addr) (ns:List Int),ns.length<=n->Qa z H->(∀P ∈ z,H P=some (.tbl #[]))->dD (K w.params) H a (ns.map V.int)->sp w [.ref a] H (λv _=>v=.bl true) λ_ _ _=>False)
  (C:∀(w:World) (H:Hp) (s:Shared) (e:Value) (s':Shared),CX w [] H s (λ_ _ _=>False) e s'->False):
  PySem.W.WalkO q j XP L l.row.toRowW d [] (λf N=>PySem.call f N):=by
 refine Att.attach_call Z B λw s₀ Q mg mb t o pm cd a0 a N ns G Y ho hd a1 D m i c O=>?_;let (M,I,r):=U w _ Y;let (A,hb,S):=F w mg t _ M G.T.g D;exact Fu M G.T.g G.T.b G.T.builtins G.T.nolimit O (λp J=>(r p J).1) I (λp J=>(r p J).2) (let ⟨bm,ob,b1,b2,b3,b4,b5,b6⟩:=G.T.bmain;{(bm),ob,b1,b2,b3,b4,b5,b6}) m i (l7 c E) hr S hb (λH X hT hS=>y w H a ns c X hT hS) λH e s'=>C w H Q e s'
def qI (c:Addr) (q:Str):HO:=.ext λh=>h.CodeRec (.ref c) q
def Gh (f:Addr) (o:Obj):HO:=.ext λh=>h.get? f=some o
def kC (H:Hp) (T:Addr) (pos:Pos) (q:Str):Prop:=∃ps,H T=some (.tbl ps)/\TriplesOk ps.toList/\(codeAmong pos ps.toList=none\/∃c',codeAmong pos ps.toList=some (.ref c')/\H c'=some (qI c' q))
def cY (T:Addr) (H H':Hp):Prop:=∀b o,b≠T->H b=some o->H' b=some o
def On {P:Program} {w:World} {H:Hp} {h:Heap} {c:Addr} {q:Str} (x:h.CodeRec (.ref c) q):bL P w H h c (qI c q):=by
 refine {x,?_,λf d y k=>?_}
 ·let (b,o,a,t,e,g,_):=x;cases e;exact {(o),g}
 ·let (b,o,a,t,e,g,r):=y;cases e;exact {c,o,a,t,rfl,k _ g,r}
def Dm {P:Program} {w:World} {H:Hp} {h:Heap} {f:Addr} {o:Obj} (x:h.get? f=some o):bL P w H h f (Gh f o):={x,{(o),x},λb a y k=>k _ y}
section
variable {X:Cx} {pins:List (Addr × Obj)} {σ:List (Option V)} {H:Hp} {s:Shared}
def aO.madeNew {h':Heap} {T c':Addr} {q:Str} {ps d:Array Value} {o:Obj} {tk:Nat} (I:aO X pins σ H s) (m:H T=some (.tbl ps)) (K:Heap.ExtBut T s.heap h') (i:s.heap.objs.size<=c') (p:c'<h'.objs.size)
  (l:h'.CodeRec (.ref c') q) (k:h'.get? T=some (PySem.W.tabObj (ps++d))) (t:o.isFreed=false):
  aO X pins σ (aR (aR (aR H T (.tbl (ps++d))) c' (qI c' q)) h'.objs.size (Gh h'.objs.size o)) { s with heap:=h'.push o,toks:=tk }:=by
 let C:H c'=none:=I.hok.fresh i;let x:H h'.objs.size=none:=I.hok.fresh (l7 i (B5 p));let f:∀b u,b≠T->H b=some u->(aR (aR (aR H T (.tbl (ps++d))) c' (qI c' q)) h'.objs.size (Gh h'.objs.size o)) b=some u:=λb u a e=>by
  rw [aC (aD e x),aC (aD e C),aC a];exact e
 let h:∀b u,H b=some u->u≠.tbl ps->b≠T:=λb u e n z=>by
  subst z;rw [m] at e;exact n (Option.some.inj e).symm
 let j:∀b,H b=none->b≠T:=λb e z=>by rw [z,m] at e;cases e
 let F:T≠c':=aD m C;let J:T≠h'.objs.size:=aD m x;let r:∀b u,b≠T->s.heap.get? b=some u->(h'.push o).get? b=some u:=λb u a e=>f6 _ (K b u a e);refine I.un {λb u e n _ _=>r b u (j b n) e,λb u e n _ _=>{u.slots,r b u (j b n) e},λb u e n _=>?_,λb u e _=>?_,λb G e=>f b _ (h b _ e (by intro z;cases z)) e,λb M u e=>f b _ (h b _ e (by intro z;cases z)) e,λb L e=>?_} λb u e=>?_
 ·let a:=i4 e;let E:b≠c':=j8 (k7 a i);let D:b≠h'.objs.size:=j8 (Nat.lt_trans (k7 a i) p);rw [aC D,aC E,aC (j b n)];exact n
 ·by_cases a:b=T
  ·subst a;exact {_,f6 _ k}
  ·exact {u,r b u a e}
 ·by_cases a:b=T
  ·subst a;rw [m] at e;cases e;exact {d,by rw [aC J,aC F,aB]}
  ·exact {#[],by rw [f b _ a e];simp}
 ·by_cases B:b=h'.objs.size
  ·subst B;rw [aB] at e;cases e;exact Dm (i9 _ t)
  ·rw [aC B] at e;by_cases A:b=c'
   ·subst A;rw [aB] at e;cases e;exact On (l.push o)
   ·rw [aC A] at e;by_cases a:b=T
    ·subst a;rw [aB] at e;cases e;exact f6 _ k
    ·rw [aC a] at e;refine(I.hok b u e).stay (λc v w g=>r c v ?_ g) (λc z=>f c _ (h c _ z (by intro y;cases y)) z) λc G z=>f c _ (h c _ z (by intro y;cases y)) z;rcases w with rfl|z
     ·exact a
     ·exact h c _ z (by intro y;cases y)
end
def HY (T:Addr) (pos:Pos) (q:Str) (mk:Addr->Value->Obj):TE:=λ_ H Q=>kC H T pos q/\∀f c' ctv H',cY T H H'->H f=none->kC H' T pos q->H' c'=some (qI c' q)->H' f=some (Gh f (mk c' ctv))->Q (.ref f) H'
section
variable {X:Cx}
def Lf {d:Arguments} {i:Expr} {f:Scope} {pos:Pos} {c T:Addr} {clos:List (Str × Addr)} {q:Str} (j:X.env.code=.ref c) (hc:PySem.W.codeHdIn X.K c T=true) (N:uY X.base X.mg)
  (E:defaultsOf d X.env=([],[])) (x:closureFor f X.env=pure clos) (hq:X.env.qual++"<lambda>"=q) (U:True):
  PE X (.Lambda d i f pos) (HY T pos q λk g=>PySem.W.kla_obj "<lambda>" q d i f clos ((X.mg "__name__").getD .none) k g):=by
 intro pins s σ H Q I h;let ((ps,w,F,t),h):=h;subst hq;let G:s.heap.Ns mainGlobals X.mg:=I.ok.mod.glob.keeps I.bk;let p:s.heap.get? T=some (PySem.W.tabObj ps):=I.hok T _ w;let C:PySem.W.CodeHd s.heap c T:=PySem.W.codeHd_of_K I.kIn hc;let P:mainGlobals≠T:=λz=>by
  let (o,es,ep,e,O,_):=G;rw [z,p] at e;cases e;cases O
 let B:s.heap.BuiltinsAt X.mg T:=by
  let (bm,ob,b1,b2,b3,b4,b5,S):=N;let l:=I.bk _ _ b3;refine {bm,ob,b1,b2,λz=>?_,λz=>?_,l,b4,b5,S}
  ·let (o,es,ep,e,O,_):=G;rw [z,e] at l;cases l;rw [O] at S;cases S
  ·rw [z,p] at l;cases l;cases b4
 refine PySem.W.kla_eval E ?_;rcases t with y|⟨k,Z,L⟩
 ·refine PySem.W.kla_makeFunction x I.ok.glob G j C p F y P B λk g m tk hx r v A M=>?_;let nc:H k=none:=I.hok.fresh r;let n:H m.objs.size=none:=I.hok.fresh (l7 r (B5 v));let Tc:T≠k:=aD w nc;let Tf:T≠m.objs.size:=aD w n;let Y:k≠m.objs.size:=j8 v;let J:=I.madeNew (tk:=tk) (o:=PySem.W.kla_obj "<lambda>" (X.env.qual++"<lambda>") d i f clos ((X.mg "__name__").getD .none) k g) w hx r v A M rfl;refine {.ref m.objs.size,_,J,rfl,h m.objs.size k g _ (λb o B e=>?_) n {_,by rw [aC Tf,aC Tc,aB],?_,.inr {k,?_,?_}} ?_ aB}
  ·rw [aC (aD e n),aC (aD e nc),aC B];exact e
  ·rw [m9];exact TriplesOk_snoc _ _ _ _ F
  ·rw [m9];exact codeAmong_snoc _ F y
  ·rw [aC Y,aB]
  ·rw [aC Y,aB]
 ·refine PySem.W.kla_makeFunctionHit x I.ok.glob G j C p F Z B λg m tk hk D=>?_;let n:H m.objs.size=none:=I.hok.fresh D;refine {.ref m.objs.size,_,I.laid (a:=m.objs.size) (t':=tk) (λb u e=>f6 _ (hk b u e)) D (Dm (i9 _ rfl)),rfl,h m.objs.size k g _ (λb o B e=>?_) n {ps,?_,F,.inr {k,Z,?_}} ?_ aB}
  ·rw [aC (aD e n)];exact e
  ·rw [aC (aD w n)];exact w
  ·rw [aC (aD L n)];exact L
  ·rw [aC (aD L n)];exact L
end
def Tz {CX:mK} {P:Program} {w:World} {K:PySem.W.Frag} {mg:Str->Option Value} {base:Heap} {k:Nat} {f c':Addr} {q:Str} {c:Arguments} {d:Expr} {a:Scope} {pm j:Value} {N ps:List Str} {A:Around} {outer:List Env} {s:Shared} {H:Hp} {args:Args} {us:List Value} {vs:List V} {Q:VK} {E:XK}
  (O:H f=some (Gh f (PySem.W.kla_obj "<lambda>" q c d a [] pm c' j))) (L:H c'=some (qI c' q)) (S:aJ N ps a) (B:Room (k+1) A) (l:uX P w K mg base A outer s H)
  (T:bindArgs (PySem.W.kla_fn "<lambda>" q c d a [] pm (.ref c') j) args=pure (ps.zip us)) (r:bG vs us) (G:vs.length=ps.length)
  (i:Room k (A.deeper (envOfC q a s.heap.objs.size f (.ref c')))->∃t,PE (jH CX P w K mg base N q a f (.ref c') A outer s H E) d t/\t (dJ N vs) H Q):
  codeAny (model P w) A (.call (.ref f) args) (CR CX outer P w H s Q E) s:=by
 let m:s.heap.NoLimit:=l.mod.nolimit.keeps λb o e=>(l.bs b o e).1;let g:∀y ∈ ps.zip us,a.names.lookup y.1=some .local\/(a.names.lookup y.1=some .cell/\((cellsFrom (s.heap.objs.size+1) a.names []).lookup y.1).isSome=true):=λ⟨n,v⟩ hy=>by
  rcases S.par n (G5 hy).1 with q|q
  ·exact .inl q
  ·exact .inr {q,PySem.W.cellsFrom_some _ _ _ (.inl q)}
 let (C,_,_):=l.hok f _ O;let (h,_,_):=l.hok c' _ L;let C:s.heap.get? f=some (PySem.W.kla_obj "<lambda>" q c d a [] pm c' j):=C;let h:s.heap.CodeRec (.ref c') q:=h;refine PySem.W.kla_callFunE B.depth C rfl S.co S.gen rfl h ?_;rw [T];refine g9 ?_;refine wpAny_newFunctionEnv_cells S.kind g λU M D x=>?_;subst M;refine {m.keeps x.toInCall.keep,PySem.W.kla_codeExpr ?_};let (t,ht,Z):=i (B.deeper _);let I:aO (jH CX P w K mg base N q a f (.ref c') A outer s H E) [] (dJ N vs) H D:=sK S B.hd l G r x;refine v6 (ht D (dJ N vs) H _ I Z) (λu F p=>?_) λe F p=>p;let (v,X,J,Y,z):=p;exact {(v),X,J.os,J.bare,J.base,J.hok,Y,z}
end L2
namespace L2
open PySem PySem.Spec PyProof.Rows PySem.W
structure rG (X:Cx) (a:Addr):Prop where
 up:X.s₀.heap.objs.size<=a
 neL:a≠X.env.locals
 nfs:a ∉ X.fs
 neC:∀x c,X.env.cells.lookup x=some c->c≠a
 neP:∀p ∈ X.pn,p.1≠a
section
variable {X:Cx} {pins pins':List (Addr × Obj)} {σ:St} {H:Hp} {s:Shared} {a:Addr} {o o':Obj} {h':Heap} {tk:Nat}
def rG.of (I:aO X pins σ H s) (h:s.heap.objs.size<=a):rG X a:=by
 refine {l7 I.sz h,J6 (k7 I.lt h),λd=>?_,λx c e z=>?_,λp g z=>?_}
 ·let (_,o,b,_):=I.ok.funs.mem d;exact absurd (k7 (i4 b) (l7 I.sz h)) (x6 _)
 ·let (v,o,b,_):=I.cell x c e;rw [z] at b;exact absurd (k7 (i4 b) h) (x6 _)
 ·let (e,_):=I.pin p (A4 _ g);rw [z] at e;exact absurd (k7 (i4 e) h) (x6 _)
def aO.wr (I:aO X pins σ H s) (m:(a,o) ∈ pins) (O:rG X a) (j:Heap.SameBut a s.heap h') (e:h'.get? a=some o') (t:∀v,o'.data≠.cell v) (c:∀p ∈ pins',(p ∈ pins/\p.1≠a)\/p=(a,o')):
  aO X pins' σ H { s with heap:=h',toks:=tk }:=by
 let (_,n,_):=I.pin (a,o) (j3 _ m);let r:aO X [] σ H s:=I.pins_of λp c=>absurd c (by simp);let w:=r.turned (h':=h') (t':=tk) (it:=a) (λb u i g=>(j.2 b i).trans g) n O.neL (.inr O.up) O.neC (λp c=>O.neP p (by simpa using c));refine w.pins_of λp h=>?_;rcases c p h with ⟨h,i⟩|rfl
 ·let (g,q,k,l,d):=I.pin p (j3 _ h);exact {(j.2 _ i).trans g,q,k,l,d}
 ·exact {(e),n,O.neL,O.nfs,t}
def aO.pinAt (I:aO X pins σ H s) (b:(a,o) ∈ pins):s.heap.get? a=some o:=(I.pin (a,o) (j3 _ b)).1
def aO.pinIn (I:aO X pins σ H s) (b:(a,o) ∈ pins):s.heap.get? a=some o/\H a=none/\a≠X.env.locals/\a ∉ X.fs/\∀v,o.data≠.cell v:=I.pin (a,o) (j3 _ b)
def gP {T:String} {xs:Array Value} {n:Nat}:∀v,(seqObj T xs n).data≠.cell v:=λv z=>by cases z
end
section
variable {X:Cx} {pins:List (Addr × Obj)} {σ:St} {H:Hp} {s:Shared} {A':Around} {E:Value->Shared->Prop} {D kS f:Addr} {vs:List Value} {xs:List V} {kz:List Int} {keys:Array Value} {e e1 n:Nat} {J:Hp->Prop} {P:PySem.Fin->Shared->Prop}
def xD {st:SortSt} (I:aO X ((kS,seqObj "list" keys e)::(D,seqObj "list" #[] e1)::pins) σ H s) (hJ:J H) (OD:rG X D) (Ok:rG X kS) (ne:kS≠D) (pk:∀p ∈ pins,p.1≠kS) (pD:∀p ∈ pins,p.1≠D)
  (hk:IntsAre keys.toList kz) (hlen:kz.length=vs.length) (hz:vs.length<=sizeLine) (hp:(arrOf st).Perm (keys.zip vs.toArray)) (hs:SortedTo (arrOf st) (arrOf st).size) (hfl:failedOf st=none)
  (h:∀s' H' (os:List Value) c,aO X ((D,seqObj "list" os.toArray c)::pins) σ H' s'->J H'->KskOut false kz vs os->P (.done (.ret .none)) s'):
  wpAny (model X.prog X.w) A' (ksk_tail D false e1 (.ref kS) st) P E s:=by
 let nk:=I.pinAt (a:=kS) (o:=seqObj "list" keys e) (by simp);let na:=I.pinAt (a:=D) (o:=seqObj "list" #[] e1) (by simp);let hsz:keys.size=vs.length:=by
  let h1:=hk.length;rw [l9] at h1;omega
 let hsz2:(arrOf st).size=vs.length:=by rw [hp.size_eq,Array.size_zip,hsz,j6,Nat.min_self]
 let s1:=B9 s.heap kS (Obj.mapSeq λ_=>(#[]:Array Value));let na1:(s.heap.update kS (Obj.mapSeq λ_=>(#[]:Array Value))).get? D=some (seqObj "list" #[] e1):=(s1.2 D ne.symm).trans na;let s2:=B9 (s.heap.update kS (Obj.mapSeq λ_=>(#[]:Array Value))) D (Obj.mapSeq λ_=>(arrOf st).map (·.2));obtain⟨c1,hc1⟩:∃c1,(s.heap.update kS (Obj.mapSeq λ_=>(#[]:Array Value))).get? kS=some (seqObj "list" #[] c1):={_,get?_update_seq nk λ_=>#[]};obtain⟨c2,hc2⟩:∃c2,((s.heap.update kS (Obj.mapSeq λ_=>(#[]:Array Value))).update D (Obj.mapSeq λ_=>(arrOf st).map (·.2))).get? D=some (seqObj "list" ((arrOf st).map (·.2)) c2):=
  {_,get?_update_seq na1 λ_=>(arrOf st).map (·.2)}
 unfold ksk_tail
 try dsimp only
 refine c6 (listUpdate_at nk rfl ?_ (by rw [hsz];exact hz) (i5 _));refine c6 (O2 ?_);refine c6 (seqEpoch_at na1 rfl ?_);refine c6 (listUpdate_at na1 rfl ?_ (i5 _) (by simp only [x0,if_false,Array.size_map];omega));rw [hfl];simp only [bne_self_eq_false,x0,if_false];let I1:=I.wr (a:=kS) (o:=seqObj "list" keys e) (tk:=s.toks) (pins':=(D,seqObj "list" #[] e1)::pins) (by simp) Ok s1 hc1 gP λp hp=>.inl ⟨d0 _ hp,by
  rcases g8.mp hp with rfl|hp
  ·exact ne.symm
  ·exact pk p hp⟩;let I2:=I1.wr (a:=D) (o:=seqObj "list" #[] e1) (tk:=s.toks) (pins':=(D,seqObj "list" ((arrOf st).map (·.2)) c2)::pins) (by simp) OD s2 hc2 gP λp hp=>by
  rcases g8.mp hp with rfl|hp
  ·exact .inr rfl
  ·exact .inl {d0 _ hp,pD p hp}
 let ko:=ksk_out (b:=false) hk hp hs;refine g9 (h _ H ((arrOf st).map (·.2)).toList c2 (by rw [Array.toArray_toList];exact I2) hJ ?_);simpa using ko
def Rf {n:Nat} (h:n<128):n<=sizeLine:=by have:=sizeLine_eq;omega
def Ub (I:aO X ((kS,seqObj "list" keys e)::(D,seqObj "list" #[] e1)::pins) σ H s) (hJ:J H) (OD:rG X D) (Ok:rG X kS) (ne:kS≠D) (pk:∀p ∈ pins,p.1≠kS) (pD:∀p ∈ pins,p.1≠D)
  (hk:IntsAre keys.toList kz) (hlen:kz.length=vs.length) (hz:vs.length<128)
  (h:∀s' H' (os:List Value) c,aO X ((D,seqObj "list" os.toArray c)::pins) σ H' s'->J H'->KskOut false kz vs os->P (.done (.ret .none)) s'):
  wpAny (model X.prog X.w) A' (ksk_end D false vs.toArray e1 (.ref kS) keys) P E s:=by
 let hsz:keys.size=vs.length:=by
  let h1:=hk.length;rw [l9] at h1;omega
 let hzs:(keys.zip vs.toArray).size=vs.length:=by rw [Array.size_zip,hsz,j6,Nat.min_self]
 unfold ksk_end;simp only [x0,if_false];by_cases h2:vs.toArray.size<2
 ·rw [if_pos h2,if_pos h2];refine c6 (g9 ?_);rw [StateT.run_pure];refine c6 (g9 ?_)
  try dsimp only
  refine xD (st:=SortSt.mk' general' (keys.zip vs.toArray) #[] 7 none) I hJ OD Ok ne pk pD hk hlen (Rf hz) (P7 _) ?_ rfl h;intro i j hij hj;let hj2:j<(keys.zip vs.toArray).size:=hj;rw [hzs] at hj2;rw [j6] at h2;have:i=j:=∎;subst this;exact j0 _
 ·rw [if_neg h2,if_neg h2];rw [j6] at h2;rw [ksk_kind hk (by rw [hsz];omega)];refine c6 (g9 ?_);refine c6 (v6 (Sr.wpS_sortAny (a₀:=keys.zip vs.toArray) (κ:=oneType') (rk:=λp=>numOf p.1) (st:=SortSt.mk' oneType' (keys.zip vs.toArray) #[] 7 none)
   (Q:=λ_ st'=>(arrOf st').Perm (keys.zip vs.toArray)/\failedOf st'=none/\SortedTo (arrOf st') (keys.zip vs.toArray).size)
   (Sr.cmp_ints (ksk_intKeys hk)) {P7 _,rfl,rfl} rfl (by rw [hzs];omega) (by rw [hzs];exact hz) λst' b hs=>{b.perm,b.failed,λi j hij hj=>hs i j (i5 _) hij hj}) ?_ λ_ _ e=>e);rintro⟨⟨⟩,st'⟩ s' ⟨rfl,hp,hf,hs⟩
  try dsimp only
  exact xD I hJ OD Ok ne pk pD hk hlen (Rf hz) hp (by rw [hp.size_eq];exact hs) hf h
def Nc (I:aO X ((kS,seqObj "list" #[] 0)::(D,seqObj "list" #[] e1)::pins) σ H s) (hJ:J H) (OD:rG X D) (Ok:rG X kS) (ne:kS≠D) (pk:∀p ∈ pins,p.1≠kS) (pD:∀p ∈ pins,p.1≠D)
  (rv:bG xs vs) (hlen:kz.length=vs.length) (hz:vs.length<128)
  (turn:∀(pins':List (Addr × Obj)) (H':Hp) (s':Shared) (i:Nat) (x:V) (v:Value) (k:Int),aO X pins' σ H' s'->J H'->xs[i]?=some x->kz[i]?=some k->bJ x v->wpAny (model X.prog X.w) A' (call (.ref f) [v]) (EP X pins' σ λy H''=>y=.int k/\J H'') (λ_ _=>False) s')
  (h:∀s' H' (os:List Value) c,aO X ((D,seqObj "list" os.toArray c)::pins) σ H' s'->J H'->KskOut false kz vs os->P (.done (.ret .none)) s'):
  wpAny (model X.prog X.w) A' (ksk_rest D (.ref f) false vs.toArray e1 (.ref kS)) P E s:=by
 unfold ksk_rest;refine c6 (F1 ?_)
 first
  | rw [List.forIn_toArray]
  | (rw [<- Array.forIn_toList];simp only [List.toList_toArray])
  | rw [<- Array.forIn_toList]
 refine c6 (ksk_fold (λi s'=>∃H' kA e,aO X ((kS,seqObj "list" kA e)::(D,seqObj "list" #[] e1)::pins) σ H' s'/\J H'/\IntsAre kA.toList (kz.take i)) vs 0 s
  {H,#[],0,I,hJ,by simpa using IntsAre.nil} ?step ?done)
 case step=>
  rintro j v s' hv ⟨H',kA,e,I',hJ',hk⟩;simp only [P6] at hk ⊢;let hj:j<vs.length:=(c8.mp hv).1;obtain⟨k,hkj⟩:∃k,kz[j]?=some k:={_,c7 ∎};obtain⟨x,hx,rx⟩:∃x,xs[j]?=some x/\bJ x v:=by
   let ll:=rv.length;let (u,hu,r):=rv.get (c7 (show j<xs.length by omega));rw [hv] at hu;cases hu;exact {_,c7 ∎,r}
  let hz':kA.size<=vs.length:=by
   let h1:=hk.length;rw [l9,l0] at h1;omega
  refine c6 (L3 (v6 (turn _ H' s' j x v k I' hJ' hx hkj rx) (λu s'' he=>?_) λ_ _ hF=>hF.elim));let (y,H2,I2,ry,rfl,hJ2):=he;obtain⟨t2,rfl⟩:∃t,u=.int k t:=ry
  try dsimp only
  let nk:=I2.pinAt (a:=kS) (o:=seqObj "list" kA e) (by simp);let s1:=B9 s''.heap kS (Obj.mapSeq (·.push (.int k t2)));obtain⟨c2,hc2⟩:∃c2,(s''.heap.update kS (Obj.mapSeq (·.push (.int k t2)))).get? kS=some (seqObj "list" (kA.push (.int k t2)) c2):={_,get?_update_seq nk (·.push (.int k t2))};let ek:kz.take (j+1)=kz.take j++[k]:=by rw [A3,hkj];simp
  let ea:(kA.push (Value.int k t2)).toList=kA.toList++[Value.int k t2]:=by simp
  let slz:=sizeLine_eq;refine c6 (listUpdate_at nk rfl ?_ ∎ (l7 (D4 (M0 ..)) ∎));refine g9 {rfl,H2,kA.push (.int k t2),c2,I2.wr (a:=kS) (o:=seqObj "list" kA e) (tk:=s''.toks) (by simp) Ok s1 hc2 gP (λp hp=>?_),hJ2,by rw [ea,ek];exact ksk_snoc hk};rcases g8.mp hp with rfl|hp
  ·exact .inr rfl
  ·refine .inl {d0 _ hp,?_};rcases g8.mp hp with rfl|hp
   ·exact ne.symm
   ·exact pk p hp
 case done=>
  rintro s' ⟨H',kA,e,I',hJ',hk⟩;let hk':IntsAre kA.toList kz:=by
   let e3:kz.take (0+vs.length)=kz:=p8 ∎;rw [e3] at hk;exact hk
  let nk:=I'.pinAt (a:=kS) (o:=seqObj "list" kA e) (by simp)
  try dsimp only
  refine c6 (listItems_at nk rfl ?_);exact Ub I' hJ' OD Ok ne pk pD hk' hlen hz h
def Ir (I:aO X ((D,seqObj "list" vs.toArray n)::pins) σ H s) (hJ:J H) (OD:rG X D) (pD:∀p ∈ pins,p.1≠D) (rv:bG xs vs) (hlen:kz.length=vs.length) (hz:vs.length<128)
  (turn:∀(pins':List (Addr × Obj)) (H':Hp) (s':Shared) (i:Nat) (x:V) (v:Value) (k:Int),aO X pins' σ H' s'->J H'->xs[i]?=some x->kz[i]?=some k->bJ x v->wpAny (model X.prog X.w) A' (call (.ref f) [v]) (EP X pins' σ λy H''=>y=.int k/\J H'') (λ_ _=>False) s')
  (h:∀s' H' (os:List Value) c,aO X ((D,seqObj "list" os.toArray c)::pins) σ H' s'->J H'->KskOut false kz vs os->P (.done (.ret .none)) s'):
  wpAny (model X.prog X.w) A' (ksk_tree D (.ref f) false) P E s:=by
 let ho:=I.pinAt (a:=D) (o:=seqObj "list" vs.toArray n) (by simp);let ha:D<s.heap.objs.size:=i4 ho;let s1:=B9 s.heap D (Obj.mapSeq λ_=>(#[]:Array Value));obtain⟨e1,ho1⟩:∃e1,(s.heap.update D (Obj.mapSeq λ_=>(#[]:Array Value))).get? D=some (seqObj "list" #[] e1):={_,get?_update_seq ho λ_=>#[]};let I1:=I.wr (a:=D) (o:=seqObj "list" vs.toArray n) (tk:=s.toks) (pins':=(D,seqObj "list" #[] e1)::pins) (by simp) OD s1 ho1 gP λp hp=>by
  rcases g8.mp hp with rfl|hp
  ·exact .inr rfl
  ·exact .inl {d0 _ hp,pD p hp}
 let I2:=I1.kept (h':=(s.heap.update D (Obj.mapSeq λ_=>(#[]:Array Value))).push (seqObj "tuple" vs.toArray 0)) (t':=s.toks) λb u g=>f6 _ g;let I3:=I2.kept (h':=((s.heap.update D (Obj.mapSeq λ_=>(#[]:Array Value))).push (seqObj "tuple" vs.toArray 0)).push (seqObj "list" #[] 0)) (t':=s.toks) λb u g=>f6 _ g;let Ok:=rG.of I2 (c9 _);let nH:H ((s.heap.update D (Obj.mapSeq λ_=>(#[]:Array Value))).push (seqObj "tuple" vs.toArray 0)).objs.size=none:=I2.hok.fresh (c9 _);let lt2:∀p ∈ (D,seqObj "list" #[] e1)::pins,p.1<((s.heap.update D (Obj.mapSeq λ_=>(#[]:Array Value))).push (seqObj "tuple" vs.toArray 0)).objs.size:=λp hp=>i4 (I2.pinAt (a:=p.1) (o:=p.2) hp);unfold ksk_tree;refine c6 (listItems_at ho rfl ?_);refine c6 (listUpdate_at ho rfl ?_ (by rw [j6];exact Rf hz) (i5 _));refine c6 (seqEpoch_at ho1 rfl ?_);refine c6 (Q0 ?_ (Rf hz));refine c6 (Q7 ?_ (i5 _));refine w9 ?_;refine Nc (e1:=e1) (I3.pins_of λp hp=>?_) hJ OD Ok (J6 (lt2 (D,seqObj "list" #[] e1) (by simp))) (λp hp=>j8 (lt2 p (d0 _ hp))) pD rv hlen hz turn h;rcases g8.mp hp with rfl|hp
 ·exact {i9 _ rfl,nH,Ok.neL,Ok.nfs,gP}
 ·exact I3.pinIn (a:=p.1) (o:=p.2) hp
end
def eL (v d:Addr):HO:=.ext λh=>h.IsValuesView v d
def Hu {P:Program} {w:World} {H:Hp} {h:Heap} {v d:Addr} (x:h.IsValuesView v d):bL P w H h v (eL v d):=⟨x,let ⟨o,e,_⟩:=x;{(o),e},λb a ⟨o,e,r⟩ k=>{o,k o e,r}⟩
def CK (a:Addr) (o:Obj) (kvs:List (bZ × V)):It:=
 ⟨λi H=>H a=some (.frz o (.dK kvs))/\i<kvs.length,λi H x H'=>H'=H/\∃e,kvs[i]?=some e/\x=e.2,λi H=>H a=some (.frz o (.dK kvs))/\kvs.length<=i⟩
theorem KV.at {kvs:List (bZ × V)} {vs:List (bZ × Value)} (r:KV kvs vs) {i:Nat} {k:bZ} {v:Value} (e:vs[i]?=some (k,v)):∃p,kvs[i]?=some p/\bJ p.2 v:=by
 induction r generalizing i with
 | nil=>simp at e
 | cons h t ih=>
  cases i with
  | zero=>
   simp only [List.getElem?_cons_zero,N3] at e;subst e;exact {_,rfl,h.2}
  | succ i=>
   simp only [List.getElem?_cons_succ] at e ⊢;exact ih e
def Ek {P:Program} {l:Option Value} {w:World} {K:Frag} {tg:Expr} (a it:Addr) (o:Obj) (kvs:List (bZ × V)) {S:Array DictEntry} {ep:Nat} (L:o.data=.dict S ep) (O:l=none):Am P w K l tg (CK a o kvs) [it] it (λi h=>h.IsValIter it a i kvs.length ep) where
 mem:=by simp
 obj:=λi h g b j=>by
  let e:b=it:=by simpa using j
  subst e
  let (o,e,c,d):=g
  exact {o,e,λv z=>by rw [d] at z;cases z}
 keep:=λi h q ⟨o,e,r⟩ k=>{o,k it (by simp) o e,r}
 item:=by
  intro X C G B N i f s σ H E I n g x;subst C G B;let (e,hi):=x;let (A,r,y):=Ds I e L;let t:=r.length;let (F,J,f2,u,f4,D):=n it (by simp);obtain⟨⟨k,v⟩,M⟩:∃p,A[i]?=some p:={A[i],c7 ∎};refine wpAny_pyNext_values_item (by rw [<- t];exact g) y M λq m Y=>?_;let T:aO X f σ H { s with heap:=q }:=I.turned (t':=s.toks) (λb o j e=>(Y.2 b j).trans e) F J u f4 D;let (oi,U,Z,Q):=id m;let (p,hp,rp):=KV.at r M;refine {v,rfl,xI (s:={ s with heap:=q }) U Z Q (by decide) {p.2,H,T,rp,{(rfl),p,hp,rfl},by rw [t];exact m,λb j=>(n b j).1}}
 done:=by
  intro X C G B N i f s σ H E I n g x;subst C G B;let (e,hi):=x;let (A,r,y):=Ds I e L;let t:=r.length;let (F,J,f2,u,f4,D):=n it (by simp);exact wpAny_pyNext_values_end (N.trans O) (by rw [<- t];exact g) y (A0 ∎) λq eb=>{rfl,I.turned (t':=s.toks) (λb o j e=>eb b o j e) F J u f4 D}
 self:=λ_ _ _ _ _ g h=>wpAny_pyIter_valiter g h
section
variable {X:Cx} {tg:Expr}
def Xa:V->List V->Hp->VK->Prop:=λx vs H Q=>∃a kvs,x=.ref a/\vs=[]/\H a=some (.dK kvs)/\∀v,H v=none->Q (.ref v) (aR H v (eL v a))
def Fn:JM X "dict.values" Xa:=by
 intro i s σ H x t v o Q I l m h;let (a,c,rfl,rfl,n,q):=h;cases l;let f:=m.zero;subst f;let (p,k,d,r,g):=(show bL X.prog X.w H s.heap a (.dK c) from I.hok a _ n);refine call_meetsIn PySem.F.slot_dict_values g.typeIs PySem.F.entry_dict_values (PySem.F.args_dict_values_1 _) (meets_dict_values (cK X.prog X.w) a k) {{(d),g},?_};let j:H s.heap.objs.size=none:=I.hok.fresh (c9 _);exact {.ref s.heap.objs.size,_,I.laid (a:=s.heap.objs.size) (t':=s.toks) (λb u e=>f6 _ e) (c9 _) (Hu {_,i9 _ rfl,rfl,rfl}),rfl,q _ j}
def nY {o:Expr} {e:TE} {b a:Pos} (f:PE X o e) (c:attributeBase o "values" X.env (eval o X.env)=eval o X.env:=by rfl) (d:(b.endLine == a.line)=true:=by rfl):PE X (.Call (.Attribute o "values" b) [] [] a) (DV X.K "dict" Xa e):=
 Zw PySem.F.plainAttrs_dict PySem.F.slot_dict_values PySem.F.type_dict_values Fn f c d
def FQ (tl:TE):TI:=λσ H R=>tl σ H λx H1=>∃v a kvs,x=.ref v/\H1 v=some (eL v a)/\H1 a=some (.dK kvs)/\∀o,R (CK a o kvs) (aR H1 a (.frz o (.dK kvs)))
def uD {l:Expr} {p:TE} (L:PE X l p) (k:X.calm=true:=by rfl):PI X tg l (FQ p):=by
 intro n s σ H R I h;refine eY (L s σ H _ I h) λu i x F j J z=>?_;let (v,a,kvs,e,B,t,q):=z;subst e;cases J;let (f,_,_):=j.hok v _ B;let f:i.heap.IsValuesView v a:=f;let (o,y,m):=j.freeze t;let (M,N,C,r,O,A,ep,g,c,d,D,K,E):=(show bL X.prog X.w F i.heap a (.dK kvs) from j.hok a _ t);rw [y] at g;cases g;refine wpAny_pyIter_values (knd:=cK X.prog X.w) (kvs:=C) (ep:=ep) f {(o),A,y,c,d,D,K,E} ?_;refine {i.heap.objs.size,[i.heap.objs.size],_,_,_,rfl,m.kept (t':=i.toks) λb o e=>f6 _ e,Ek a _ o kvs d (I.ok.hd k),?_,λb G=>?_,q o}
 ·exact {_,i9 _ rfl,rfl,by rw [r.length];rfl}
 ·let e:b=i.heap.objs.size:=by simpa using G
  subst e;exact m.fpOk (c9 _) (m.hok.fresh (c9 _))
def Nw {a:Addr} {o:Obj} {kvs:List (bZ × V)} {g:TG} {tb:TS} {D:eK} {σ:St} {H:Hp} (b:Nat->St->Hp->Prop) (s:b 0 σ H) (n:∀i σ H,i<=kvs.length->b i σ H->H a=some (.frz o (.dK kvs)))
  (l:∀i e σ H,kvs[i]?=some e->b i σ H->g e.2 σ H λf h=>tb { D with nx:=b (i+1),ct:=b (i+1),bk:=D.nx } f h) (r:∀ σ H,b kvs.length σ H->D.nx σ H):
  ∃W:Nat->Nat->St->Hp->Prop,(∃m,W 0 m σ H)/\∀i m σ H,W i m σ H ->
   ((CK a o kvs).stop i H/\D.nx σ H)\/((CK a o kvs).go i H/\∃N:St->Hp->Prop,(∀j c,N j c->∃k,k<m/\W (i+1) k j c)/\∀x c,(CK a o kvs).yld i H x c->g x σ c λf h=>tb { D with nx:=N,ct:=N,bk:=D.nx } f h):=by
 refine {λi m σ H=>m=kvs.length-i/\i<=kvs.length/\b i σ H,{kvs.length,by simp,i5 _,s},?_};rintro i m σ H ⟨rfl,u,p⟩;let q:=n i σ H u p;by_cases d:i<kvs.length
 ·refine .inr {{(q),d},b (i+1),λj c t=>{kvs.length-(i+1),∎,rfl,d,t},λx c y=>?_};let (rfl,e,v,rfl):=y;exact l i e σ _ v p
 ·let e:i=kvs.length:=∎;subst e;exact .inl {{q,c9 _},r σ H p}
end
def Eg (X:Cx) (A':Around) (σ:St) (f:Addr) (J:Hp->Prop) (x:V) (φ:Hp->V->Hp->Prop):Prop:=∀(pins':List (Addr × Obj)) (H':Hp) (s':Shared) (v:Value),aO X pins' σ H' s'->J H'->bJ x v ->
 wpAny (model X.prog X.w) A' (call (.ref f) [v]) (EP X pins' σ λy H''=>φ H' y H''/\J H'') (λ_ _=>False) s'
def Di {X:Cx} {i:Around} {σ:St} {k:Nat} {f c':Addr} {q p:Str} {c:Arguments} {d:Expr} {a:Scope} {pm m:Value} {N:List Str} {tb:TE} {J:Hp->Prop} {x:V} {φ:Hp->V->Hp->Prop}
  (O:∀b,J b->b f=some (Gh f (kla_obj "<lambda>" q c d a [] pm c' m))) (z:∀b,J b->b c'=some (qI c' q)) (F:X.A.frames=some X.stack->i.frames=some X.stack) (M:Room (k+1) i) (S:aJ N [p] a) (T:∀u,bindArgs (kla_fn "<lambda>" q c d a [] pm (.ref c') m) {[u],[]}=pure [(p,u)])
  (h:∀(s:Shared) (H:Hp),Room k (i.deeper (envOfC q a s.heap.objs.size f (.ref c')))->PE (jH cX X.prog X.w X.K X.mg X.base N q a f (.ref c') i X.stack s H E0).nox d tb)
  (D:∀b,J b->tb (dJ N [x]) b (λy l=>φ b y l/\J l)):Eg X i σ f J x φ:=by
 intro o b B v I j r;let G:=O b j;let C:=z b j;let L:=D b j;let g:=I.env0;let P:uX X.prog X.w X.K X.mg X.base i X.stack B b:={F I.ok.frames,g.mod,g.bs,g.bsz,g.funs,g.frf,g.hok,g.bare};refine K6 (D5 (Tz (CX:=cX) (E:=E0) (us:=[v]) (vs:=[x]) G C S M P (T v) (.cons r .nil) rfl λt=>{tb,(h B b t).nox,L}) λr Q n=>?_);cases r with
 | error e=>exact n
 | ok fl=>
  cases fl with
  | ret u=>exact I.after n
  | next=>exact False.elim n
  | brk=>exact False.elim n
  | cont=>exact False.elim n
def aO.track {X:Cx} {pins:List (Addr × Obj)} {σ:St} {H:Hp} {s:Shared} {D:Addr} {o:Obj} {u:HO} (I:aO X ((D,o)::pins) σ H s) (O:rG X D) (i:∀p ∈ pins,p.1≠D) (g:bL X.prog X.w (aR H D u) s.heap D u):aO X pins σ (aR H D u) s:=by
 let n:H D=none:=(I.pinIn (a:=D) (o:=o) (by simp)).2.1;let h:aO X pins σ H s:=I.pins_of λp hp=>I.pinIn (a:=p.1) (o:=p.2) (d0 _ hp);let d:∀b v,H b=some v->(aR H D u) b=some v:=λb v e=>by rw [aC (aD e n)];exact e
 refine h.step (h':=s.heap) (g':=s.gens) (t':=s.toks) (d':=s.drawn) (ch:=[D]) (λb f=>?_) (λb o _ _ _ e _=>e) (λb o _ _ _ e _=>{(o.slots),e}) (λb o f e z=>?_) (λb o _ e=>{(o),e}) (λb j e=>d b _ e) (λb o v e=>d b _ e) (λb k e=>{#[],by rw [d b _ e];simp}) (λm z=>z) (λb v e=>?_) h.bare
 ·let z:b=D:=by simpa using f
  subst z;refine {.inr O.up,O.neL,O.neC,λp hp=>?_};rcases j1.mp hp with hp|hp
  ·exact O.neP p hp
  ·exact i p hp
 ·rw [aC (λy=>f (by simp [y]))];exact z
 ·by_cases f:b=D
  ·subst f;rw [aB] at e;cases e;exact g
  ·rw [aC f] at e;exact(h.hok b v e).stay (λc l _ r=>r) (λc z=>d c _ z) λc j z=>d c _ z
theorem pG {α β:Type} (g:α->β):∀{ps:List β} {L:List α},ps.Perm (L.map g)->∃L':List α,L'.Perm L/\ps=L'.map g
 | [],L,h=>by
  have:L.map g=[]:=List.perm_nil.mp h.symm
  exact {[],by rw [List.map_eq_nil_iff.mp this],rfl}
 | a::ps,L,h=>by
  let (l,j,rfl):=w8.mp (h.mem_iff.mp (i0 ..))
  let (b,c,rfl):=List.append_of_mem j
  have e:(b++l::c).Perm (l::(b++c)):=List.perm_middle
  have f:(g l::ps).Perm (g l::(b++c).map g):=h.trans (by simpa using e.map g)
  let (L',i,d):=pG g f.cons_inv
  exact {l::L',(i.cons l).trans e.symm,by rw [r6,d]}
def Qd (kz:List Int) (xs ys:List V):Prop:=∃ps:List (Int × V),ps.Perm (kz.zip xs)/\ys=ps.map (·.2)/\ps.Pairwise (λp q=>p.1<=q.1)
def Ht {xs:List V} {vs:List Value} (h:bG xs vs) (p:V × Value) (a:p ∈ xs.zip vs):bJ p.1 p.2:=by
 induction h with
 | nil=>cases a
 | cons r _ t=>
  cases a with
  | head=>exact r
  | tail _ h=>exact t h
theorem Bf:∀{L:List (V × Value)},(∀p ∈ L,bJ p.1 p.2)->bG (L.map (·.1)) (L.map (·.2))
 | [],_=>.nil
 | p::L,h=>.cons (h p (i0 ..)) (Bf λq a=>h q (d0 _ a))
def Oq {kz:List Int} {xs:List V} {vs e:List Value} (d:bG xs vs) (h:KskOut false kz vs e):∃a,bG a e/\Qd kz xs a:=by
 let (l,f,rfl,c):=h;let m:=d.length;let k:(kz.zip (xs.zip vs)).map (λt=>(t.1,t.2.2))=kz.zip vs:=by
  have:(xs.zip vs).map (·.2)=vs:=O8 ∎
  conv=>rhs;rw [<- this]
  rw [List.zip_map_right];rfl
 let i:(kz.zip (xs.zip vs)).map (λt=>(t.1,t.2.1))=kz.zip xs:=by
  have:(xs.zip vs).map (·.1)=xs:=List.map_fst_zip ∎
  conv=>rhs;rw [<- this]
  rw [List.zip_map_right];rfl
 rw [<- k] at f;let (L,b,rfl):=pG _ f;refine {L.map (·.2.1),?_,L.map (λt=>(t.1,t.2.1)),by rw [<- i];exact b.map _,by rw [B0];rfl,?_}
 ·have:=Bf (L:=L.map (·.2)) λp j=>by
   let (t,g,rfl):=w8.mp j;exact Ht d t.2 (G5 (b.mem_iff.mp g)).2
  rw [B0,B0] at this;rw [B0];exact this
 ·rw [List.pairwise_map] at c ⊢;exact c.imp λh=>by simpa using h
def Ua {kvs:List (bZ × V)} {vs:List (bZ × Value)} (h:KV kvs vs):bG (kvs.map (·.2)) (vs.map (·.2)):=by
 induction h with
 | nil=>exact .nil
 | cons h _ t=>exact .cons h.2 t
section
variable {X:Cx}
def Kt (X:Cx) (σ:St):List V->List V->Hp->VK->Prop:=λxs ds H Q=>∃(v a f:Addr) (kvs:List (bZ × V)) (kz:List Int) (J:Hp->Prop),xs=[.ref v]/\ds=[.ref f]/\H v=some (eL v a)/\H a=some (.dK kvs)/\J H/\kz.length=kvs.length/\kvs.length<128 /\
 (∀(i:Nat) (e:bZ × V) (k:Int),kvs[i]?=some e->kz[i]?=some k->Eg X X.A.in1.in1 σ f J e.2 λ_ y _=>y=.int k)/\∀l ys H',J H'->H' l=none->Qd kz (kvs.map (·.2)) ys->Q (.ref l) (aR H' l (.lst ys))
def Ag (hc:X.calm=true) {pins:List (Addr × Obj)} {s:Shared} {σ:St} {H:Hp} {xs ds:List V} {us ws:List Value} {Q:VK} (I:aO X pins σ H s) (r:bG xs us) (rd:bG ds ws) (h:Kt X σ xs ds H Q):
  wpAny (model X.prog X.w) X.A (call (.builtin "sorted") us ([("key":Str)].zip ws)) (EP X pins σ Q) X.xe s:=by
 let (v,a,f,kvs,kz,J,rfl,rfl,hv,ha,hJ,hkl,h64,hkey,q):=h;let (u,rfl,ru):=r.one;cases ru;let (u',rfl,ru'):=rd.one;cases ru';let (view,_,_):=I.hok v _ hv;let view:s.heap.IsValuesView v a:=view;let (hz,hS,vs,rkv,o',es,ep,g,c,d,k1,k2,k3):=(show bL X.prog X.w H s.heap a (.dK kvs) from I.hok a _ ha);let ln:=rkv.length;show wpAny _ _ (call (.builtin "sorted") [.ref v] [(Str.ofString "key",.ref f)]) _ _ _;refine call_function_entry_kw kind_sorted plain_sorted entry_sorted (ksk_s1 _ _) ?_;unfold Builtin.«sorted»;refine c6 (m:=checkCount "sorted" 1 1 _) (g9 ?_);refine c6 (kdu_collect (kdl_values (knd:=cK X.prog X.w) (kvs:=vs) (ep:=ep)) (by simpa using I.ok.hd hc) {(view),o',es,g,c,d,k1,k2,k3} ∎ λh' tk acc hk hacc=>?_)
 let av:acc.toList=vs.map (·.2):=kdl_vals_eq _ (by rw [l9];exact hacc.1) λj x hx=>hacc.2 j x (by rw [<- P1];exact hx)
 rw [av];let I1:aO X pins σ H { s with heap:=h',toks:=tk }:=I.kept hk;let rv:bG (kvs.map (·.2)) (vs.map (·.2)):=Ua rkv;let lv:(vs.map (·.2)).length<=sizeLine:=by rw [g7];omega
 refine c6 (Q7 ?_ (by rw [g7];omega));let OD:rG X h'.objs.size:=rG.of I1 (c9 _);let nD:H h'.objs.size=none:=I1.hok.fresh (c9 _);let I2:aO X pins σ H { s with heap:=h'.push (seqObj "list" (vs.map (·.2)).toArray 0),toks:=tk }:=I1.kept λb o e=>f6 _ e;let hoL:(h'.push (seqObj "list" (vs.map (·.2)).toArray 0)).get? h'.objs.size=some (seqObj "list" (vs.map (·.2)).toArray 0):=i9 _ rfl;let pD:∀p ∈ pins,p.1≠h'.objs.size:=λp hp=>j8 (i4 (I1.pinAt (a:=p.1) (o:=p.2) hp));let I3:aO X ((h'.objs.size,seqObj "list" (vs.map (·.2)).toArray 0)::pins) σ H { s with heap:=h'.push (seqObj "list" (vs.map (·.2)).toArray 0),toks:=tk }:=I2.pins_of λp hp=>by
  rcases g8.mp hp with rfl|hp
  ·exact {(hoL),nD,OD.neL,OD.nfs,gP}
  ·exact I2.pinIn (a:=p.1) (o:=p.2) hp
 refine c6 (w9 (wpAny_call_entry_kw slot_list_sort {_,hoL,rfl} entry_list_sort ?body (ksk_l1 _ _)))
 case body=>
  show wpAny (model X.prog X.w) X.A.in1.in1 (Builtin.«list.sort» {[.ref h'.objs.size],[(Str.ofString "key",.ref f)]}) _ _ _;rw [ksk_t1];refine Ir (kz:=kz) (J:=J) I3 hJ OD pD rv (by rw [g7];omega) (by have:=rkv.length;rw [g7];omega) (λpins' H' s' i x v k I' j hx hk' rx=>?_) λs' H' os c' I' j ko=>?_
  ·rw [i8] at hx;cases hi:kvs[i]? with
   | none=>rw [hi] at hx;cases hx
   | some e=>
    rw [hi] at hx;cases hx;exact hkey i e k hi hk' pins' H' s' v I' j rx
  ·let (ys,ry,bk):=Oq rv ko;let ly:ys.length<=sizeLine:=by
    let (ps,p1,rfl,_):=bk;have:=p1.length_eq;rw [C5,g7] at this;rw [g7];omega
   let nD':H' h'.objs.size=none:=(I'.pinIn (a:=h'.objs.size) (o:=seqObj "list" os.toArray c') (by simp)).2.1;let eD:=I'.pinAt (a:=h'.objs.size) (o:=seqObj "list" os.toArray c') (by simp);refine {.none,rfl,g9 {.ref h'.objs.size,rfl,.ref h'.objs.size,_,I'.track (u:=.lst ys) OD pD {(ly),os,c',ry,eD},rfl,q _ ys H' j nD' bk}}
def Xx (X:Cx) (ta td:TA):TE:=λσ H Q=>ta σ H λxs H1=>td σ H1 λds H2=>Kt X σ xs ds H2 Q
def Ld {x:Str} {p pos c:Pos} {a b:Expr} {l k:TA} (w:X.calm=true) (o:Gl X x) (n:X.mg x=none) (v:bootBuiltins x=some (.builtin "sorted")) (C:PA X [a] l) (u:PK X [{some "key",b,c}] k) (z:x≠"__name__":=by decide) (i:(x == ("__debug__":Str))=false:=by decide)
  (e:(backToKw pos (keywordEach [{some "key",b,c}] X.env)).all (·.1.isSome)=true:=by rfl) (f:(backToKw pos (keywordEach [{some "key",b,c}] X.env)).filterMap (·.1)=[("key":Str)]:=by rfl)
  (y:starEach [a] X.env=(false,eval a X.env)::starEach [] X.env:=by rfl) (j:((backTo pos (starEach [a] X.env)).any (·.1) || (backToKw pos (keywordEach [{some "key",b,c}] X.env)).any (·.1.isNone))=false:=by rfl):
  PE X (.Call (.Name x p) [a] [{some "key",b,c}] pos) (Xx X l k):=by
 intro d s σ H Q I h;refine C2 (jC I o n v ?_ z i);refine PySem.W.callWith_of (P:=λg=>X.K.In g) j (λ_ _=>{.machine,.inr (.inl rfl),.now}) (L9 e (uZ (C d s σ H _ I h) λM t G D A r q=>?_) y);refine uZ (u pos d t σ D _ A q) λJ F N L m B E=>{m.kIn,?_};rw [f];exact Ag w m r B E
def kE (p q:Int × Int):Prop:=p.1<q.1\/(p.1=q.1/\p.2<q.2)
instance (p q:Int × Int):Decidable (kE p q):=by unfold kE;infer_instance
def Fs (p q:Int × Int):HT.lexLt [p.1,p.2] [q.1,q.2]=decide (kE p q):=by
 rw [E9,decide_eq_true_eq];simp only [HT.lexLt_cons,HT.lexLt_nil_nil,kE];split
 ·split
  ·simp;omega
  ·simp;omega
 ·simp;omega
def Fp {p q r:Int × Int} (a:kE p q) (h2:¬ kE r q):kE p r:=by
 unfold kE at *;omega
def Ts {p q r:Int × Int} (a:kE p q) (h2:¬ kE r q):¬ kE r p:=by
 unfold kE at *;omega
def Dh {p:Int × Int}:¬ kE p p:=by
 unfold kE;omega
def GX (k:Int × Int):Hp->V->Hp->Prop:=λH' y H''=>(∃t,y=.ref t/\H'' t=some (.tup [.int k.1,.int k.2]))/\∀b xs,H' b=some (.tup xs)->H'' b=some (.tup xs)
def aO.wrK {X:Cx} {pins pins':List (Addr × Obj)} {σ:St} {H:Hp} {s:Shared} {a:Addr} {o o':Obj} {h':Heap} {tk:Nat} (I:aO X pins σ H s) (q:(a,o) ∈ pins) (O:rG X a) (j:∀b u,b≠a->s.heap.get? b=some u->h'.get? b=some u) (e:h'.get? a=some o') (w:∀v,o'.data≠.cell v) (c:∀p ∈ pins',(p ∈ pins/\p.1≠a)\/p=(a,o')):
  aO X pins' σ H { s with heap:=h',toks:=tk }:=by
 let (_,n,_):=I.pin (a,o) (j3 _ q);let t:aO X [] σ H s:=I.pins_of λp c=>absurd c (by simp);let x:=t.turned (h':=h') (t':=tk) (it:=a) (λb u i g=>j b u i g) n O.neL (.inr O.up) O.neC (λp c=>O.neP p (by simpa using c));refine x.pins_of λp h=>?_;rcases c p h with ⟨h,i⟩|rfl
 ·let (g,r,k,m,d):=I.pin p (j3 _ h);exact {j _ _ i g,r,k,m,d}
 ·exact {(e),n,O.neL,O.nfs,w}
def aO.listAt {X:Cx} {pins:List (Addr × Obj)} {σ:St} {H:Hp} {s:Shared} {l:Addr} {ps:List Addr} (I:aO X pins σ H s) (h:H l=some (.lst (ps.map V.ref))):s.heap.IsList l (ps.map Value.ref).toArray/\ps.length<=sizeLine:=by
 let (b,r,a,z):=I.list (dD.of h);rw [wC r] at a;rw [g7] at z;exact {(a.isList),z}
def pW {o:Obj} {l:Addr} {i:Int} (a:o.data=.fields #[.ref l,.int i 0]):∀v,o.data≠.cell v:=λv z=>by rw [a] at z;cases z
section
variable {pins:List (Addr × Obj)} {σ:St} {l f I S:Addr} {ps:List Addr} {J:Hp->Prop} {R:Result->Shared->Prop}
def Mq (kf:Nat->Int × Int) (hh:X.A.handled=none) (hu:X.A.in1.units<cLine) (OI:rG X I) (OS:rG X S) (hSI:S≠I) (hlI:l≠I) (pI:∀p ∈ pins,p.1≠I) (pS:∀p ∈ pins,p.1≠S)
  (hJl:∀H',J H'->H' l=some (.lst (ps.map V.ref)))
  (turn:∀(i:Nat) (p:Addr),ps[i]?=some p->Eg X X.A.in1 σ f J (.ref p) (GX (kf i)))
  (hR:∀i p s' H',ps[i]?=some p->(∀j,j<ps.length->¬ kE (kf j) (kf i)/\(j<i->kE (kf i) (kf j)))->aO X pins σ H' s'->J H'->R (.ok (.ret (.ref p))) s'):
  ∀(r j i:Nat) (s:Shared) (H:Hp) (pb kb:Addr) (c:Nat) (oI:Obj),ps.length-(j+1)=r->j+1<=ps.length->aO X ((S,seqObj "list" #[.ref pb,.ref kb] c)::(I,oI)::pins) σ H s->J H ->
   oI.cls=.type "list_iterator"->oI.data=.fields #[.ref l,.int ((j+1:Nat):Int) 0]->H kb=some (.tup [.int (kf i).1,.int (kf i).2])->ps[i]?=some pb->i<=j->(∀j',j'<=j->¬ kE (kf j') (kf i)/\(j'<i->kE (kf i) (kf j'))) ->
   codeAny (model X.prog X.w) X.A (.builtin "min.loop" {[.ref I,.ref f,.ref S],[]}) R s:=by
 let hname:(toString "min"++toString ".loop":String)="min.loop":=by decide
 let W:=Walks.list (prog:=X.prog) (w:=X.w) (A:=X.A.in1) hh I l hlI (ps.map Value.ref).toArray;let hsz:(ps.map Value.ref).toArray.size=ps.length:=by simp
 intro r
 induction r with
 | zero=>
  intro j i s H pb kb c oI hr hj Iv hJ oc od hk hpb hij hbest;let hin:j+1=ps.length:=∎;let nS:=Iv.pinAt (a:=S) (o:=seqObj "list" #[.ref pb,.ref kb] c) (by simp);let nI:=Iv.pinAt (a:=I) (o:=oI) (by simp);let (isL,_):=Iv.listAt (hJl H hJ);refine D6 PySem.F.entry_min_loop ?_;rw [F4 PySem.F.plain_min_loop _];show wpAny _ X.A.in1 (seqItems? (.ref S) >>= _) _ _ _;refine c6 (M8 nS rfl ?_);show wpAny _ X.A.in1 (tryCatch (pyNext (.ref I)) _ >>= _) _ _ _;refine c6 (K1 (W.done _ _ _ {by rw [hsz,<- hin];exact {(oI),nI,oc,od},isL} λh' tk' hk'=>?_));let I0:aO X ((S,seqObj "list" #[.ref pb,.ref kb] c)::pins) σ H s:=Iv.pins_of λp hp=>Iv.pinIn (a:=p.1) (o:=p.2) (by
   rcases g8.mp hp with rfl|hp
   ·simp
   ·exact d0 _ (d0 _ hp));let I1:aO X ((S,seqObj "list" #[.ref pb,.ref kb] c)::pins) σ H { s with heap:=h',toks:=tk' }:=I0.turned (it:=I) (t':=tk') (λb o ne e=>hk' b o (by simpa using ne) e) (Iv.pinIn (a:=I) (o:=oI) (by simp)).2.1 OI.neL (.inr OI.up) OI.neC (λp hp=>by
   rcases j1.mp hp with hp|hp
   ·exact OI.neP p hp
   ·rcases g8.mp hp with rfl|hp
    ·exact hSI
    ·exact pI p hp);let hS':=I1.pinAt (a:=S) (o:=seqObj "list" #[.ref pb,.ref kb] c) (by simp);let s1:=B9 h' S (Obj.mapSeq λ_=>(#[]:Array Value));obtain⟨c2,hc2⟩:∃c2,(h'.update S (Obj.mapSeq λ_=>(#[]:Array Value))).get? S=some (seqObj "list" #[] c2):={_,get?_update_seq hS' λ_=>#[]};show wpAny _ X.A.in1 (updateSeq S (λ_=>#[]) >>= _) _ _ _;refine c6 ?_;refine wpAny_updateSeq hS' rfl (c6 (O2 (g9 ?_)));let I2:=I1.wr (a:=S) (o:=seqObj "list" #[.ref pb,.ref kb] c) (tk:=tk') (pins':=pins) (by simp) OS s1 hc2 gP λp hp=>.inl {d0 _ hp,pS p hp};exact hR i pb _ H hpb (λj' hj'=>hbest j' ∎) I2 hJ
 | succ r ih=>
  intro j i s H pb kb c oI hr hj Iv hJ oc od hk hpb hij hbest;let hlt:j+1<ps.length:=∎;let nS:=Iv.pinAt (a:=S) (o:=seqObj "list" #[.ref pb,.ref kb] c) (by simp);let nI:=Iv.pinAt (a:=I) (o:=oI) (by simp);let (isL,_):=Iv.listAt (hJl H hJ);refine D6 PySem.F.entry_min_loop ?_;rw [F4 PySem.F.plain_min_loop _];show wpAny _ X.A.in1 (seqItems? (.ref S) >>= _) _ _ _;refine c6 (M8 nS rfl ?_);show wpAny _ X.A.in1 (tryCatch (pyNext (.ref I)) _ >>= _) _ _ _;refine c6 (K1 (W.item (j+1) _ _ _ (by rw [hsz];exact hlt) {{(oI),nI,oc,od},isL} λv h' tk' hP hst' hk'=>?_));obtain⟨p,hp,rfl⟩:∃p,ps[j+1]?=some p/\v=.ref p:=by
   let hv:(ps.map Value.ref)[j+1]?=some v:=by simpa using hP
   rw [i8,c7 hlt] at hv;exact {_,c7 hlt,(Option.some.inj hv).symm}
  let (oI',hoI',hoc,hod):=id hst'.1;let I1:=Iv.wrK (a:=I) (o:=oI) (o':=oI') (h':=h') (tk:=tk') (pins':=(S,seqObj "list" #[.ref pb,.ref kb] c)::(I,oI')::pins) (by simp) OI (λb u ne e=>hk' b u (by simpa using ne) e) hoI' (pW hod) λp hp=>by
   rcases g8.mp hp with rfl|hp
   ·exact .inl {by simp,hSI}
   ·rcases g8.mp hp with rfl|hp
    ·exact .inr rfl
    ·exact .inl {d0 _ (d0 _ hp),pI p hp}
  show wpAny _ X.A.in1 (tryCatch (holding [.ref p] (call (.ref f) [.ref p])) _ >>= _) _ _ _;refine c6 (K1 (w9 (v6 (turn (j+1) p hp _ H _ _ I1 hJ rfl) (λx s'' he=>?_) λ_ _ hF=>hF.elim)));let (y,H2,I2,ry,((t,rfl,ht),tups),hJ2):=he;cases ry;let hk2:=tups kb _ hk;let nS2:=I2.pinAt (a:=S) (o:=seqObj "list" #[.ref pb,.ref kb] c) (by simp);let nI2:=I2.pinAt (a:=I) (o:=oI') (by simp);show wpAny _ X.A.in1 (tryCatch (holding [.ref p,.ref t] (richCompare .Lt (.ref t) (.ref kb) >>= _)) _ >>= _) _ _ _;let (ia,ra,pa,_):=I2.tuple (cA.of (show H2 t=some (.tup ([(kf (j+1)).1,(kf (j+1)).2].map V.int)) from ht));let (ib,rb,pb',_):=I2.tuple (cA.of (show H2 kb=some (.tup ([(kf i).1,(kf i).2].map V.int)) from hk2));let cmp:=HT.lt_tupInts (prog:=X.prog) (w:=X.w) (A:=X.A.in1) (E:=λ_ _=>False) pa pb' (pY ra) (pY rb) hu (Q:=λu s3=>u=.bool (decide (kE (kf (j+1)) (kf i)))/\s3=s'') {by rw [Fs],rfl};refine c6 (K1 (w9 (c6 (v6 cmp (λu s3 z=>?_) λ_ _ z=>z.elim))));let (rfl,rfl):=z;refine c6 (w9 (A8 ?_));refine c6 (O2 (g9 ?_));by_cases hb':kE (kf (j+1)) (kf i)
  ·let s1:=B9 s3.heap S (Obj.mapSeq λ_=>#[.ref p,.ref t]);obtain⟨c2,hc2⟩:∃c2,(s3.heap.update S (Obj.mapSeq λ_=>#[.ref p,.ref t])).get? S=some (seqObj "list" #[.ref p,.ref t] c2):={_,get?_update_seq nS2 λ_=>#[.ref p,.ref t]};simp only [hb',decide_true,if_true];refine c6 ?_;refine wpAny_updateSeq nS2 rfl (c6 (O2 ?_));rw [hname];let I3:=I2.wr (a:=S) (o:=seqObj "list" #[.ref pb,.ref kb] c) (tk:=s3.toks) (pins':=(S,seqObj "list" #[.ref p,.ref t] c2)::(I,oI')::pins) (by simp) OS s1 hc2 gP λp hp=>by
    rcases g8.mp hp with rfl|hp
    ·exact .inr rfl
    ·refine .inl {d0 _ hp,?_};rcases g8.mp hp with rfl|hp
     ·exact hSI.symm
     ·exact pS p hp
   refine g9 {plainId_quiet PySem.F.plain_min_loop _,ih (j+1) (j+1) _ H2 p t c2 oI' ∎ hlt I3 hJ2 hoc hod ht hp (c9 _) λj' hj'=>?_};by_cases e:j'=j+1
   ·subst e;exact {Dh,λh=>absurd h (x6 _)}
   ·let hb1:=(hbest j' ∎).1;exact {Ts hb' hb1,λ_=>Fp hb' hb1}
  ·simp only [hb',decide_false,x0,if_false];refine c6 (O2 ?_);rw [hname];refine g9 {plainId_quiet PySem.F.plain_min_loop _,ih (j+1) i _ H2 pb kb c oI' ∎ hlt I2 hJ2 hoc hod hk2 hpb ∎ λj' hj'=>?_};by_cases e:j'=j+1
   ·subst e;exact {hb',λh=>∎}
   ·exact hbest j' ∎
def Xb (X:Cx) (σ:St):List V->List V->Hp->VK->Prop:=λxs ds H Q=>∃(l f:Addr) (ps:List Addr) (kf:Nat->Int × Int) (J:Hp->Prop),xs=[.ref l]/\ds=[.ref f]/\J H/\(∀H',J H'->H' l=some (.lst (ps.map V.ref)))/\ps≠[] /\
 (∀(i:Nat) (p:Addr),ps[i]?=some p->Eg X X.A.in1 σ f J (.ref p) (GX (kf i)))/\∀(i:Nat) (p:Addr) (H':Hp),J H'->ps[i]?=some p->(∀j,j<ps.length->¬ kE (kf j) (kf i)/\(j<i->kE (kf i) (kf j)))->Q (.ref p) H'
def Gu (hc:X.calm=true) (hu:X.A.in1.units<cLine) {s:Shared} {H:Hp} {xs ds:List V} {us ws:List Value} {Q:VK} (Iv:aO X pins σ H s) (r:bG xs us) (rd:bG ds ws) (h:Xb X σ xs ds H Q):
  wpAny (model X.prog X.w) X.A (call (.builtin "min") us ([("key":Str)].zip ws)) (EP X pins σ Q) X.xe s:=by
 let (l,f,ps,kf,J,rfl,rfl,hJ,hJl,hne,turn,q):=h;let (u,rfl,ru):=r.one;cases ru;let (u',rfl,ru'):=rd.one;cases ru';let hh:X.A.handled=none:=Iv.ok.hd hc;let hne:0<ps.length:=List.length_pos_iff.mpr hne;let hname:(toString "min"++toString ".loop":String)="min.loop":=by decide
 let (isL,_):=Iv.listAt (hJl H hJ);show wpAny _ _ (call (.builtin "min") [.ref l] [(Str.ofString "key",.ref f)]) _ _ _;refine kmk_tree PySem.F.kind_min PySem.F.plain_min PySem.F.entry_min (kmk_min_key _ _) ?_;show wpAny _ X.A.in1 (Builtin.Builtins.bindParams "min" ["key","default"] 0 {[],[(Str.ofString "key",.ref f)]} >>= _) _ _ s;refine c6 (B7 (show Builtin.Builtins.bindParams "min" ["key","default"] 0 {[],[(Str.ofString "key",.ref f)]}=pure [some (.ref f),none] from rfl) ?_);refine c6 (g9 ?_);refine c6 (N4 isL ?_);refine c6 (Q7 ?_ (i5 _));rw [hname];let lI:l<s.heap.objs.size:=Iv.hok.lt (hJl H hJ);let hlI:l≠s.heap.objs.size:=j8 lI;let OI:rG X s.heap.objs.size:=rG.of Iv (c9 _);let nI:H s.heap.objs.size=none:=Iv.hok.fresh (c9 _);let I1:aO X pins σ H { s with heap:=s.heap.push { cls:=.type "list_iterator",data:=.fields #[.ref l,.int 0 0] } }:=Iv.kept (t':=s.toks) λb o e=>f6 _ e;let I2:aO X pins σ H { s with heap:=(s.heap.push { cls:=.type "list_iterator",data:=.fields #[.ref l,.int 0 0] }).push (seqObj "list" #[] 0) }:=I1.kept (t':=s.toks) λb o e=>f6 _ e;let OS:rG X (s.heap.push { cls:=.type "list_iterator",data:=.fields #[.ref l,.int 0 0] }).objs.size:=rG.of I1 (c9 _);let nS:H (s.heap.push { cls:=.type "list_iterator",data:=.fields #[.ref l,.int 0 0] }).objs.size=none:=I1.hok.fresh (c9 _);let hS:(s.heap.push { cls:=.type "list_iterator",data:=.fields #[.ref l,.int 0 0] }).objs.size=s.heap.objs.size+1:=size_push' ..;let hSI:(s.heap.push { cls:=.type "list_iterator",data:=.fields #[.ref l,.int 0 0] }).objs.size≠s.heap.objs.size:=by rw [hS];exact J6 (K5 _)
 let gI:((s.heap.push { cls:=.type "list_iterator",data:=.fields #[.ref l,.int 0 0] }).push (seqObj "list" #[] 0)).get? s.heap.objs.size=some { cls:=.type "list_iterator",data:=.fields #[.ref l,.int 0 0] }:=
  f6 _ (i9 _ rfl)
 let gS:((s.heap.push { cls:=.type "list_iterator",data:=.fields #[.ref l,.int 0 0] }).push (seqObj "list" #[] 0)).get? (s.heap.push { cls:=.type "list_iterator",data:=.fields #[.ref l,.int 0 0] }).objs.size=some (seqObj "list" #[] 0):=i9 _ rfl;let pI:∀p ∈ pins,p.1≠s.heap.objs.size:=λp hp=>j8 (i4 (Iv.pinAt (a:=p.1) (o:=p.2) hp));let pS:∀p ∈ pins,p.1≠(s.heap.push { cls:=.type "list_iterator",data:=.fields #[.ref l,.int 0 0] }).objs.size:=λp hp=>j8 (i4 (I1.pinAt (a:=p.1) (o:=p.2) hp));generalize hSd:(s.heap.push { cls:=.type "list_iterator",data:=.fields #[.ref l,.int 0 0] }).objs.size=S at OS nS hSI gS pS ⊢;generalize hId:s.heap.objs.size=I at OI nI hlI hSI gI pI ⊢;generalize (s.heap.push { cls:=.type "list_iterator",data:=.fields #[.ref l,.int 0 0] }).push (seqObj "list" #[] 0)=h0 at I2 gI gS ⊢;let I3:aO X ((S,seqObj "list" #[] 0)::(I,{ cls:=.type "list_iterator",data:=.fields #[.ref l,.int 0 0] })::pins) σ H { s with heap:=h0 }:=I2.pins_of λp hp=>by
  rcases g8.mp hp with rfl|hp
  ·exact {(gS),nS,OS.neL,OS.nfs,gP}
  ·rcases g8.mp hp with rfl|hp
   ·exact {gI,nI,OI.neL,OI.nfs,λv z=>by cases z}
   ·exact I2.pinIn (a:=p.1) (o:=p.2) hp
 let (isL3,_):=I3.listAt (hJl H hJ);let W:=Walks.list (prog:=X.prog) (w:=X.w) (A:=X.A.in1) hh I l hlI (ps.map Value.ref).toArray;let hsz:(ps.map Value.ref).toArray.size=ps.length:=by simp
 refine g9 {plainId_quiet PySem.F.plain_min_loop _,?_};refine D6 PySem.F.entry_min_loop ?_;rw [F4 PySem.F.plain_min_loop _];show wpAny _ X.A.in1 (seqItems? (.ref S) >>= _) _ _ _;refine c6 (M8 gS rfl ?_);show wpAny _ X.A.in1 (tryCatch (pyNext (.ref I)) _ >>= _) _ _ _;refine c6 (K1 (W.item 0 _ _ _ (by rw [hsz];exact hne) {{_,gI,rfl,rfl},isL3} λv h' tk' hP hst' hk'=>?_));obtain⟨p,hp,rfl⟩:∃p,ps[0]?=some p/\v=.ref p:=by
  let hv:(ps.map Value.ref)[0]?=some v:=by simpa using hP
  rw [i8,c7 hne] at hv;exact {_,c7 hne,(Option.some.inj hv).symm}
 let (oI',hoI',hoc,hod):=id hst'.1;let I4:=I3.wrK (a:=I) (o:={ cls:=.type "list_iterator",data:=.fields #[.ref l,.int 0 0] }) (o':=oI') (h':=h') (tk:=tk') (pins':=(S,seqObj "list" #[] 0)::(I,oI')::pins) (by simp) OI (λb u ne e=>hk' b u (by simpa using ne) e) hoI' (pW hod) λp hp=>by
  rcases g8.mp hp with rfl|hp
  ·exact .inl {by simp,hSI}
  ·rcases g8.mp hp with rfl|hp
   ·exact .inr rfl
   ·exact .inl {d0 _ (d0 _ hp),pI p hp}
 show wpAny _ X.A.in1 (tryCatch (holding [.ref p] (call (.ref f) [.ref p])) _ >>= _) _ _ _;refine c6 (K1 (w9 (v6 (turn 0 p hp _ H _ _ I4 hJ rfl) (λx s'' he=>?_) λ_ _ hF=>hF.elim)));let (y,H2,I5,ry,((t,rfl,ht),tups),hJ2):=he;cases ry;let nS2:=I5.pinAt (a:=S) (o:=seqObj "list" #[] 0) (by simp);let s1:=B9 s''.heap S (Obj.mapSeq λ_=>#[.ref p,.ref t]);obtain⟨c2,hc2⟩:∃c2,(s''.heap.update S (Obj.mapSeq λ_=>#[.ref p,.ref t])).get? S=some (seqObj "list" #[.ref p,.ref t] c2):={_,get?_update_seq nS2 λ_=>#[.ref p,.ref t]};show wpAny _ X.A.in1 (updateSeq S (λ_=>#[.ref p,.ref t]) >>= _) _ _ _;refine c6 ?_;refine wpAny_updateSeq nS2 rfl ?_;rw [hname];let I6:=I5.wr (a:=S) (o:=seqObj "list" #[] 0) (tk:=s''.toks) (pins':=(S,seqObj "list" #[.ref p,.ref t] c2)::(I,oI')::pins) (by simp) OS s1 hc2 gP λp hp=>by
  rcases g8.mp hp with rfl|hp
  ·exact .inr rfl
  ·refine .inl {d0 _ hp,?_};rcases g8.mp hp with rfl|hp
   ·exact hSI.symm
   ·exact pS p hp
 refine g9 {plainId_quiet PySem.F.plain_min_loop _,Mq kf hh hu OI OS hSI hlI pI pS hJl turn (λi p' s' H' hp' best I' j'=>{.ref p',H',I',rfl,q i p' H' j' hp' best}) _ 0 0 _ H2 p t c2 oI' rfl hne I6 hJ2 hoc hod ht hp (c9 _) λj' hj'=>?_};let e:j'=0:=∎;subst e;exact {Dh,λh=>absurd h (x6 _)}
def DQ (X:Cx) (ta td:TA):TE:=λσ H Q=>ta σ H λxs H1=>td σ H1 λds H2=>Xb X σ xs ds H2 Q
def Sk {x:Str} {p pos c:Pos} {a b:Expr} {m k:TA} (y:X.calm=true) (F:X.A.in1.units<cLine) (t:Gl X x) (o:X.mg x=none) (w:bootBuiltins x=some (.builtin "min")) (E:PA X [a] m) (v:PK X [{some "key",b,c}] k) (B:x≠"__name__":=by decide) (i:(x == ("__debug__":Str))=false:=by decide)
  (d:(backToKw pos (keywordEach [{some "key",b,c}] X.env)).all (·.1.isSome)=true:=by rfl) (e:(backToKw pos (keywordEach [{some "key",b,c}] X.env)).filterMap (·.1)=[("key":Str)]:=by rfl)
  (z:starEach [a] X.env=(false,eval a X.env)::starEach [] X.env:=by rfl) (j:((backTo pos (starEach [a] X.env)).any (·.1) || (backToKw pos (keywordEach [{some "key",b,c}] X.env)).any (·.1.isNone))=false:=by rfl):
  PE X (.Call (.Name x p) [a] [{some "key",b,c}] pos) (DQ X m k):=by
 intro pins s σ H Q I h;refine C2 (jC I t o w ?_ B i);refine PySem.W.callWith_of (P:=λg=>X.K.In g) j (λ_ _=>{.machine,.inr (.inl rfl),.now}) (L9 d (uZ (E pins s σ H _ I h) λU u N G C r q=>?_) z);refine uZ (v pos pins u σ G _ C q) λO M Y T n D L=>{n.kIn,?_};rw [e];exact Gu y F n r D L
end
structure uV (K:Frag) (x qual:Str) (st:Stmt) (f:Addr) (fd:FuncData) (c:Addr):Prop where
 ex:∃(oc:Value) (od:Option Addr) (kV doc pm:Value) (an:Option Addr) (ct:Value) (osl:Array (Option Value)),fd=PySem.W.fnOf x qual (eG st) (bV st) (aG st) .none kV doc pm an (.ref c) ct/\K.lookup f=some ⟨oc,od,.func fd,osl⟩/\PySem.W.codeIn K (.ref c) qual=true
 kp:PySem.W.keepIn K (.ref f)=true
section
variable {P:Program} {w:World} {K:Frag} {mg:Str->Option Value} {base:Heap} {x qual:Str} {st:Stmt} {f c:Addr} {fd:FuncData}
def uV.toFun (F:uV K x qual st f fd c):tD K x qual st f fd:=by
 let ((m,i,kV,a,j,d,g,b,e,l,h),k):=F;exact {{m,i,kV,a,j,d,_,g,b,e,l,h},k}
def uV.ok {N ps:List Str} {k:Nat} {sp:Sp} (F:uV K x qual st f fd c) (S:aJ N ps (aG st)) (e:∀vs H Q E,sp vs H Q E->vs.length=ps.length)
  (a:∀(A:Around) (outer:List Env) (s:Shared) (H:Hp) (vs:List V) (Q:VK) (E:XK),Room k (A.deeper (envOfC qual (aG st) s.heap.objs.size f (.ref c)))->sp vs H Q E ->
   let X:=(jH cX P w K mg base N qual (aG st) f (.ref c) A outer s H E).nox
   let D:eK:={ nx:=λ_ l=>Q .non l,rt:=Q }
   ∃t,qX X (bV st) t/\t D (dJ N vs) H):bK P w K mg base cX (k+1) f fd ps sp:=by
 let (u,p,kV,g,r,n,o,j,rfl,m,b):=F.ex;refine Nx m b S e λA outer s H vs Q E i d=>?_;let (t,h,q):=a A outer s H vs Q E i d;exact {(t),h.nox,q}
def Dl {g:Value} {e d:Option Addr} {b:Array (Option Value)} {kV a pm ct:Value} (l:K.lookup f=some {g,e,.func (PySem.W.fnOf x qual (eG st) (bV st) (aG st) .none kV a pm d (.ref c) ct),b})
  (h:PySem.W.codeIn K (.ref c) qual=true) (k:PySem.W.keepIn K (.ref f)=true):uV K x qual st f (PySem.W.fnOf x qual (eG st) (bV st) (aG st) .none kV a pm d (.ref c) ct) c:={{(g),e,kV,a,pm,d,ct,b,rfl,l,h},k}
end
def eB (H H':Hp):Prop:=∀b o,H b=some o->(∃ps,o=.tbl ps)\/H' b=some o
def aM.toT {H H':Hp} (h:aM H H'):eB H H':=λb o e=>.inr (h b o e)
def eB.trans {H g d:Hp} (a:eB H g) (b:eB g d):eB H d:=λc o e=>by
 rcases a c o e with z|z
 ·exact .inl z
 ·exact b c o z
def cY.toT {T:Addr} {H H':Hp} {ps:Array Value} (a:H T=some (.tbl ps)) (h:cY T H H'):eB H H':=λb o e=>by
 by_cases z:b=T
 ·subst z
  rw [a] at e
  cases e
  exact .inl {(ps),rfl}
 ·exact .inr (h b o z e)
def cY.same {T:Addr} {H d a:Hp} (k:cY T H d) (s:aM d a):cY T H a:=λb o n e=>s _ _ (k b o n e)
def cY.pre {T:Addr} {H d a:Hp} (s:aM H d) (k:cY T d a):cY T H a:=λb o n e=>k b o n (s _ _ e)
def eB.at {H H':Hp} {b:Addr} {o:HO} (h:eB H H') (e:H b=some o) (n:∀a,o≠.tbl a:=by intro _ z;cases z):H' b=some o:=by
 rcases h b o e with ⟨a,z⟩|z
 ·exact absurd z (n a)
 ·exact z
def kC.same {H H':Hp} {T:Addr} {pos:Pos} {q:Str} (h:aM H H') (t:kC H T pos q):kC H' T pos q:=by
 let (b,e,i,d):=t;refine {b,h _ _ e,i,?_};rcases d with z|⟨a,z,g⟩
 ·exact .inl z
 ·exact .inr {a,z,h _ _ g}
section
variable {P:Program} {w:World} {K:Frag} {mg:Str->Option Value} {base:Heap} {x qual:Str} {st:Stmt} {f c:Addr} {fd:FuncData}
end
end
end L2
namespace Hd
open PySem PyProof.Rows
section
variable {prog:Program} {w:World} {A:Around} {E:Value->Shared->Prop} {s:Shared}
end
section
variable {prog:Program} {w:World} {A:Around} {E:Value->Shared->Prop} {s:Shared} {h₀:Heap} {L l h:Addr} {m:Str->Option Value} {news:List (Addr × Obj)} {vs:List Value}
end
end Hd
namespace L2
open PySem PySem.Spec PyProof.Rows
section
variable {X:Cx} {k:Nat} {f h:Addr} {fd:FuncData} {ps:List Str} {sp:Addr->Sp} {dvs:List V} {ds:List Value} {x:Str} {p pos:Pos} {e:Expr} {es:List Expr} {t:TA}
end
def Le (σw σ:St):Prop:=∀(i:Nat) v,σw[i]?=some (some v)->σ[i]?=some (some v)
def Le.refl (σ:St):Le σ σ:=λ_ _ z=>z
def oH (CX:mK) (X:Cx) (σw:St) (E:XK):Prop:=∀(pins:List (Addr × Obj)) (σ:St) (H:Hp) (s:Shared) (e:Value) (s':Shared),Le σw σ->aO X pins σ H s->CX X.stack H s E e s'->X.xe e s'
def We (σw:St) (t:TE):TE:=λσ H Q=>Le σw σ/\t σ H Q
section
variable {X:Cx} {CX:mK} {k:Nat} {f C:Addr} {fd:FuncData} {ps:List Str} {sp:Sp} {dvs:List V} {ds:List Value} {E:XK} {x m:Str} {p pos apos:Pos} {e o:Expr} {es:List Expr} {ta:TE} {t:TA} {σw:St}
def Km {pins:List (Addr × Obj)} {σ:St} {H:Hp} {s:Shared} {Q:VK} {us:List Value} {vs:List V} (F:bK X.prog X.w X.K X.mg X.base CX k f fd ps sp) (j:Room k X.A) (d:eX X.K fd ps ds) (h:bG dvs ds) (g:oH CX X σw E) (i:Le σw σ)
  (I:aO X pins σ H s) (r:bG vs us) (q:sp (vs++dvs) H Q E):wpAny (model X.prog X.w) X.A (call (.ref f) us) (EP X pins σ Q) X.xe s:=by
 let b:bG (vs++dvs) (us++ds):=r.append h
 let l:(us++ds).length=ps.length:=by rw [<- b.length];exact F.len _ _ _ _ q
 refine K6 (D5 (F.run X.A X.stack s H {us,[]} (us++ds) (vs++dvs) Q E j I.env0 (d s us I.kIn l) b q) λr c a=>?_);cases r with
 | error e=>exact g pins σ H s e c i I a
 | ok fl=>
  cases fl with
  | ret u=>exact I.after a
  | next=>exact a.elim
  | brk=>exact a.elim
  | cont=>exact a.elim
def Fb {pl:Sem Bool} (J:PE X o ta) (c:oK X.K C) (i:yG X.K C m f) (F:bK X.prog X.w X.K X.mg X.base CX k f fd ps sp) (L:Room k X.A) (P:eX X.K fd ps ds) (G:bG dvs ds) (S:oH CX X σw E) (M:PA X (e::es) t)
  (d:starEach (e::es) X.env=(false,eval e X.env)::starEach es X.env:=by rfl) (g:(backTo pos (starEach es X.env)).any (·.1)=false:=by rfl)
  (Y:eval (.Call (.Attribute o m apos) (e::es) [] pos) X.env=(eval o X.env >>= λj=>standAt apos.atName >>= λ_=>holding [j] (getMethod j m pl) >>= λn=>callWith pos n.1 n.2 (backTo pos (starEach (e::es) X.env)) (backToKw pos (keywordEach [] X.env))):=by rfl):
  PE X (.Call (.Attribute o m apos) (e::es) [] pos) (We σw (oT C m sp dvs E ta t)):=by
 intro b s σ H Q I ⟨N,q⟩;refine PySem.W.methodCall_KW (pl:=pl) (eY (J s σ H _ I q) λu D x O v B h=>?_) Y;let (a,dx,fs,z,U,l,q):=h;subst z;cases (show u=Value.ref a from B);refine kR v U c i l ?_;refine PySem.W.callWith_K (first:=[.ref a]) (h₀:=X.base) I.ok.mod.kin i.kp (uZ (M b D σ O _ v q) λus Z vs H2 y r T=>{y.kIn,?_}) d g
 exact Km (us:=.ref a::us) (vs:=.ref a::vs) F L P G S N y (.cons rfl r) T
end
end L2
namespace L2
open PySem PySem.Spec PyProof.Rows PySem.W
inductive Wp (X:Cx) (ss:List Stmt) (D:eK) (σ:St) (H:Hp):Prop|mk (t:TS) (_:qX X ss t) (_:t D σ H)
inductive Ex (X:Cx) (e:Expr) (σ:St) (H:Hp) (Q:VK):Prop|mk (t:TE) (_:PE X e t) (_:t σ H Q)
inductive Tx (X:Cx) (e:Expr) (σ:St) (H:Hp) (Q:Bool->Hp->Prop):Prop|mk (t:TT) (_:PT X e t) (_:t σ H Q)
inductive Ax (X:Cx) (es:List Expr) (σ:St) (H:Hp) (Q:List V->Hp->Prop):Prop|mk (t:TA) (_:PA X es t) (_:t σ H Q)
structure Vl (X:Cx) (e:Expr) (σ:St) (H:Hp) (v:V):Prop where to (Q:VK):Q v H->Ex X e σ H Q
structure Tv (X:Cx) (e:Expr) (σ:St) (H:Hp) (b:Bool):Prop where to (Q:Bool->Hp->Prop):Q b H->Tx X e σ H Q
structure Av (X:Cx) (es:List Expr) (σ:St) (H:Hp) (vs:List V):Prop where to (Q:List V->Hp->Prop):Q vs H->Ax X es σ H Q
def Wp.ex {X:Cx} {ss:List Stmt} {D:eK} {σ:St} {H:Hp} (h:Wp X ss D σ H):∃t,qX X ss t/\t D σ H:=by let (t,p,q):=h;exact {(t),p,q}
def CI:List Str->St->Str->Option V
 | n::N,o::σ,x=>if (n == x)=true then o else CI N σ x
 | _,_,_=>none
theorem Mv {x:Str} {v:V}:∀{N:List Str} {σ:St},CI N σ x=some v->∃i:Nat,N[i]?=some x/\σ[i]?=some (some v)
 | [],_,h=>nomatch h
 | _::_,[],h=>nomatch h
 | n::N,o::σ,h=>by
  unfold CI at h
  by_cases e:(n == x)=true
  ·rw [if_pos e] at h
   exact {0,congrArg some (eq_of_beq e),congrArg some h}
  ·rw [if_neg e] at h
   let (i,a,b):=Mv h
   exact {i+1,a,b}
section
variable {X:Cx} {σ:St} {H:Hp} {v w:V} {x:Str} {pos pos' p':Pos} {e a b:Expr} {es:List Expr} {ss r:List Stmt} {D:eK} {i j:Int} {Q:VK}
def aU:qX X ss (Wp X ss):=λ_ s σ H D I ⟨_,p,h⟩=>p s σ H D I h
def aP:PE X e (Ex X e):=λ_ s σ H Q I ⟨_,p,h⟩=>p s σ H Q I h
def fN:PT X e (Tx X e):=λ_ s σ H Q I ⟨_,p,h⟩=>p s σ H Q I h
def dE:PA X es (Ax X es):=λ_ c s σ H Q I ⟨_,p,h⟩=>p c s σ H Q I h
def Vl.ex (h:Vl X e σ H v) (q:Q v H):Ex X e σ H Q:=h.to Q q
def CV (h:CI X.N σ x=some v) (g:Xo X.env.scope x) (d:(x == ("__debug__":Str))=false) (c:(x == ("__classdict__":Str))=false):Vl X (.Name x pos) σ H v:=⟨λQ q=>by
 let (i,a,b):=Mv h
 exact {_,zF a g d c,_,b,q}⟩
def DG {k}:Vl X (.Constant (.int i) k pos) σ H (.int i):={λ_ q=>{_,aX,q}}
def CZ {k}:Vl X (.Constant (.str x) k pos) σ H (.str x):={λ_ q=>{_,eP,q}}
def Bh {k}:Vl X (.Constant .none k pos) σ H .non:={λ_ q=>{_,gB,q}}
def DK (h:Vl X a σ H (.int i)) (g:Vl X b σ H (.int j)):Vl X (.BinOp a .Add b pos) σ H (.int (i+j)):={λ_ q=>{_,cI eR aP aP,h.to _ (g.to _ {_,_,rfl,rfl,q})}}
def CY (h:Vl X a σ H (.int i)) (g:Vl X b σ H (.int j)):Vl X (.BinOp a .Sub b pos) σ H (.int (i-j)):={λ_ q=>{_,cI mD aP aP,h.to _ (g.to _ {_,_,rfl,rfl,q})}}
def DD (h:Vl X a σ H (.int i)) (g:Vl X b σ H (.int j)) (z:0<j):Vl X (.BinOp a .Mod b pos) σ H (.int (i % j)):={λ_ q=>{_,cI iY aP aP,h.to _ (g.to _ {_,_,rfl,rfl,z,q})}}
def DI (h:Vl X a σ H (.int i)) (g:Vl X b σ H (.int j)) (z:0<j/\j<2 ^ 64):Vl X (.BinOp a .FloorDiv b pos) σ H (.int (i / j)):={λ_ q=>{_,cI pJ aP aP,h.to _ (g.to _ {_,_,rfl,rfl,z,q})}}
def DC (h:Vl X a σ H (.int i)) (g:Vl X b σ H (.int j)) (z:Hi i j):Vl X (.BinOp a .Mult b pos) σ H (.int (i * j)):={λ_ q=>{_,cI zJ aP aP,h.to _ (g.to _ {_,_,rfl,rfl,z,q})}}
def DB (h:Vl X a σ H (.int i)):Vl X (.UnaryOp .USub a pos) σ H (.int (-i)):={λ_ q=>{_,Xc Hx aP,h.to _ {_,rfl,q}}}
def CW {p:Addr} {xs:List V} (h:Vl X a σ H (.ref p)) (g:Vl X b σ H (.int i)) (z:H p=some (.tup xs)) (y:kB xs i=some v) (c:oG b):Vl X (.Subscript a b pos) σ H v:={λ_ q=>{_,dQ dU aP aP c,h.to _ (g.to _ {_,_,_,_,rfl,rfl,cA.of z,y,q})}}
def DE {p:Addr} {xs:List V} (h:Vl X a σ H (.ref p)) (g:Vl X b σ H (.int i)) (z:H p=some (.lst xs)) (y:kB xs i=some v) (c:oG b):Vl X (.Subscript a b pos) σ H v:={λ_ q=>{_,dQ jV aP aP c,h.to _ (g.to _ {_,_,_,_,rfl,rfl,dD.of z,y,q})}}
def mL {op:CmpOp} {d:R2} {c:Bool} (l:kM X (compareOp op) d) (h:Vl X a σ H v) (g:Vl X b σ H w) (y:∀Q:VK,Q (.bl c) H->d v w H Q) (n:behindInMarks op b=false:=by first|exact bO _|rfl):Tv X (.Compare a [op] [b] pos) σ H c:=
 {λ_ q=>{_,cH l aP aP n,h.to _ (g.to _ (y _ {_,rfl,q}))}}
def DL {k} (h:Vl X a σ H v):Tv X (.Compare a [.Is] [.Constant .none k p'] pos) σ H (decide (v=.non)):=mL Lu h Bh λ_ q=>{(rfl),q}
def Xt {k} (h:Vl X a σ H v):Tv X (.Compare a [.IsNot] [.Constant .none k p'] pos) σ H (!decide (v=.non)):=mL nZ h Bh λ_ q=>{(rfl),q}
def HR (h:Vl X a σ H (.int i)) (g:Vl X b σ H (.int j)):Tv X (.Compare a [.Lt] [b] pos) σ H (decide (i<j)):=mL iJ h g λ_ q=>{_,_,rfl,rfl,q}
def HS (h:Vl X a σ H (.int i)) (g:Vl X b σ H (.int j)):Tv X (.Compare a [.LtE] [b] pos) σ H (decide (i<=j)):=mL fO h g λ_ q=>{_,_,rfl,rfl,q}
def HU (h:Vl X a σ H (.int i)) (g:Vl X b σ H (.int j)):Tv X (.Compare a [.Gt] [b] pos) σ H (decide (j<i)):=mL Lv h g λ_ q=>{_,_,rfl,rfl,q}
def HV (h:Vl X a σ H (.int i)) (g:Vl X b σ H (.int j)):Tv X (.Compare a [.GtE] [b] pos) σ H (decide (j<=i)):=mL Xd h g λ_ q=>{_,_,rfl,rfl,q}
def HW (h:Vl X a σ H v) (g:Vl X b σ H w) (z:Rj v w=true):Tv X (.Compare a [.Eq] [b] pos) σ H (decide (v=w)):=mL wM h g λ_ q=>{(z),q}
def HQ (h:Vl X a σ H v) (g:Vl X b σ H w) (z:Rj v w=true):Tv X (.Compare a [.NotEq] [b] pos) σ H (!decide (v=w)):=mL sC h g λ_ q=>{(z),q}
def mU:Av X [] σ H []:={λ_ q=>{_,aE,q}}
def Pb {vs:List V} (h:Vl X e σ H v) (g:Av X es σ H vs) (c:starEach (e::es) X.env=(false,eval e X.env)::starEach es X.env):Av X (e::es) σ H (v::vs):={λ_ q=>{_,aA aP dE c,h.to _ (g.to _ q)}}
def bX (h:D.nx σ H):Wp X [] D σ H:={_,aY,h}
def cF {n:Nat} (S:X.N.Nodup) (hi:X.N[n]?=some x) (h:Ex X e σ H λv l=>Wp X r D (σ.set n (some v)) l) (c:Ay X.env.scope x:=by first|exact j5 rfl|exact E1 rfl) (g:swapsWith e (some (.Name x p')) pos.line X.env=pure false:=by rfl) (d:X.fn x=true\/X.env.scope.names.lookup x=some .local:=by first|exact .inl rfl|exact .inr rfl):Wp X (.Assign [.Name x p'] e pos::r) D σ H:={_,aF (eI S hi c aP g d) aU,h}
def fI (h:Ex X e σ H D.rt):Wp X (.Return (some e) pos::r) D σ H:={_,aF (bB aP) aU,h}
def nF (h:Ex X e σ H λ_ d=>Wp X r D σ d) (c:swapsWith e none pos.line X.env=pure false:=by rfl):Wp X (.Expr e pos::r) D σ H:={_,aF (cJ aP c) aU,h}
def oM {d:List Stmt} {c:Bool} (t:Tv X e σ H c) (g:c=true->Wp X ss { D with nx:=Wp X r D } σ H) (h2:c=false->Wp X d { D with nx:=Wp X r D } σ H):Wp X (.If e ss d pos::r) D σ H:={_,aF (bQ fN aU aU) aU,t.to _ (by cases c;exact cO (h2 rfl);exact cW (g rfl))}
def Xp {c:Bool} (t:Tv X e σ H c) (d:c=true->Wp X ss { D with nx:=Wp X r D } σ H) (h2:c=false->Wp X r D σ H):Wp X (.If e ss [] pos::r) D σ H:=oM t d λz=>bX (h2 z)
structure Tn (P:St->Hp->Prop) (D D':eK):Prop where
 nx:∀ σ H,P σ H->D'.nx σ H
 ct:∀ σ H,P σ H->D'.ct σ H
 rt:∀v H,D.rt v H->D'.rt v H
def iQ (n:PassesOwn (model X.prog X.w) X.A X.env X.xe) (c:Nat->St->Hp->Prop) (m:Nat) (l:c m σ H)
  (h:∀m σ H,c m σ H->(Tv X e σ H true/\∀d,Tn (λσ H=>∃g,g<m/\c g σ H) D d->Wp X ss d σ H)\/(Tv X e σ H false/\Wp X r D σ H)):Wp X (.While e ss [] pos::r) D σ H:=
 ⟨_,aF (Kx n fN aU) aU,c,{(m),l},λm σ H p=>by
  rcases h m σ H p with ⟨t,k⟩|⟨t,k⟩
  ·exact t.to _ (cW {_,λ_ _ q=>q,k _ {λ_ _ q=>q,λ_ _ q=>q,λ_ _ q=>q}})
  ·exact t.to _ (cO k)⟩
end
section
variable {X:Cx} {CX:mK} {k:Nat} {f C:Addr} {fd:FuncData} {ps:List Str} {sp:Sp} {E:XK} {x m:Str} {p pos apos:Pos} {e o:Expr} {es:List Expr} {σ:St} {H:Hp} {Q:VK} {vs:List V}
end
section
variable {X:Cx} {σ:St} {H:Hp} {D:eK} {r ss:List Stmt} {pos p' p1 p2:Pos} {e:Expr} {x:Str} {n:Nat}
def tF {v:V} (h:Vl X e σ H v) (S:X.N.Nodup) (hi:X.N[n]?=some x) (a:Ay X.env.scope x) (c:swapsWith e (some (.Name x p')) pos.line X.env=pure false) (b:X.fn x=true\/X.env.scope.names.lookup x=some .local) (k:Wp X r D (σ.set n (some v)) H):Wp X (.Assign [.Name x p'] e pos::r) D σ H:=cF S hi (h.to _ k) a c b
def Hm {a:List Stmt} {c:Bool} (t:Tv X e σ H c) (z:c=true) (h:Wp X ss { D with nx:=Wp X r D } σ H):Wp X (.If e ss a pos::r) D σ H:=oM t (λ_=>h) λy=>nomatch (z.symm.trans y)
def tG {c:Bool} (t:Tv X e σ H c) (z:c=false) (h:Wp X r D σ H):Wp X (.If e ss [] pos::r) D σ H:=oM t (λy=>nomatch (z.symm.trans y)) λ_=>bX h
def Qf {v:V} (h:Vl X e σ H v) (k:D.rt v H):Wp X (.Return (some e) pos::r) D σ H:=fI (h.to _ k)
def Tv.is {c d:Bool} (h:Tv X e σ H c) (z:c=d):Tv X e σ H d:=z ▸ h
def Hn {j:Int} {a:Expr} (z:PassesOwn (model X.prog X.w) X.A X.env X.xe) (l:X.mg "range"=none) (S:X.N.Nodup) (hi:X.N[n]?=some x) (u:Vl X a σ H (.int j)) (g:-(2 ^ 62)<=j/\j<2 ^ 62) (b:Nat->St->Hp->Prop) (v:b 0 σ H)
  (m:∀i σ H f,i<j.toNat->b i σ H->Tn (b (i+1)) D f->Wp X ss f (σ.set n (some (.int (0+(i:Int))))) H) (t:∀ σ H,b j.toNat σ H->Wp X r D σ H) (h:X.calm=true:=by rfl) (s:Ay X.env.scope x:=by first|exact j5 rfl|exact E1 rfl) (C:Gl X "range":=by rfl) (c:starEach [a] X.env=[(false,eval a X.env)]:=by rfl) (o:X.fn x=true\/X.env.scope.names.lookup x=some .local:=by first|exact .inl rfl|exact .inr rfl) (d:∀y,foldedSetIterable (.Call (.Name "range" p1) [a] [] p2) X.env y=pure y:=by intro _;rfl):
  Wp X (.For (.Name x p') (.Call (.Name "range" p1) [a] [] p2) ss [] pos::r) D σ H:=
 {_,aF (eJ z h (sB C l dE c h) (aW S hi s o) aU d) aU,(Pb u mU c).to _ {j,rfl,g.1,g.2,jW b v (λk σ H B p=>m k σ H _ B p {λ_ _ q=>q,λ_ _ q=>q,λ_ _ q=>q}) t}}
def Bx (X:Cx) (NB:List Str) (scope:Scope) (cl:List (Str × Addr)) (e:Expr):TE:=λσ H Q=>∀C s H' fp pn,Ex (X.blkF NB scope cl C s H' fp pn) e σ H Q
def Bt (X:Cx) (NB:List Str) (scope:Scope) (cl:List (Str × Addr)) (e:Expr):TT:=λσ H Q=>∀C s H' fp pn,Tx (X.blkF NB scope cl C s H' fp pn) e σ H Q
section
variable {NB:List Str} {js:List Nat} {scope:Scope} {cl:List (Str × Addr)} {elt:Expr} {Q:VK} {p3:Pos}
def sQ {J:It} {α:Type} {tc:TT} {te:TE} {val out:α->V} {pm:α->Bool} {xs:List α} (P:xs.length<=4000) (I:∀G i,aM H G->i<xs.length->J.go i G) (M:∀G,aM H G->J.stop xs.length G) (N:∀G i x s,aM H G->i<xs.length->J.yld i G x s->s=G/\∃z,xs[i]?=some z/\x=val z)
  (g:TG) (C:∀z ∈ xs,∀G,aM H G->∀R:St->Hp->Prop,(∀d:St,d.drop n=(dY n js σ).drop n->(∀R:Bool->Hp->Prop,R (pm z) G->tc d G R)->(pm z=true->∀R:VK,(∀q,aM G q->R (out z) q)->te d G R)->R d G)->g (val z) (dY n js σ) G R)
  (k:∀a G,aM H G->G a=some (.lst ((xs.filter pm).map out))->Q (.ref a) G) (a:Addr) (na:H a=none):
  ∃W:Nat->Nat->List V->Hp->Prop,(∃m,W 0 m [] (aR H a (.lst [])))/\∀i m c H,W i m c H->H a=some (.lst c) /\
  ((J.stop i H/\Q (.ref a) H)\/(J.go i H/\∀x A,J.yld i H x A->g x (dY n js σ) A λd L=>d.drop n=(dY n js σ).drop n/\tc d L λb B=>
   if b=true then te d B λy v=>v a=some (.lst c)/\c.length<sizeLine/\∃p,p<m/\W (i+1) p (c++[y]) (aR v a (.lst (c++[y])))
   else ∃p,p<m/\W (i+1) p c B)):=by
 let T:sizeLine=16777216:=sizeLine_eq;refine {λi m c G=>m=xs.length-i/\i<=xs.length/\c=((xs.take i).filter pm).map out/\aM H G/\G a=some (.lst c),{_,rfl,i5 _,rfl,aI na,aB},?_};rintro i m c G ⟨rfl,S,rfl,h,j⟩;refine {j,?_};by_cases f:i<xs.length
 ·refine .inr {I G i h f,λx s E=>?_};let (rfl,z,u,rfl):=N _ _ _ _ h f E;let w:xs.take (i+1)=xs.take i++[z]:=by rw [A3,u];rfl
  let O:(((xs.take i).filter pm).map out).length<=i:=by
   rw [g7];exact l7 (K2 _ _) (by rw [l0];omega)
  refine C z (i6 u) _ h _ λd e K F=>{e,K _ ?_};by_cases l:pm z=true
  ·rw [if_pos l];refine F l _ λq t=>{t _ _ j,∎,xs.length-(i+1),∎,rfl,f,?_,λb o e=>?_,aB}
   ·rw [w,M6,n6];simp [l]
   ·rw [aC (aD e na)];exact t _ _ (h _ _ e)
  ·rw [if_neg l];refine {xs.length-(i+1),∎,rfl,f,?_,h,j};rw [w,M6,n6];simp [l]
 let e:i=xs.length:=∎;subst e;rw [List.take_length] at j;exact .inl {M _ h,k _ _ h j}
end
end
section
variable {X:Cx} {σ:St} {H:Hp} {D:eK} {r ss:List Stmt} {pos p' p1 p2 p3:Pos} {e a b o:Expr} {x:Str} {n:Nat} {i j:Int} {v w:V} {l:Addr} {xs:List V} {c d:Bool}
def DA (h:Vl X a σ H (.int i)) (g:Vl X b σ H (.int j)) (z:HB i j):Vl X (.BinOp a .Pow b pos) σ H (.int (i ^ j.toNat)):={λ_ q=>{_,cI Zz aP aP,h.to _ (g.to _ {_,_,rfl,rfl,z,q})}}
def DF (h:Vl X a σ H (.ref l)) (z:H l=some (.lst xs)) (k:X.mg "len"=none) (m:Gl X "len") (f:starEach [a] X.env=[(false,eval a X.env)]) (g:(backTo pos (starEach [] X.env)).any (·.1)=false):Vl X (.Call (.Name "len" p1) [a] [] pos) σ H (.int xs.length):=
 {λ_ q=>{_,bF cG m k PySem.boot_len (aA aP aE f) (by decide) (by decide) f g,h.to _ {_,_,rfl,.inl (dD.of z),q}}}
def fG (h:Tv X a σ H c) (g:c=true->Tv X b σ H d):Tv X (.BoolOp .And [a,b] pos) σ H (c && d):={λ_ q=>{_,PW.pt (iV fN (gE fN)),h.to _ (by cases c;exact cO q;exact cW ((g rfl).to _ q))}}
def rH (g:Vl X o σ H (.ref l)) (h:Vl X e σ H v) (z:H l=some (.lst xs)) (f:xs.length<sizeLine) (k:Wp X r D σ (aR H l (.lst (xs++[v])))) (m:swapsWith (.Call (.Attribute o "append" p1) [e] [] p2) none pos.line X.env=pure false)
  (M:PE X (.Call (.Attribute o "append" p1) [e] [] p2) (IC X.K "list" uB (Ex X o) (iU (Ex X e) mV))):Wp X (.Expr (.Call (.Attribute o "append" p1) [e] [] p2) pos::r) D σ H:=
 {_,aF (cJ M m) aU,g.to _ {.inl {rfl,_,dD.of z},h.to _ {l,_,_,rfl,rfl,z,f,k}}}
def lT {f:List Expr} {vs:List V} (S:X.N.Nodup) (hi:X.N[n]?=some x) (h:Av X f σ H vs) (t:vs.length<=1000) (k:∀l g,H l=none->aM H g->g l=some (.lst vs)->Wp X r D (σ.set n (some (.ref l))) g) (u:Ay X.env.scope x:=by first|exact j5 rfl|exact E1 rfl) (s:swapsWith (.List f p1) (some (.Name x p')) pos.line X.env=pure false:=by rfl) (q:X.fn x=true\/X.env.scope.names.lookup x=some .local:=by first|exact .inl rfl|exact .inr rfl):
  Wp X (.Assign [.Name x p'] (.List f p1) pos::r) D σ H:=cF S hi {_,pH dE,h.to _ {B5 (gU t),λp m=>k p _ m (aI m) aB}} u s q
def Xq (h:Vl X a σ H (.ref l)) (z:H l=some (.tup xs)) (k:X.mg "len"=none) (m:Gl X "len") (f:starEach [a] X.env=[(false,eval a X.env)]) (g:(backTo pos (starEach [] X.env)).any (·.1)=false):Vl X (.Call (.Name "len" p1) [a] [] pos) σ H (.int xs.length):=
 {λ_ q=>{_,bF cG m k PySem.boot_len (aA aP aE f) (by decide) (by decide) f g,h.to _ {_,_,rfl,.inr (cA.of z),q}}}
def Qg {h:Expr} {g:TG} (G:PassesOwn (model X.prog X.w) X.A X.env X.xe) (I:PG X h g) (J:Vl X e σ H (.ref l)) (z:H l=some (.tup xs)) (f:Nat->St->Hp->Prop) (C:f 0 σ H) (E:∀i σ H,i<=xs.length->f i σ H->H l=some (.tup xs))
  (s:∀i x σ H k,xs[i]?=some x->f i σ H->Tn (f (i+1)) D k->g x σ H (Wp X ss k)) (B:∀ σ H,f xs.length σ H->Wp X r D σ H) (m:X.calm=true:=by rfl) (t:∀y,foldedSetIterable e X.env y=pure y:=by intro _;rfl):Wp X (.For h e ss [] pos::r) D σ H:=
 {_,aF (eJ G m (fY aP m) I aU t) aU,J.to _ {l,rfl,{_,cA.of z},lL (xs:=xs) f C (λi σ H F p=>cA.of (E i σ H F p)) (λi x σ H u p=>s i x σ H _ u p {λ_ _ q=>q,λ_ _ q=>q,λ_ _ q=>q}) B}}
def tH (m:σ[n]?=some (some (.int i))) (h:Vl X e σ H (.int j)) (S:X.N.Nodup) (hi:X.N[n]?=some x) (f:Ay X.env.scope x) (g:X.fn x=true\/X.env.scope.names.lookup x=some .local) (k:Wp X r D (σ.set n (some (.int (i+j)))) H):Wp X (.AugAssign (.Name x p') .Add e pos::r) D σ H:=
 {_,aF (Zr S hi f aP AU g) aU,_,m,h.to _ {_,_,rfl,rfl,k}}
def gD {f:List Expr} {k0:Nat} {vs m:List V} (A:Vl X o σ H (.ref l)) (y:Av X f σ H vs) (z:H l=some (.lst m)) (B:m.length<=4000) (s:vs.length<=1000) (k:∀t g,H t=none->(∀b u,H b=some u->b≠l->g b=some u)->g l=some (.lst (m++[.ref t]))->g t=some (.tup vs)->Wp X r D σ g) (q:swapsWith (.Call (.Attribute o "append" p1) [.Tuple f k0 p3] [] p2) none pos.line X.env=pure false)
  (M:PE X (.Call (.Attribute o "append" p1) [.Tuple f k0 p3] [] p2) (IC X.K "list" uB (Ex X o) (iU (Xv (Ax X f)) mV))):Wp X (.Expr (.Call (.Attribute o "append" p1) [.Tuple f k0 p3] [] p2) pos::r) D σ H:=
 {_,aF (cJ M q) aU,A.to _ {.inl {rfl,_,dD.of z},y.to _ ⟨B5 (gU s),λt h=>by
  have p:l≠t:=aD z h
  refine {l,_,_,rfl,rfl,by rw [aC p];exact z,by rw [sizeLine_eq];omega,k t _ h (λb u e n=>?_) aB ?_}
  ·rw [aC n,aC (aD e h)];exact e
  ·rw [aC p.symm];exact aB⟩}}
def Ex.mono {Q g:VK} (h:Ex X e σ H Q) (k:∀v H,Q v H->g v H):Ex X e σ H g:=by
 let (t,p,h):=h;exact⟨λy u z=>∃f:VK,(∀v H,f v H->z v H)/\t y u f,λ_ s σ H Q I ⟨f,m,h⟩=>gM (p s σ H f I h) λv s ⟨x,H,I,r,q⟩=>{x,H,I,r,m _ _ q},Q,k,h⟩
inductive LB (X:Cx) (n:Nat) (ss r:List Stmt) (D:eK) (σ:St) (v:V) (H:Hp):Prop|mk (j:Int) (Pv:Nat->St->Hp->Prop) (_:v=.int j) (_:-(2 ^ 62)<=j/\j<2 ^ 62) (_:Pv 0 σ H) (_:∀i σ H D',i<j.toNat->Pv i σ H->Tn (Pv (i+1)) D D'->Wp X ss D' (σ.set n (some (.int (0+(i:Int))))) H) (_:∀ σ H,Pv j.toNat σ H->Wp X r D σ H)
def lS (G:PassesOwn (model X.prog X.w) X.A X.env X.xe) (u:X.mg "range"=none) (S:X.N.Nodup) (hi:X.N[n]?=some x) (h:Ex X a σ H (LB X n ss r D σ)) (s:X.calm=true:=by rfl) (C:Ay X.env.scope x:=by first|exact j5 rfl|exact E1 rfl) (J:Gl X "range":=by rfl) (f:starEach [a] X.env=[(false,eval a X.env)]:=by rfl) (z:X.fn x=true\/X.env.scope.names.lookup x=some .local:=by first|exact .inl rfl|exact .inr rfl) (g:∀y,foldedSetIterable (.Call (.Name "range" p1) [a] [] p2) X.env y=pure y:=by intro _;rfl):
  Wp X (.For (.Name x p') (.Call (.Name "range" p1) [a] [] p2) ss [] pos::r) D σ H:=
 ⟨_,aF (eJ G s (sB J u (aA aP aE f) f s) (aW S hi C z) aU g) aU,h.mono λv K q=>by
  let (j,t,rfl,m,F,B,E):=q
  exact {j,rfl,m.1,m.2,jW t F (λk σ H I p=>B k σ H _ I p {λ_ _ q=>q,λ_ _ q=>q,λ_ _ q=>q}) E}⟩
def BA {Q:VK} (g:Vl X a σ H (.int i)) (h:Ex X b σ H λw f=>∃j:Int,w=.int j/\0<j/\Q (.int (i % j)) f):Ex X (.BinOp a .Mod b pos) σ H Q:={_,cI iY aP aP,g.to _ (h.mono λ_ _ ⟨j,e,z,q⟩=>{(i),j,rfl,e,z,q})}
def eF {Q:VK} {g:List Expr} {vs:List V} (s:Av X g σ H vs) (t:vs.length<=1000) (q:∀f,aM H f->Vl X b σ f (.int i)) (z:kB vs i=some v) (k:∀f,aM H f->Q v f) (m:oG b:=by exact λ_ _=>rfl):Ex X (.Subscript (.List g p1) b pos) σ H Q:=
 {_,dQ jV (pH dE) aP m,s.to _ {B5 (gU t),λp h=>(q _ (aI h)).to _ {_,_,_,_,rfl,rfl,dD.of aB,z,k _ (aI h)}}}
def Nz {Q:VK} (h:Ex X a σ H λv g=>∃i:Int,v=.int i/\Ex X b σ g λw f=>∃j:Int,w=.int j/\Q (.int (i+j)) f):Ex X (.BinOp a .Add b pos) σ H Q:={_,cI eR aP aP,h.mono λ_ _ ⟨i,e,h⟩=>h.mono λ_ _ ⟨j,e',q⟩=>{(i),j,e,e',q}}
end
end L2
namespace Hd
open PySem PyProof.Rows
section
variable {M:Model} {A:Around} {E:Value->Shared->Prop} {s:Shared}
end
end Hd
namespace L2
open PySem PySem.Spec PyProof.Rows
section
variable {P:Program} {w:World} {K:PySem.W.Frag} {mg:Str->Option Value} {base:Heap} {N:List Str} {qual:Str} {scope:Scope} {f:Addr} {cd:Value} {A:Around} {outer:List Env} {s₀:Shared} {H₀:Hp} {E:XK}
end
section
variable {X:Cx} {NB:List Str} {n:Nat} {js:List Nat} {scope:Scope} {cl:List (Str × Addr)}
end
def tD.okE {P:Program} {w:World} {K:PySem.W.Frag} {mg:Str->Option Value} {base:Heap} {x a:Str} {st:Stmt} {f:Addr} {g:FuncData} {N ps:List Str} {k:Nat} {sp:Sp} (F:tD K x a st f g) (S:aJ N ps (aG st)) (e:∀vs H Q E,sp vs H Q E->vs.length=ps.length)
  (b:∀(cdv:Value) (A:Around) (outer:List Env) (s:Shared) (H:Hp) (vs:List V) (Q:VK) (E:XK),Room k (A.deeper (envOfC a (aG st) s.heap.objs.size f cdv))->sp vs H Q E ->
   let X:=(jH (jN P w) P w K mg base N a (aG st) f cdv A outer s H E)
   let D:eK:={ nx:=λ_ l=>Q .non l,rt:=Q }
   ∃t,qX X (bV st) t/\t D (dJ N vs) H):bK P w K mg base (jN P w) (k+1) f g ps sp:=by
 let (r,q,kV,h,p,n,cdv,o,j,rfl,m,c):=F.ex;exact Nx m c S e λA outer s H vs Q E i d=>b cdv A outer s H vs Q E i d
def xK {K:PySem.W.Frag} {a:Addr} {d:Int} {xs:List V} {g:TG} {tb:TS} {D:eK} {σ:St} {H:Hp} (b:Nat->St->Hp->Prop) (s:b 0 σ H) (o:∀i σ H,i<=xs.length->b i σ H->cA K H a xs)
  (n:∀i x σ H t,xs[i]?=some x->b i σ H->H t=none->g (.ref t) σ (aR H t (.tup [.int (d+i),x])) λh j=>tb { D with nx:=b (i+1),ct:=b (i+1),bk:=D.nx } h j) (r:∀ σ H,b xs.length σ H->D.nx σ H):
  ∃W:Nat->Nat->St->Hp->Prop,(∃m,W 0 m σ H)/\∀i m σ H,W i m σ H ->
   ((GY K a d).stop i H/\D.nx σ H)\/((GY K a d).go i H/\∃N:St->Hp->Prop,(∀k c,N k c->∃l,l<m/\W (i+1) l k c)/\∀x c,(GY K a d).yld i H x c->g x σ c λh j=>tb { D with nx:=N,ct:=N,bk:=D.nx } h j):=by
 refine {λi m σ H=>m=xs.length-i/\i<=xs.length/\b i σ H,{xs.length,by simp,i5 _,s},?_};rintro i m σ H ⟨rfl,w,p⟩;let q:=o i σ H w p;by_cases f:i<xs.length
 ·refine .inr {{xs,xs[i],q,by simp [f]},b (i+1),λk c u=>{xs.length-(i+1),∎,rfl,f,u},λx c y=>?_};let (t,v,z,rfl,rfl,y):=y;exact n i v σ _ t (y xs q) p z
 ·let e:i=xs.length:=∎;subst e;exact .inl {{xs,q,c9 _},r σ H p}
end L2
namespace L2
open PySem PySem.Spec PyProof.Rows PySem.W
section
variable {X:Cx}
def Zm (H0:Hp) (t:TS):TS:=λD σ H=>t { D with nx:=λσ1 H1=>∃a o kvs,H1 a=some (.frz o (.dK kvs))/\(∀o v,H0 a≠some (.frz o v))/\D.nx σ1 (aR H1 a (.dK kvs)),rt:=λv H1=>∃a o kvs,H1 a=some (.frz o (.dK kvs))/\(∀o v,H0 a≠some (.frz o v))/\D.rt v (aR H1 a (.dK kvs)) } σ H
def Kz {st:Stmt} {t:TS} (h:PS X st t):PS X st (Zm X.H₀ t):=λj s σ H D I q=>gM (h s σ H _ I q) λf l z=>by
 cases f with
 | next=>
  let (g,k,i,a,o,c,b,e,d):=z
  exact {g,_,i.thaw b e,d}
 | ret u=>
  let (v,g,k,i,r,a,o,c,b,e,d):=z
  exact {v,g,_,i.thaw b e,r,d}
 | brk=>exact z
 | cont=>exact z
end
end L2
namespace Sr
open PySem PyProof.Rows
def fmS (val:Nat->Str):Nat->List Str
 | 0=>[]
 | i+1=>if (fmS val i).any (· == val i) then fmS val i else fmS val i++[val i]
theorem fmS_le (val:Nat->Str):∀i,(fmS val i).length<=i
 | 0=>c9 _
 | i+1=>by
  have a:=fmS_le val i
  unfold fmS
  split
  ·omega
  ·rw [i7,F0];omega
theorem Do (val:Nat->Str):∀(i:Nat) (k:Str),k ∈ fmS val i↔∃j,j<i/\val j=k
 | 0,k=>{λh=>absurd h (by simp [fmS]),λ⟨j,h,_⟩=>absurd h (D9 _)}
 | i+1,k=>by
  let ih:=Do val i
  let hs:k ∈ fmS val (i+1)↔k ∈ fmS val i\/k=val i:=by
   show k ∈ (if (fmS val i).any (· == val i) then fmS val i else fmS val i++[val i])↔_;split
   ·rename_i h;let (x,hx,e):=List.any_eq_true.mp h;let e:=eq_of_beq e;subst e;exact {.inl,λh=>h.elim id λe=>e ▸ hx}
   ·simp
  rw [hs,ih k];constructor
  ·rintro(⟨j,h,e⟩|e)
   ·exact {j,∎,e}
   ·exact {i,∎,e.symm}
  ·rintro⟨j,h,e⟩;rcases Nat.lt_succ_iff_lt_or_eq.mp h with h|rfl
   ·exact .inl {(j),h,e}
   ·exact .inr e.symm
theorem xL (val:Nat->Str):∀i,(fmS val i).length=i↔∀j k,j<k->k<i->val j≠val k
 | 0=>{λ_ j k _ h=>absurd h (D9 _),λ_=>rfl}
 | i+1=>by
  let ih:=xL val i
  let le:=fmS_le val i
  let hl:(fmS val (i+1)).length=if (fmS val i).any (· == val i) then(fmS val i).length else(fmS val i).length+1:=by
   show (if (fmS val i).any (· == val i) then fmS val i else fmS val i++[val i]).length=_;split <;> simp
  rw [hl];let hm:(fmS val i).any (· == val i)=true↔∃j,j<i/\val j=val i:=by
   rw [List.any_eq_true,<- Do val i (val i)];exact {λ⟨x,hx,e⟩=>eq_of_beq e ▸ hx,λh=>{_,h,by simp}}
  split
  ·rename_i h;let (j,hj,e):=hm.mp h;exact {λh=>∎,λh=>absurd e (h j i hj ∎)}
  ·rename_i h;let hn:∀j,j<i->val j≠val i:=λj hj e=>h (hm.mpr {(j),hj,e});constructor
   ·intro h' j k hjk hk;rcases Nat.lt_succ_iff_lt_or_eq.mp hk with hk|rfl
    ·exact ih.mp ∎ j k hjk hk
    ·exact hn j hjk
   ·intro h';rw [ih.mpr λj k hjk hk=>h' j k hjk ∎]
def fmS_nodup (val:Nat->Str):∀(ns:List Str),(∀i,i<ns.length->ns[i]?=some (val i))->((fmS val ns.length).length=ns.length↔ns.Nodup):=by
 intro ns d;rw [xL];unfold List.Nodup;rw [t4];constructor
 ·intro h i j m c g e;refine h i j g c ?_;let b:=d i m;have a:=d j c;rw [c7 m] at b;rw [c7 c] at a;let b:=Option.some.inj b;have a:=Option.some.inj a;rw [<- b,<- a];exact e
 ·intro h j k f l e;let c:j<ns.length:=∎;refine h j k c l f ?_;let b:=d j c;have a:=d k l;rw [c7 c] at b;rw [c7 l] at a;let b:=Option.some.inj b;have a:=Option.some.inj a;rw [b,a,e]
section
variable {prog:Program} {w:World} {A:Around} {R:Result->Shared->Prop} {I:Addr} {fp wr:List Addr} {G:Array GenState->Array GenState->Prop} {n:Nat} {P:Nat->Value->Prop} {St:Nat->Shared->Prop}
def tI (W:WalksS prog w A.in1 I fp wr G n P St) (S:Addr) (hSf:S ∉ fp) (val:Nat->Str) (hval:∀i v,P i v->∃t,v=.str (val i) t) (hb:n+1<scanBound):
  ∀(k i:Nat) (s:Shared),n-i=k->i<=n->St i s->s.heap.SetOf (strKind prog w) S (λk'=>(fmS val i).any (· == k')) (fmS val i).length ->
   (∀s',Moved (S::wr) G s s'->s'.heap.SetOf (strKind prog w) S (λk'=>(fmS val n).any (· == k')) (fmS val n).length->R (.ok (.ret .none)) s') ->
   codeAny (model prog w) A (.builtin "set.update.loop" {[.ref S,.ref I],[]}) R s:=by
 let hSw:S ∉ wr:=λh=>hSf (W.sub _ h);let sub:∀b ∈ wr,b ∈ S::wr:=λb hb=>d0 _ hb;let mv:∀{h h':Heap} {f:Str->Bool} {m:Nat},(∀o,h.get? S=some o->h'.get? S=some o)->h.SetOf (strKind prog w) S f m->h'.SetOf (strKind prog w) S f m:=λk x=>
  let ⟨o,es,ep,t,ho,rest⟩:=x;{o,es,ep,t,k o ho,rest}
 intro k
 induction k with
 | zero=>
  intro i s hk hi hst hS hR;let hin:i=n:=∎;subst hin
  refine D6 F.entry_set_update_loop ?_;rw [F4 N2 _];show wpAny _ A.in1 (pyNext (.ref I) >>= _) _ _ s;refine c6 (W.done s _ _ hst λs' hm=>?_);show wpAny _ A.in1 (ret Value.none) _ _ s';exact g9 (hR s' (hm.mono sub) (mv (λo e=>hm.heap S _ hSw e) hS))
 | succ k ih=>
  intro i s hk hi hst hS hR;let hlt:i<n:=∎;refine D6 F.entry_set_update_loop ?_;rw [F4 N2 _];show wpAny _ A.in1 (pyNext (.ref I) >>= _) _ _ s;refine c6 (W.item i s _ _ hlt hst λv s' hP hst' hm=>?_);let (t,rfl):=hval i v hP;let hS':=mv (h':=s'.heap) (λo e=>hm.heap S _ hSw e) hS;show wpAny _ A.in1 (holding [Value.str (val i) t] (setAdd S (.str (val i) t)) >>= _) _ _ s';refine c6 (w9 ?_);unfold setAdd;refine w9 (c6 ((strKind prog w).pyHash (k:=val i) (strKind_is _ _ _ _) ?_));refine wpAny_setAddHashed_of (knd:=strKind prog w) (s:={ s' with toks:=s'.toks+1 }) (strKind_is _ _ _ _) rfl hS' (by have:=fmS_le val i;omega) λh' hsb hS2=>?_;let Si:h'.SetOf (strKind prog w) S (λk'=>(fmS val (i+1)).any (· == k')) (fmS val (i+1)).length:=by
   refine SetOf_congr hS2 (λk'=>?_) ?_
   ·show _=(if (fmS val i).any (· == val i) then fmS val i else fmS val i++[val i]).any (· == k');split
    ·rename_i h;by_cases e:k'=val i
     ·subst e;rw [h];simp
     ·simp [e]
    ·rw [List.any_append];by_cases e:k'=val i
     ·subst e;simp
     ·let hb:(val i == k')=false:=by simpa [beq_iff_eq] using (λh':val i=k'=>e h'.symm)
      simp [hb,e]
   ·show _=(if (fmS val i).any (· == val i) then fmS val i else fmS val i++[val i]).length;split <;> rename_i h
    ·simp [h]
    ·simp [h]
  refine g9 {plainId_quiet N2 _,ih (i+1) _ ∎ hlt (W.frame _ s' _ _ hst' (F6 _) λb hb o e=>?_) Si λs'' hm'' hS''=>?_}
  ·rw [hsb.2 b (λh:b=S=>hSf (by rw [<- h];exact hb))];exact e
  ·refine hR s'' (Moved.trans W.gtrans ((hm.mono sub).then_heap (F6 _) λb o hb e=>?_) hm'') hS'';rw [hsb.2 b (λh:b=S=>hb (by rw [h];exact i0))];exact e
end
section
variable {prog:Program} {w:World} {A:Around} {E:Value->Shared->Prop} {s:Shared}
set_option maxHeartbeats 8000000 in
def set_listT {l:Addr} {items:Array Value} {val:Nat->Str} {Q:Value->Shared->Prop} (hh:A.handled=none) (hl:s.heap.IsList l items) (hi:∀(i:Nat) (v:Value),items[i]?=some v->∃t,v=.str (val i) t) (hb:items.size+1<scanBound)
  (h:∀(h':Heap) (tk:Nat),h'.SetOf (strKind prog w) s.heap.objs.size (λk'=>(fmS val items.size).any (· == k')) (fmS val items.size).length ->
   (∀b o,b<s.heap.objs.size->s.heap.get? b=some o->h'.get? b=some o)->Q (.ref s.heap.objs.size) { s with heap:=h',toks:=tk }):
  wpAny (model prog w) A (call (.type "set") [.ref l]) Q E s:=by
 let (c,tl,hmro):=PySem.F.called_set.mro;let hmade:=PySem.F.called_set.made;let hsub:=PySem.F.called_set.sub;refine K6 (codeAny_of_tree ?_);show wpAny _ _ (callAny (.type "set") _) _ _ _;refine g9 {Q4 _ ⋯,D6 PySem.F.entry_type_call ?_};rw [Around.under_plain (weight_type_call_type "set" [.ref l] []) rfl];let h1:=PySem.F.called_set.notType;let h2:=PySem.F.called_set.canCreate;let hct:=PySem.F.typeCall_set_1 (.ref l)
 repeat (any_goals (first|assumption|wp_step))
 refine D5 (code_set_new_1 (.ref l) (E:=E) (Q₁:=λobj s₁=>∃led:Bool,obj=.ref s.heap.objs.size/\s₁={ s with heap:=s.heap.push { cls:=.type "set",dict:=none,data:=.set #[] 0 (.fresh 0 0 led) } }) λled=>{(led),rfl,rfl}) λr s₁ hr=>?_;cases r with
 | error e=>exact hr
 | ok fl=>
  cases fl with
  | ret obj=>
   let (led,rfl,rfl):=hr;let hS:(s.heap.push { cls:=.type "set",dict:=none,data:=.set #[] 0 (.fresh 0 0 led) }).get? s.heap.objs.size=some { cls:=.type "set",dict:=none,data:=.set #[] 0 (.fresh 0 0 led) }:=i9 _ rfl;let hT:Shared.TypeIs { s with heap:=s.heap.push { cls:=.type "set",dict:=none,data:=.set #[] 0 (.fresh 0 0 led) } } (.ref s.heap.objs.size) "set":={_,hS,rfl};let hli:=PySem.F.called_set.init.lookup;let hbi:=PySem.F.called_set.init.bind (.ref s.heap.objs.size)
   repeat (any_goals (first|assumption|wp_step))
   refine D5 (K7 (R:=wants (λr s₂=>r=.none/\∃h' tk,s₂={ s with heap:=h',toks:=tk } /\
     h'.SetOf (strKind prog w) s.heap.objs.size (λk'=>(fmS val items.size).any (· == k')) (fmS val items.size).length /\
     (∀b o,b<s.heap.objs.size->s.heap.get? b=some o->h'.get? b=some o)) E) PySem.F.called_set.init.plain PySem.F.entry_set_init (check_set_init_1 hT ?_)) λr₂ s₂ hr₂=>?_
   ·let ((ocls,odict,odata,oslots),hol,hcl,nl,hdl):=hl;simp only at hcl hdl;subst hcl;subst hdl;let hol':(s.heap.push { cls:=.type "set",dict:=none,data:=.set #[] 0 (.fresh 0 0 led) }).get? l=some { cls:=.type "list",dict:=odict,data:=.seq items nl,slots:=oslots }:=f6 _ hol;let hsls:=PySem.F.sub_list_set;let hslf:=PySem.F.sub_list_frozenset;let hne:(Value.type "list" == Value.type "dict")=false:=by decide
    let hl1:(s.heap.push { cls:=.type "set",dict:=none,data:=.set #[] 0 (.fresh 0 0 led) }).IsList l items:={_,hol',rfl,nl,rfl};unfold Builtin.«set.__init__» noKeywords Builtin.Frozenset.updateFrom;generalize hPI:pyIter=PI;wp_walk;subst hPI;refine N4 hl1 (c6 (wpAny_runValue ?_));let hlS:l<s.heap.objs.size:=i4 hol;let hh3:A.in1.in1.in1.handled=none:=by simp [hh]
    let hneI:l≠(s.heap.push { cls:=.type "set",dict:=none,data:=.set #[] 0 (.fresh 0 0 led) }).objs.size:=by
     rw [E3];exact j8 (Nat.lt_succ_of_lt hlS)
    let hSf:s.heap.objs.size ∉ [(s.heap.push { cls:=.type "set",dict:=none,data:=.set #[] 0 (.fresh 0 0 led) }).objs.size,l]:=by
     rw [E3];simp only [g8,l6,O9,or_false,not_or];exact {j8 (K5 _),J6 hlS}
    refine tI ((Walks.list hh3 _ l hneI items).toS) s.heap.objs.size hSf val (λi v hv=>hi i v hv) hb (items.size-0) 0 _ ∎ (i5 _)
     {{_,i9 _ rfl,rfl,rfl},(hl1.push _)} ?hS0 ?hR
    case hS0=>
     let hget:((s.heap.push { cls:=.type "set",dict:=none,data:=.set #[] 0 (.fresh 0 0 led) }).push { cls:=.type "list_iterator",data:=.fields #[.ref l,.int 0 0] }).get? s.heap.objs.size=some { cls:=.type "set",dict:=none,data:=.set #[] 0 (.fresh 0 0 led) }:=f6 _ hS;refine SetOf_congr (S:=λ_=>false) (n:=0) {_,#[],0,_,hget,{(rfl),rfl,rfl},rfl,λe he=>by simp at he,λk=>by simp,by decide,by rfl,rfl} (λ_=>rfl) rfl
    case hR=>
     intro s' hm hS';let (h',g',d',tk',os'):=s';let eg:g'=s.gens:=hm.gens;let ed:d'=s.drawn:=hm.drawn;let eo:os'=s.os:=hm.os;subst eg;subst ed;subst eo;show wpAny _ _ _ _ _ _;refine g9 ?_;show wpAny _ _ (ret Value.none) _ _ _;refine g9 {rfl,h',tk',rfl,hS',λb o hb e=>?_};let hb2:b≠(s.heap.push { cls:=.type "set",dict:=none,data:=.set #[] 0 (.fresh 0 0 led) }).objs.size:=by
      rw [E3];exact j8 (Nat.lt_succ_of_lt hb)
     exact hm.heap b o (by simp only [g8,l6,O9,or_false,not_or];exact {j8 hb,hb2}) (f6 _ (f6 _ e))
   ·cases r₂ with
    | error e=>exact hr₂
    | ok fl₂=>
     cases fl₂ with
     | ret r=>
      let (rfl,h',tk,rfl,hS',hk'):=hr₂
      repeat (any_goals (first|assumption|wp_step))
      exact h _ _ hS' hk'
     | _=>exact hr₂.elim
  | _=>exact hr.elim
end
end Sr
namespace L2
open PySem PySem.Spec PyProof.Rows PySem.W
section
variable {X:Cx}
abbrev Rh (X:Cx) (a:Addr) (n:Nat):HO:=.ext (λh=>∃S,h.SetOf (strKind X.prog X.w) a S n)
theorem vH:∀{ns:List Str} {a:List Value},bG (ns.map V.str) a->∀(i:Nat) (v:Value),a[i]?=some v->∃t,v=.str (ns.getD i "") t
 | [],_,.nil,i,v,h=>by simp at h
 | n::ns,_,.cons r t,0,v,h=>by
  simp only [List.getElem?_cons_zero,N3] at h
  let (b,rfl):=r
  exact {b,h ▸ rfl}
 | n::ns,_,.cons r t,i+1,v,h=>by
  simp only [List.getElem?_cons_succ] at h
  exact vH t i v h
def Gq (C:X.calm=true):fP X (.type "set") (λg H Q=>∃(l:Addr) (ns:List Str),g=[.ref l]/\H l=some (.lst (ns.map V.str))/\ns.length<4000 /\
  ∀(a:Addr) (m:Nat),H a=none->m<=ns.length->(m=ns.length↔ns.Nodup)->Q (.ref a) (aR H a (Rh X a m))):=by
 intro f s σ H g U Q I r h;let (l,ns,rfl,M,W,q):=h;let (u,rfl,y):=iT r;cases y;let (_,c,n,p,e):=I.hok l _ M;let K:c.length=ns.length:=by
  have:=p.length;rw [g7] at this;omega
 let j:c.toArray.size=ns.length:=by simp [K]
 refine Sr.set_listT (items:=c.toArray) (val:=λi=>ns.getD i "") (I.ok.hd C) {_,e,rfl,n,rfl} (λi v B=>vH p i v (by simpa using B)) (by rw [j];unfold scanBound;omega) λT J d D=>?_;rw [j] at d;let F:=I.laid (a:=s.heap.objs.size) (o:=Rh X s.heap.objs.size (Sr.fmS (λi=>ns.getD i "") ns.length).length) (t':=J) (λb z e=>D b z (i4 e) e) (c9 _)
  (show bL _ _ _ _ _ _ from⟨{_,d},let ⟨o,_,_,_,e,_⟩:=d;{(o),e},λO N x k=>let ⟨S,o,es,ep,t,ho,rest⟩:=x;{S,o,es,ep,t,k o ho,rest}⟩)
 refine {.ref s.heap.objs.size,_,F,rfl,q _ _ (I.hok.fresh (c9 _)) (Sr.fmS_le _ _) (Sr.fmS_nodup _ ns λi L=>?_)};rw [y9,c7 L];rfl
def Gx:fP X (.builtin "len") (λd H Q=>∃(a:Addr) (m:Nat),d=[.ref a]/\H a=some (Rh X a m)/\m<4000/\Q (.int m) H):=by
 intro c s σ H d x Q I r h;let (a,m,rfl,l,v,q):=h;let (u,rfl,k):=iT r;cases k;let ((S,o,g,B,t,e,b,j,z,i,y,f,p),_,_):=I.hok a _ l;subst p;exact PySem.call_len_set e b j f ∎ {.int g.size,H,I.tok _,{_,rfl},q}
end
end L2
namespace L2
open PySem PySem.Spec PyProof.Rows
def gL.of {X:Cx} {NB:List Str} {n:Nat} {js:List Nat} {scope:Scope} {cl:List (Str × Addr)} (clo:closureFor scope X.env=pure cl) (hsub:∀p ∈ cl,X.env.cells.lookup p.1=some p.2)
  (hhas:∀p ∈ (relabel scope X.env).names,(p.2=.cell\/p.2=.free)->(cl.lookup p.1).isSome=true) (len:NB.length=n+js.length) (nam:∀k j,js[k]?=some j->NB[n+k]?=X.N[j]?)
  (ck:∀x ∈ NB.drop n,((relabel scope X.env).names.lookup x=some .cell\/(relabel scope X.env).names.lookup x=some .free)/\(X.env.kindOf x=some .cell\/X.env.kindOf x=some .free)/\(cl.lookup x).isSome=true):gL X NB n js scope cl:=
 {clo,λx c q=>hsub (x,c) (PySem.mem_of_lookup q),λx q=>q.elim (λz=>hhas (x,_) (PySem.mem_of_lookup z) (.inl rfl)) λz=>hhas (x,_) (PySem.mem_of_lookup z) (.inr rfl),len,nam,λx _ hx=>ck x hx}
def cL {α:Type} {P:α->Prop}:∀x ∈ ([]:List α),P x:=λx a=>absurd a (by simp)
def bA {α:Type} {P:α->Prop} {a:α} {l:List α} (h:P a) (t:∀x ∈ l,P x):∀x ∈ a::l,P x:=λx hx=>by
 rcases g8.mp hx with rfl|hx
 ·exact h
 ·exact t x hx
end L2
namespace L2
open PySem PySem.Spec PyProof.Rows PySem.W
def GB (X:Cx) (NB:List Str) (n:Nat) (js:List Nat) (scope:Scope) (cl:List (Str × Addr)):Bool:=
 decide (scope.kind=.function) && scope.names.all (λx=>decide (x.2≠.cell) && (decide (x.2≠.local) || decide (scope.names.lookup x.1=some .local))) && (relabel scope X.env).names.all (λp=>!(decide (p.2=.cell) || decide (p.2=.free)) || (cl.lookup p.1).isSome) && decide (NB.length=n+js.length) &&
 (NB.drop n).all (λx=>(decide ((relabel scope X.env).names.lookup x=some .cell) || decide ((relabel scope X.env).names.lookup x=some .free)) && (decide (X.env.kindOf x=some .cell) || decide (X.env.kindOf x=some .free)) && (cl.lookup x).isSome) && decide NB.Nodup
structure mZ (X:Cx) (NB:List Str) (n:Nat) (js:List Nat) (scope:Scope) (cl:List (Str × Addr)):Prop where
 b:GB X NB n js scope cl=true
 clo:closureFor scope X.env=pure cl
 ce:cl.map (λp=>X.env.cells.lookup p.1)=cl.map λp=>some p.2
 nm:js.map (λj=>X.N[j]?)=(NB.drop n).map some
section
variable {X:Cx} {NB:List Str} {n:Nat} {js:List Nat} {scope:Scope} {cl:List (Str × Addr)}
def mZ.all (c:mZ X NB n js scope cl):scope.kind=.function/\(∀x ∈ scope.names,x.2≠.cell)/\(∀x ∈ scope.names,x.2=.local->scope.names.lookup x.1=some .local)/\gL X NB n js scope cl/\NB.Nodup:=by
 let b:=c.b;unfold GB at b;simp only [B4,decide_eq_true_eq,F7,Bool.or_eq_true,J0,Bool.or_eq_false_iff,decide_eq_false_iff_not] at b;let (((((b1,b2),b3),b4),b5),b6):=b;refine {b1,λx hx=>(b2 x hx).1,λx hx e=>(b2 x hx).2.resolve_left λz=>z e,gL.of c.clo (λp hp=>?_) (λp hp h=>?_) b4 (λk j h=>?_) λx hx=>?_,b6}
 ·let (i,hi):=List.getElem?_of_mem hp;have:=congrArg (λl:List (Option Addr)=>l[i]?) c.ce;simp only [i8,hi,Option.map_some,N3] at this;exact this
 ·rcases b3 p hp with z|z
  ·rcases h with h|h
   ·exact absurd h z.1
   ·exact absurd h z.2
  ·exact z
 ·have:=congrArg (λl:List (Option Str)=>l[k]?) c.nm;simp only [i8,h,Option.map_some,p7] at this;cases e:NB[n+k]? with
  | none=>rw [e] at this;cases this
  | some y=>rw [e] at this;exact(Option.some.inj this).symm
 ·let ((a,d),f):=b5 x hx;exact {(a),d,f}
end
section
variable {X:Cx} {σ:St} {H:Hp} {pos p' p1 p2 p3:Pos} {x:Str} {NB:List Str} {js:List Nat} {scope:Scope} {cl:List (Str × Addr)} {elt e c:Expr} {Q:VK} {la:Addr} {α:Type} {val out:α->V} {pm:α->Bool} {zs:List α}
inductive LE (X:Cx) (NB:List Str) (js:List Nat) (scope:Scope) (cl:List (Str × Addr)) (c elt:Expr) (σ:St) (Q:VK) (v:V) (H:Hp):Prop|mk (α:Type) (la:Addr) (zs:List α) (val out:α->V) (pm:α->Bool) (_:v=.ref la) (_:H la=some (.lst (zs.map val))) (_:zs.length<=4000)
  (_:∀z ∈ zs,∀G,aM H G->∀C s H' fp pn,Tv (X.blkF NB scope cl C s H' fp pn) c ((dY 1 js σ).set 0 (some (val z))) G (pm z)) (_:∀z ∈ zs,pm z=true->∀G,aM H G->∀C s H' fp pn,Vl (X.blkF NB scope cl C s H' fp pn) elt ((dY 1 js σ).set 0 (some (val z))) G (out z))
  (_:∀acc G,aM H G->G acc=some (.lst ((zs.filter pm).map out))->Q (.ref acc) G)
def vA {n:Nat} {y:Str} {P l:Pos} {D:eK} {r:List Stmt} (S:X.N.Nodup) (A:X.N[n]?=some y) (C:mZ X NB 1 js scope cl) (hi:NB[0]?=some x) (h:Ex X e σ H (LE X NB js scope cl c elt σ λv a=>Wp X r D (σ.set n (some v)) a))
  (B:Ay X.env.scope y:=by first|exact j5 rfl|exact E1 rfl) (hx:∀C s a d b,Ay (X.blkF NB scope cl C s a d b).env.scope x:=by exact λ_ _ _ _ _=>j5 rfl) (hf:∀C s a d b,(X.blkF NB scope cl C s a d b).env.scope.names.lookup x=some .local:=by exact λ_ _ _ _ _=>rfl) (Y:X.calm=true:=by rfl)
  (F:swapsWith (.ListComp elt [{.Name x p',e,[c],0}] scope p3) (some (.Name y P)) l.line X.env=pure true:=by rfl) (w:X.fn y=true\/X.env.scope.names.lookup y=some .local:=by first|exact .inl rfl|exact .inr rfl) (J:∀y,foldedSetIterable e X.env y=pure y:=by intro _;rfl):Wp X (.Assign [.Name y P] (.ListComp elt [{.Name x p',e,[c],0}] scope p3) l::r) D σ H:=by
 let (c1,c2,U,c4,c5):=C.all;refine {_,aF (nJ S A B c1 c2 U rfl c4 (g:=cS 0) (tc:=Bt X NB scope cl c) (te:=Bx X NB scope cl elt) (iF aP Y) (λC s H d b=>aW c5 hi (hx C s H d b) (.inr (hf C s H d b))) (λC s a d b=>nG λ_ t u L M I h=>fN t u L M I (h C s a d b)) (λC s a d b _ t u L M I h=>aP t u L M I (h C s a d b)) F w J) aU,h.mono λv H1 q=>?_};let (α,la,zs,val,out,pm,rfl,z,ln,W,Z,k):=q;refine {la,rfl,{_,dD.of z},?_};let (f1,f2,f3):=Fy (K:=X.K) z;exact sQ (Q:=λv a=>Wp X r D (σ.set n (some v)) a) ln f1 f2 (λG i x G' s _ y=>f3 G i x G' s y) _ (λz O G T R h=>h _ rfl (λR q C s a d b=>(W z O G T C s a d b).to _ q) λhp R q C s a d b=>(Z z O hp G T C s a d b).to _ (q _ (aM.refl _))) k
def DJ {op:CmpOp} {d:R2} {a b:Expr} {u v w:V} (l:kM X (compareOp op) d) (h:Vl X a σ H v) (g:Vl X b σ H w) (y:∀Q:VK,Q u H->d v w H Q) (s:behindInMarks op b=false):Vl X (.Compare a [op] [b] pos) σ H u:={λ_ q=>{_,dF l aP aP s,h.to _ (g.to _ (y _ q))}}
end
section
variable {X:Cx} {CX:mK} {k:Nat} {f C:Addr} {fd:FuncData} {ps:List Str} {sp:Sp} {E:XK} {m:Str} {pos apos:Pos} {o:Expr} {σ:St} {H:Hp} {Q:VK}
end
section
variable {X:Cx} {σ:St} {H:Hp} {D:eK} {r:List Stmt} {pos p' tpos:Pos} {e o:Expr} {f:Str} {v:V} {p C dx:Addr} {fs:List (Str × V)} {i j:Int}
def DH (h:Vl X e σ H (.ref p)) (z:H p=some (.ins C dx fs)) (c:oK X.K C) (n:NoAttr X.K C f) (l:fs.lookup f=some v) (a:attributeBase e f X.env (eval e X.env)=eval e X.env):Vl X (.Attribute e f pos) σ H v:={λ_ q=>{_,aV aP a,h.to _ {_,_,_,_,_,rfl,z,c,n,l,q}}}
def dL (h:Vl X o σ H (.ref p)) (g:Vl X e σ H v) (z:H p=some (.ins C dx fs)) (c:oK X.K C) (n:NoAttr X.K C f) (l:fs.length<1000) (k:Wp X r D σ (aR H p (.ins C dx (cN f v fs)))) (a:swapsWith e (some (.Attribute o f p')) pos.line X.env=pure false:=by rfl):Wp X (.Assign [.Attribute o f p'] e pos::r) D σ H:={_,aF (cD aP aP a) aU,g.to _ (h.to _ {_,_,_,_,rfl,z,c,n,l,k})}
end
end L2
section
open L2
local macro_rules | `(tactic| symm)=>`(tactic| first|(apply CV;rfl;(first|exact j5 rfl|exact E1 (j5 rfl)|exact E1 (E1 rfl));decide;decide)|exact DG|exact CZ|exact Bh|exact mU|(apply Pb;symm;symm;rfl)|(apply DK;symm;symm)|(apply CY;symm;symm)|(apply CW;symm;symm;assumption;(first|rfl|assumption);exact λ_ _=>rfl)|(apply DE;symm;symm;assumption;(first|rfl|assumption);exact λ_ _=>rfl)|(apply DD;symm;symm;first|decide|omega|assumption)|(apply DI;symm;symm;first|exact⟨by decide,by decide⟩|assumption)|(apply DC;symm;symm;first|assumption|exact .inl ⟨by decide,by decide⟩)|(apply DA;symm;symm;first|exact⟨by decide,by decide,by decide⟩)|(apply DB;symm)|(apply DF;symm;assumption;assumption;rfl;rfl;rfl)|(apply Xq;symm;assumption;assumption;rfl;rfl;rfl)|(apply DH;symm;assumption;assumption;assumption;rfl;rfl)|(apply DL;symm)|(apply Xt;symm)|(apply HW;symm;symm;rfl)|(apply HQ;symm;symm;rfl)|(apply v_dget;symm;symm;assumption;assumption;exact λ_ _=>rfl)|(apply HS;symm;symm)|(apply HR;symm;symm)|(apply HU;symm;symm)|(apply HV;symm;symm))
local macro_rules | `(tactic| show $n:num)=>`(tactic| (apply tF (n:=$n);symm;assumption;rfl;(first|exact j5 rfl|exact E1 rfl);rfl;(first|exact .inl rfl|exact .inr rfl)))
namespace L2
open PySem PySem.Spec PyProof.Rows PySem.W
structure jM (P:Program) (w:World) (K:Frag) (mg:Str->Option Value) (base:Heap) (CX:mK) (n:Str) (k:Nat) (sp:Sp):Prop where
 ex:∃f fd ps,bK P w K mg base CX k f fd ps sp/\keepIn K (.ref f)=true/\eX K fd ps []/\mg n=some (.ref f)
structure dZ (P:Program) (w:World) (K:Frag) (mg:Str->Option Value) (base:Heap) (CX:mK) (C:Addr) (n:Str) (k:Nat) (sp:Sp):Prop where
 ex:∃f fd ps,bK P w K mg base CX k f fd ps sp/\eX K fd ps []/\yG K C n f
section
variable {P:Program} {w:World} {K:Frag} {mg:Str->Option Value} {base:Heap} {CX CX':mK} {n:Str} {j:Nat} {sp sp':Sp} {C:Addr}
def jM.up (h:jM P w K mg base CX n j sp) (k:Nat) (e:j<=k:=by decide):∃f fd ps,bK P w K mg base CX k f fd ps sp/\keepIn K (.ref f)=true/\eX K fd ps []/\mg n=some (.ref f):=by
 let (f,fd,ps,b,a):=h.ex;exact {f,fd,ps,b.mono e,a}
def dZ.up (h:dZ P w K mg base CX C n j sp) (k:Nat) (e:j<=k:=by decide):∃f fd ps,bK P w K mg base CX k f fd ps sp/\eX K fd ps []/\yG K C n f:=by
 let (f,fd,ps,b,a):=h.ex;exact {f,fd,ps,b.mono e,a}
def dZ.mk' (h:dZ P w K mg base CX C "__init__" j sp) (i:makesIn K C=true/\keepIn K (.ref C)=true) (k:Nat) (e:j<=k:=by decide):∃f fd ps,bK P w K mg base CX k f fd ps sp/\eX K fd ps []/\Mk K C f:=by
 let (f,fd,ps,b,a,m):=h.ex;exact {f,fd,ps,b.mono e,a,i.1,m.1,m.2,i.2}
def jM.to (h:jM P w K mg base CX n j sp) (t:∀{f fd ps},bK P w K mg base CX j f fd ps sp->bK P w K mg base CX' j f fd ps sp'):jM P w K mg base CX' n j sp':=by
 let (f,fd,ps,b,a):=h.ex;exact {f,fd,ps,t b,a}
def dZ.to (h:dZ P w K mg base CX C n j sp) (t:∀{f fd ps},bK P w K mg base CX j f fd ps sp->bK P w K mg base CX' j f fd ps sp'):dZ P w K mg base CX' C n j sp':=by
 let (f,fd,ps,b,a):=h.ex;exact {f,fd,ps,t b,a}
end
section
variable {X:Cx} {CX:mK} {j k:Nat} {C:Addr} {sp:Sp} {E:XK} {x m:Str} {p pos apos:Pos} {e o:Expr} {es:List Expr} {ta:TE} {t:TA} {σw σ:St} {H:Hp} {Q:VK} {vs:List V}
def aS (G:jM X.prog X.w X.K X.mg X.base CX x j sp) (h:Room k X.A) (g:dX CX X E) (i:PA X (e::es) t) (y:Gl X x:=by rfl) (a:(x == ("__debug__":Str))=false:=by decide) (l:starEach (e::es) X.env=(false,eval e X.env)::starEach es X.env:=by rfl) (b:(backTo pos (starEach es X.env)).any (·.1)=false:=by rfl) (v:j<=k:=by first|exact c9 _|decide):
  PE X (.Call (.Name x p) (e::es) [] pos) (vJ sp [] E t):=by
 let (f,fd,ps,r,d,u,s):=G.up k v;exact So r h y s d u .nil g i a l b
def fH (G:jM X.prog X.w X.K X.mg X.base CX x j sp) (d:Room k X.A) (g:dX CX X E) (i:Av X (e::es) σ H vs) (h:sp vs H Q E)
  (s:Gl X x:=by rfl) (a:(x == ("__debug__":Str))=false:=by decide) (l:starEach (e::es) X.env=(false,eval e X.env)::starEach es X.env:=by rfl) (b:(backTo pos (starEach es X.env)).any (·.1)=false:=by rfl) (r:j<=k:=by first|exact c9 _|decide):Ex X (.Call (.Name x p) (e::es) [] pos) σ H Q:=
 {_,aS G d g dE s a l b r,i.to _ (by rw [x9];exact h)}
def bE {pl:Sem Bool} (y:PE X o ta) (c:oK X.K C) (G:dZ X.prog X.w X.K X.mg X.base CX C m j sp) (h:Room k X.A) (l:dX CX X E) (s:PA X (e::es) t) (b:starEach (e::es) X.env=(false,eval e X.env)::starEach es X.env:=by rfl) (a:(backTo pos (starEach es X.env)).any (·.1)=false:=by rfl) (z:eval (.Call (.Attribute o m apos) (e::es) [] pos) X.env=(eval o X.env >>= λd=>standAt apos.atName >>= λ_=>holding [d] (getMethod d m pl) >>= λg=>callWith pos g.1 g.2 (backTo pos (starEach (e::es) X.env)) (backToKw pos (keywordEach [] X.env))):=by rfl) (r:j<=k:=by first|exact c9 _|decide):PE X (.Call (.Attribute o m apos) (e::es) [] pos) (oT C m sp [] E ta t):=by
 let (f,fd,ps,v,i,u):=G.up k r;exact Sm (pl:=pl) y c u v h i .nil l s b a z
def zH {pl:Sem Bool} (y:PE X o ta) (c:oK X.K C) (G:dZ X.prog X.w X.K X.mg X.base CX C m j sp) (h:Room k X.A) (l:oH CX X σw E) (s:PA X (e::es) t) (b:starEach (e::es) X.env=(false,eval e X.env)::starEach es X.env:=by rfl) (a:(backTo pos (starEach es X.env)).any (·.1)=false:=by rfl) (z:eval (.Call (.Attribute o m apos) (e::es) [] pos) X.env=(eval o X.env >>= λd=>standAt apos.atName >>= λ_=>holding [d] (getMethod d m pl) >>= λg=>callWith pos g.1 g.2 (backTo pos (starEach (e::es) X.env)) (backToKw pos (keywordEach [] X.env))):=by rfl) (r:j<=k:=by first|exact c9 _|decide):PE X (.Call (.Attribute o m apos) (e::es) [] pos) (We σw (oT C m sp [] E ta t)):=by
 let (f,fd,ps,v,i,u):=G.up k r;exact Fb (pl:=pl) y c u v h i .nil l s b a z
def bT {pl:Sem Bool} (l:PE X o ta) (c:oK X.K C) (G:dZ X.prog X.w X.K X.mg X.base CX C m j sp) (d:Room k X.A) (i:dX CX X E) (u:eval (.Call (.Attribute o m apos) [] [] pos) X.env=(eval o X.env >>= λa=>standAt apos.atName >>= λ_=>holding [a] (getMethod a m pl) >>= λb=>callWith pos b.1 b.2 (backTo pos (starEach [] X.env)) (backToKw pos (keywordEach [] X.env))):=by rfl) (h:j<=k:=by first|exact c9 _|decide):PE X (.Call (.Attribute o m apos) [] [] pos) (oT C m sp [] E ta mV):=by
 let (f,fd,ps,r,g,s):=G.up k h;exact wG (pl:=pl) l c s r d g .nil i u
def jF {pl:Sem Bool} {q z:Addr} {i:List (Str × V)} (l:Vl X o σ H (.ref q)) (B:H q=some (.ins C z i)) (c:oK X.K C) (G:dZ X.prog X.w X.K X.mg X.base CX C m j sp) (s:Room k X.A) (u:dX CX X E) (y:Av X (e::es) σ H vs) (h:sp (.ref q::vs) H Q E) (D:i.lookup m=none:=by rfl)
  (b:starEach (e::es) X.env=(false,eval e X.env)::starEach es X.env:=by rfl) (a:(backTo pos (starEach es X.env)).any (·.1)=false:=by rfl) (r:eval (.Call (.Attribute o m apos) (e::es) [] pos) X.env=(eval o X.env >>= λg=>standAt apos.atName >>= λ_=>holding [g] (getMethod g m pl) >>= λd=>callWith pos d.1 d.2 (backTo pos (starEach (e::es) X.env)) (backToKw pos (keywordEach [] X.env))):=by rfl) (v:j<=k:=by first|exact c9 _|decide):Ex X (.Call (.Attribute o m apos) (e::es) [] pos) σ H Q:=
 {_,bE (pl:=pl) aP c G s u dE b a r v,l.to _ {_,_,_,rfl,B,D,y.to _ (by rw [x9];exact h)}}
def sN {pl:Sem Bool} {q u:Addr} {a:List (Str × V)} (g:Vl X o σ H (.ref q)) (v:H q=some (.ins C u a)) (c:oK X.K C) (G:dZ X.prog X.w X.K X.mg X.base CX C m j sp) (l:Room k X.A) (s:dX CX X E) (h:sp [.ref q] H Q E) (i:a.lookup m=none:=by rfl)
  (y:eval (.Call (.Attribute o m apos) [] [] pos) X.env=(eval o X.env >>= λb=>standAt apos.atName >>= λ_=>holding [b] (getMethod b m pl) >>= λd=>callWith pos d.1 d.2 (backTo pos (starEach [] X.env)) (backToKw pos (keywordEach [] X.env))):=by rfl) (r:j<=k:=by first|exact c9 _|decide):Ex X (.Call (.Attribute o m apos) [] [] pos) σ H Q:=
 {_,bT (pl:=pl) aP c G l s y r,g.to _ {_,_,_,rfl,v,i,h}}
end
end L2
namespace Ls
open PySem L2 PySem.W
def eA (i:Nat):Stmt:=PySem.Challenge.pw_lentwork_k58_whole_runs_lines_done_again.main.body.getD i (.Pass ⟨0,0,0,0⟩)
abbrev Jk:Stmt:=eA 19
abbrev vT:Stmt:=eA 20
abbrev Wn:Stmt:=eA 21
abbrev Ke:Stmt:=eA 22
abbrev Cg:Stmt:=eA 23
abbrev Jm:Stmt:=eA 24
abbrev vS:Stmt:=eA 25
abbrev vV:Stmt:=eA 28
abbrev Wy:Stmt:=eA 44
abbrev Wv:Stmt:=eA 46
abbrev zA:Stmt:=eA 51
abbrev Jp:Stmt:=aZ (eA 29) 0
abbrev Cb:Stmt:=aZ (eA 29) 1
abbrev Wr:Stmt:=aZ (eA 29) 2
abbrev Ws:Stmt:=aZ (eA 29) 3
abbrev Jn:Stmt:=aZ (eA 29) 4
abbrev Cc:Stmt:=aZ (eA 29) 5
abbrev Jo:Stmt:=aZ (eA 29) 6
abbrev rY:Stmt:=aZ (eA 29) 7
abbrev Jw:Stmt:=aZ (eA 17) 0
abbrev Jt:Stmt:=aZ (eA 17) 1
abbrev Jy:Stmt:=aZ (eA 17) 2
abbrev Ju:Stmt:=aZ (eA 17) 3
abbrev Jx:Stmt:=aZ (eA 17) 4
abbrev Jv:Stmt:=aZ (eA 17) 5
abbrev Wu:Stmt:=aZ (eA 17) 7
abbrev Ce:Stmt:=aZ (eA 17) 8
abbrev pA:Stmt:=aZ (eA 35) 0
abbrev gZ:Stmt:=aZ (eA 35) 1
abbrev tV:Stmt:=aZ (eA 35) 2
abbrev oZ:Stmt:=aZ (eA 35) 3
abbrev lD:Stmt:=aZ (eA 35) 7
abbrev Ww:Stmt:=aZ (eA 35) 8
abbrev Kd:Stmt:=aZ (eA 35) 10
abbrev Ka:Stmt:=aZ (eA 35) 11
abbrev vX:Stmt:=aZ (eA 35) 13
abbrev Kc:Stmt:=aZ (eA 35) 14
abbrev oY:Stmt:=aZ (eA 35) 15
abbrev zB:Stmt:=aZ (eA 35) 18
abbrev Jz:Stmt:=aZ (eA 35) 20
abbrev pB:Stmt:=aZ (eA 35) 21
abbrev vW:Stmt:=eA 47
abbrev Cd:Stmt:=eA 48
abbrev Ci:Stmt:=eA 31
abbrev Bz:Stmt:=eA 32
abbrev lE:Stmt:=eA 33
abbrev lZ:Stmt:=eA 34
abbrev tW:Stmt:=eA 45
abbrev Wq:Stmt:=eA 26
abbrev vU:Stmt:=eA 37
abbrev pC:Stmt:=eA 38
abbrev Jl:Stmt:=eA 39
abbrev ER:Stmt:=eA 42
abbrev Wt:Stmt:=eA 49
abbrev Wx:Stmt:=eA 50
abbrev Jr:Stmt:=aZ (eA 40) 0
abbrev Js:Stmt:=aZ (eA 40) 1
abbrev Jq:Stmt:=aZ (eA 40) 2
abbrev Kh:Stmt:=aZ (eA 41) 0
abbrev EU:Stmt:=aZ (eA 41) 1
abbrev Kf:Stmt:=aZ (eA 41) 2
abbrev tX:Stmt:=aZ (eA 41) 3
abbrev zC:Stmt:=aZ (eA 41) 4
abbrev Kj:Stmt:=aZ (eA 41) 5
abbrev vY:Stmt:=aZ (eA 41) 6
abbrev Kg:Stmt:=aZ (eA 41) 7
structure Gb (mg:Str->Option Value):Prop where
 isi:mg "isinstance"=none
 int:mg "int"=none
 bool:mg "bool"=none
 tuple:mg "tuple"=none
 len:mg "len"=none
 range:mg "range"=none
 list:mg "list"=none
 max:mg "max"=none
 sum:mg "sum"=none
 sorted:mg "sorted"=none
 any:mg "any"=none
 all:mg "all"=none
 enum:mg "enumerate"=none
 min:mg "min"=none
 set:mg "set"=none
 str:mg "str"=none
structure Cl (K:Frag) (mg:Str->Option Value) (C:Addr):Prop where
 cl:oK K C
 nW:NoAttr K C "work"
 nR:NoAttr K C "results"
 mgC:mg "Sheet"=some (.ref C)
structure Tw (K:Frag) (mg:Str->Option Value) (CT:Addr):Prop where
 mT:mg "Twice"=some (.ref CT)
 ex:ExcIs K CT
structure Pl (K:Frag) (mg:Str->Option Value) (C:Addr):Prop where
 cl:oK K C
 nN:NoAttr K C "number"
 nL:NoAttr K C "low"
 nH:NoAttr K C "high"
 nM:NoAttr K C "mark"
 nD:NoAttr K C "lending"
 mgC:mg "Piece"=some (.ref C)
structure Bl (K:Frag) (mg:Str->Option Value) (C:Addr):Prop where
 cl:oK K C
 nW:NoAttr K C "work"
 nS:NoAttr K C "span"
 nE:NoAttr K C "every"
 nL:NoAttr K C "least"
 nH:NoAttr K C "sheet"
 nB:NoAttr K C "by_number"
 nN:NoAttr K C "next_number"
 nT:NoAttr K C "next_token"
 nM:NoAttr K C "moment"
 mgC:mg "Book"=some (.ref C)
structure Rl (K:Frag) (mg:Str->Option Value) (C:Addr):Prop where
 cl:oK K C
 nW:NoAttr K C "worker"
 nP:NoAttr K C "pace"
 nS:NoAttr K C "silences"
 nA:NoAttr K C "passed"
 nQ:NoAttr K C "silent"
 nT:NoAttr K C "token"
 nM:NoAttr K C "mark"
 nE:NoAttr K C "end"
 nU:NoAttr K C "untold"
 mgC:mg "Runner"=some (.ref C)
structure Ql (K:Frag) (mg:Str->Option Value) (C:Addr):Prop where
 cl:oK K C
 nB:NoAttr K C "book"
 nD:NoAttr K C "doing"
 nL:NoAttr K C "left"
 nN:NoAttr K C "done"
 nO:NoAttr K C "over"
 nI:NoAttr K C "lines"
 nX:NoAttr K C "none_at"
 mgC:mg "Course"=some (.ref C)
structure Er (K:Frag) (mg:Str->Option Value) (x:Str) (C:Addr):Prop where
 mB:mg x=some (.ref C)
 ex:ExcIs K C
structure Cn where
 CB:Addr
 CS:Addr
 CP:Addr
 T1:Addr
 T2:Addr
 CR:Addr
 CC:Addr
structure LA (mg:Str->Option Value) (c:Nat->Addr):Prop where
 m0:mg "BadWorker"=some (.ref (c 0))
 m1:mg "BadMoment"=some (.ref (c 1))
 m2:mg "NoLending"=some (.ref (c 2))
 m3:mg "Lost"=some (.ref (c 3))
 m4:mg "BadTelling"=some (.ref (c 4))
 m5:mg "Otherwise"=some (.ref (c 5))
 m6:mg "NoPiece"=some (.ref (c 6))
 m7:mg "BadCut"=some (.ref (c 7))
 m8:mg "BadPlan"=some (.ref (c 8))
structure KH (K:Frag) (c:Nat->Addr) (C:Addr) (j:Nat):Prop where
 e:uW K C
 n:∀i,i<9->kitOne K (.ref C) (.ref (c i))=some (decide (i=j))
def Bn (p:List Value->Prop):Nat->Prop
 | 0=>p []
 | n+1=>∀u,Bn (λus=>p (u::us)) n
theorem Bn.all:∀{n:Nat} {p:List Value->Prop},Bn p n->∀a,a.length=n->p a
 | 0,_,h,[],_=>h
 | _+1,_,h,u::a,e=>Bn.all (h u) a (Nat.succ.inj e)
def Bd (x q:Str) (st:Stmt) (ps:List Str):Prop:=∀(kV doc pm:Value) (an:Option Addr) (cdv ct:Value),Bn (λus=>bindArgs (fnOf x q (eG st) (bV st) (aG st) .none kV doc pm an cdv ct) ⟨us,[]⟩=pure (ps.zip us)) ps.length
def Df (K:Frag) (mg:Str->Option Value) (x:Str) (st:Stmt):Prop:=∃f fd,mg x=some (.ref f)/\tD K x x st f fd
def Dc (K:Frag) (mg:Str->Option Value) (x:Str) (st:Stmt) (T:Addr):Prop:=∃f fd c,mg x=some (.ref f)/\uV K x x st f fd c/\codeHdIn K c T=true
def Mf (K:Frag) (C:Addr) (x q:Str) (st:Stmt):Prop:=∃f fd,yG K C x f/\tD K x q st f fd
def Mc (K:Frag) (C:Addr) (x q:Str) (st:Stmt) (T:Addr):Prop:=∃f fd c,yG K C x f/\uV K x q st f fd c/\codeHdIn K c T=true
section
variable {P:Program} {w:World} {K:Frag} {mg:Str->Option Value} {base:Heap} {C f T:Addr} {fd:FuncData} {x q:Str} {st:Stmt} {CX:mK} {k:Nat} {ps:List Str} {sp:Sp}
def Bd.to (h:Bd x q st ps) (F:tD K x q st f fd):eX K fd ps []:=F.binds λ_ _ _ _ _ _ a e=>(h _ _ _ _ _ _).all a e
def Df.of (D:Df K mg x st) (h:∀{f fd},tD K x x st f fd->bK P w K mg base CX k f fd ps sp) (b:Bd x x st ps:=by (repeat intro _);rfl):jM P w K mg base CX x k sp:=by
 let (f,fd,m,F):=D;exact {f,fd,ps,h F,F.kp,b.to F,m}
def Dc.of (D:Dc K mg x st T) (h:∀{f fd c},uV K x x st f fd c->codeHdIn K c T=true->bK P w K mg base CX k f fd ps sp) (b:Bd x x st ps:=by (repeat intro _);rfl):jM P w K mg base CX x k sp:=by
 let (f,fd,c,m,F,t):=D;exact {f,fd,ps,h F t,F.kp,b.to F.toFun,m}
def Mf.of (D:Mf K C x q st) (h:∀{f fd},tD K x q st f fd->bK P w K mg base CX k f fd ps sp) (b:Bd x q st ps:=by (repeat intro _);rfl):dZ P w K mg base CX C x k sp:=by
 let (f,fd,m,F):=D;exact {f,fd,ps,h F,b.to F,m}
def Mc.of (D:Mc K C x q st T) (h:∀{f fd c},uV K x q st f fd c->codeHdIn K c T=true->bK P w K mg base CX k f fd ps sp) (b:Bd x q st ps:=by (repeat intro _);rfl):dZ P w K mg base CX C x k sp:=by
 let (f,fd,c,m,F,t):=D;exact {f,fd,ps,h F t,b.to F.toFun,m}
end
structure Wd (P:Program) (w:World) (K:Frag) (mg:Str->Option Value) (base:Heap) (N:Cn) (c:Nat->Addr):Prop where
 G:Gb mg
 M:uY base mg
 S:Cl K mg N.CS
 P:Pl K mg N.CP
 B:Bl K mg N.CB
 T:Tw K mg (c 9)
 R:Rl K mg N.CR
 Q:Ql K mg N.CC
 iR:makesIn K N.CR=true/\keepIn K (.ref N.CR)=true
 iC:makesIn K N.CC=true/\keepIn K (.ref N.CC)=true
 iP:makesIn K N.CP=true/\keepIn K (.ref N.CP)=true
 iS:makesIn K N.CS=true/\keepIn K (.ref N.CS)=true
 iB:makesIn K N.CB=true/\keepIn K (.ref N.CB)=true
 W:LA mg c
 X:∀j,j<9->KH K c (c j) j
 E:exmOne K (.ref (c 3)) (.ref (c 3))=some true
 d1:Df K mg "is_whole" Jk
 d2:Df K mg "is_stretch" vT
 d3:Df K mg "is_work" Wn
 d4:Df K mg "check_work" Ke
 d5:Df K mg "merged" Cg
 d6:Df K mg "short_form" Jm
 d7:Df K mg "without" vS
 d8:Df K mg "is_numbers" vV
 d9:Df K mg "check_bounds" Ci
 d10:Df K mg "is_worker" Bz
 d11:Df K mg "check_worker" lE
 d12:Dc K mg "greatest" lZ N.T1
 d13:Df K mg "_law_cell_at" Wy
 d14:Df K mg "_law_draws" tW
 d15:Df K mg "_law_work" Wv
 d16:Df K mg "_law_bounds" vW
 d19:Df K mg "_law_result" Cd
 d26:Mf K N.CP "__init__" "Piece.__init__" Jw
 d27:Mf K N.CP "rest" "Piece.rest" Jt
 d28:Mf K N.CP "is_done" "Piece.is_done" Jy
 d29:Mf K N.CP "is_lent" "Piece.is_lent" Ju
 d30:Mf K N.CP "is_free" "Piece.is_free" Jx
 d31:Mf K N.CP "is_late" "Piece.is_late" Jv
 d33:Mf K N.CP "has_token" "Piece.has_token" Wu
 d34:Mf K N.CP "shown" "Piece.shown" Ce
 d35:Mf K N.CS "__init__" "Sheet.__init__" Jp
 d36:Mf K N.CS "lay" "Sheet.lay" Cb
 d37:Mf K N.CS "result_at" "Sheet.result_at" Wr
 d38:Mf K N.CS "all_results" "Sheet.all_results" Ws
 d39:Mf K N.CS "left_work" "Sheet.left_work" Jn
 d40:Mf K N.CS "holds_row" "Sheet.holds_row" Cc
 d41:Mf K N.CS "laid_work" "Sheet.laid_work" Jo
 d42:Mf K N.CS "numbers_between" "Sheet.numbers_between" rY
 d43:Mf K N.CB "__init__" "Book.__init__" pA
 d44:Mf K N.CB "choice" "Book.choice" gZ
 d45:Mf K N.CB "lend" "Book.lend" tV
 d46:Mf K N.CB "tell" "Book.tell" oZ
 d50:Mc K N.CB "pieces" "Book.pieces" lD N.T2
 d51:Mf K N.CB "moment_now" "Book.moment_now" Ww
 d52:Mf K N.CB "all_results" "Book.all_results" Kd
 d53:Mf K N.CB "left_work" "Book.left_work" Ka
 d54:Mf K N.CB "check_moment" "Book.check_moment" vX
 d55:Mf K N.CB "held_piece" "Book.held_piece" Kc
 d56:Mf K N.CB "piece_to_tell" "Book.piece_to_tell" oY
 d59:Mf K N.CB "piece_with" "Book.piece_with" zB
 d61:Mf K N.CB "new_piece" "Book.new_piece" Jz
 d62:Mf K N.CB "cut_off" "Book.cut_off" pB
 d17:Df K mg "size_of" Wq
 d18:Df K mg "is_planned" vU
 d20:Df K mg "check_plan" pC
 d21:Df K mg "check_ticks" Jl
 d22:Df K mg "run" ER
 d23:Df K mg "_law_plan" Wt
 d24:Df K mg "_law_done" Wx
 d63:Mf K N.CR "__init__" "Runner.__init__" Jr
 d64:Mf K N.CR "come_to" "Runner.come_to" Js
 d65:Mf K N.CR "take" "Runner.take" Jq
 d66:Mf K N.CC "__init__" "Course.__init__" Kh
 d67:Mf K N.CC "go" "Course.go" EU
 d68:Mf K N.CC "turn" "Course.turn" Kf
 d69:Mf K N.CC "work_on" "Course.work_on" tX
 d70:Mf K N.CC "tell_kept" "Course.tell_kept" zC
 d71:Mf K N.CC "ask_lending" "Course.ask_lending" Kj
 d72:Mf K N.CC "do_places" "Course.do_places" vY
 d73:Mf K N.CC "tell_numbers" "Course.tell_numbers" Kg
section
variable {P:Program} {w:World} {K:Frag} {mg:Str->Option Value} {base:Heap} {N:Cn} {c:Nat->Addr} (W:Wd P w K mg base N c)
include W
def Wd.x1:Er K mg "BadMoment" (c 1):={W.W.m1,(W.X 1 (by decide)).e.exc}
def Wd.x2:Er K mg "NoLending" (c 2):={W.W.m2,(W.X 2 (by decide)).e.exc}
def Wd.x3:Er K mg "Lost" (c 3):={W.W.m3,(W.X 3 (by decide)).e.exc}
def Wd.x4:Er K mg "BadTelling" (c 4):={W.W.m4,(W.X 4 (by decide)).e.exc}
def Wd.x5:Er K mg "Otherwise" (c 5):={W.W.m5,(W.X 5 (by decide)).e.exc}
end
inductive Kn (H:Hp):V->Prop where
 | non:Kn H .non
 | bl (b:Bool):Kn H (.bl b)
 | int (i:Int):Kn H (.int i)
 | str (x:Str):Kn H (.str x)
 | lst {a:Addr} {xs:List V} (e:H a=some (.lst xs)):Kn H (.ref a)
 | dK {a:Addr} {kvs:List (bZ × V)} (e:H a=some (.dK kvs)):Kn H (.ref a)
inductive sZ (H:Hp):V->Prop where
 | kn {x:V} (h:Kn H x):sZ H x
 | tup {a:Addr} {xs:List V} (e:H a=some (.tup xs)):sZ H (.ref a)
def fJ:V->Bool
 | .int _=>true
 | _=>false
def Kn.same {H H':Hp} {x:V} (e:aM H H') (h:Kn H x):Kn H' x:=by
 cases h with
 | non=>exact .non
 | bl b=>exact .bl b
 | int i=>exact .int i
 | str x=>exact .str x
 | lst q=>exact .lst (e _ _ q)
 | dK q=>exact .dK (e _ _ q)
theorem sZ.same {H H':Hp} {x:V} (e:aM H H') (h:sZ H x):sZ H' x:=by
 cases h with
 | kn h=>exact .kn (h.same e)
 | tup q=>exact .tup (e _ _ q)
def Us {K:Frag} {H:Hp} {x:V} (h:sZ H x):∃t,jJ K H x t/\kitOne K t (.type "int")=some (match x with | .int _=>true | .bl _=>true|_=>false):=by
 cases h with
 | kn h=>
  cases h with
  | non=>exact {_,.non,by kernel_rfl}
  | bl b=>exact {_,.bl b,by kernel_rfl}
  | int i=>exact {_,.int i,by rfl}
  | str x=>exact {_,.str x,by kernel_rfl}
  | lst q=>exact {_,.lst q,by kernel_rfl}
  | dK q=>exact {_,.dK q,by kernel_rfl}
 | tup q=>exact {_,.tup q,by kernel_rfl}
def Oz {K:Frag} {H:Hp} {x:V} (h:sZ H x):∃t,jJ K H x t/\kitOne K t (.type "bool")=some (match x with | .bl _=>true|_=>false):=by
 cases h with
 | kn h=>
  cases h with
  | non=>exact {_,.non,by kernel_rfl}
  | bl b=>exact {_,.bl b,by rfl}
  | int i=>exact {_,.int i,by kernel_rfl}
  | str x=>exact {_,.str x,by kernel_rfl}
  | lst q=>exact {_,.lst q,by kernel_rfl}
  | dK q=>exact {_,.dK q,by kernel_rfl}
 | tup q=>exact {_,.tup q,by kernel_rfl}
def yA {K:Frag} {H:Hp} {x:V} (h:Kn H x):∃t,jJ K H x t/\kitOne K t (.type "tuple")=some false:=by
 cases h with
 | non=>exact {_,.non,by kernel_rfl}
 | bl b=>exact {_,.bl b,by kernel_rfl}
 | int i=>exact {_,.int i,by kernel_rfl}
 | str x=>exact {_,.str x,by kernel_rfl}
 | lst q=>exact {_,.lst q,by kernel_rfl}
 | dK q=>exact {_,.dK q,by kernel_rfl}
def iA {K:Frag} {H:Hp} {a:Addr} {xs:List V} (q:H a=some (.tup xs)):∃t,jJ K H (.ref a) t/\kitOne K t (.type "tuple")=some true:={_,.tup q,by rfl}
def tL:Sp:=λvs H Q _=>∃x,vs=[x]/\sZ H x/\Q (.bl (fJ x)) H
inductive yB (H:Hp):V->Option (Int × Int)->Prop where
 | no {x:V} (h:Kn H x):yB H x none
 | len {a:Addr} {xs:List V} (e:H a=some (.tup xs)) (h:xs.length≠2):yB H (.ref a) none
 | one {a:Addr} {x y:V} (e:H a=some (.tup [x,y])) (hx:sZ H x) (hy:sZ H y) (h:fJ x=false\/fJ y=false):yB H (.ref a) none
 | turned {a:Addr} {l h:Int} (e:H a=some (.tup [.int l,.int h])) (n:h<=l):yB H (.ref a) none
 | yes {a:Addr} {l h:Int} (e:H a=some (.tup [.int l,.int h])) (n:l<h):yB H (.ref a) (some (l,h))
def Eo:Sp:=λvs H Q _=>∃x o,vs=[x]/\yB H x o/\Q (.bl o.isSome) H
section
variable {P:Program} {w:World} {K:Frag} {mg:Str->Option Value} {base:Heap} {N:Cn} {c:Nat->Addr}
def eW:bootBuiltins "isinstance"=some (.builtin "isinstance"):=⋯
def BG:bootBuiltins "int"=some (.type "int"):=⋯
def BH:bootBuiltins "bool"=some (.type "bool"):=⋯
def eV:bootBuiltins "tuple"=some (.type "tuple"):=⋯
def BF:bootBuiltins "list"=some (.type "list"):=⋯
def Uo:bootBuiltins "max"=some (.builtin "max"):=⋯
def Ov:bootBuiltins "any"=some (.builtin "any"):=⋯
def qK:bootBuiltins "all"=some (.builtin "all"):=⋯
def sR:bootBuiltins "enumerate"=some (.type "enumerate"):=⋯
def xV:bootBuiltins "sorted"=some (.builtin "sorted"):=⋯
def Rm:aJ ["thing"] ["thing"] (aG Jk):={rfl,rfl,rfl,⋯,rfl,⋯,⋯}
def dI (W:Wd P w K mg base N c):jM P w K mg base cX "is_whole" 1 tL:=W.d1.of λF=>by
 refine F.ok Rm (λl H Q E h=>?_) (λj A f s H l Q E m h=>?_)
 ·let (x,rfl,_):=h
  rfl
 ·intro X D
  let (x,rfl,g,q):=h
  refine {_,aH (bB (eQ (bF dB (by rfl) W.G.isi eW (aA (pv 0) (aA (fQ (v:=.ty "int") (by rfl) W.G.int BG rfl) aE)))
   (gA (zG (bF dB (by rfl) W.G.isi eW (aA (pv 0) (aA (fQ (v:=.ty "bool") (by rfl) W.G.bool BH rfl) aE))))))),?_}
  let (t,a,e):=Us (K:=K) g
  let (k,b,i):=Oz (K:=K) g
  refine {_,rfl,_,_,_,_,rfl,.ty "int",.inl {(t),a,e},_,rfl,?_}
  refine gQ (λd=>?_) (λd=>?_)
  ·refine {_,rfl,_,_,_,_,rfl,.ty "bool",.inl {(k),b,i},_,rfl,?_}
   cases x <;> first|exact q|cases d
  ·cases x <;> first|exact q|exact absurd rfl d
def xC {α:Type} {n:Nat} {xs:List α} (h:xs.length=n+1):∃a t,xs=a::t/\t.length=n:=by
 cases xs with
 | nil=>cases h
 | cons a t=>exact {a,t,rfl,Nat.succ.inj h}
def Ty {α:Type} {xs:List α} (h:xs.length=2):∃a b,xs=[a,b]:=by
 let (a,t,rfl,e):=xC h;let (b,t,rfl,d):=xC e;cases List.eq_nil_of_length_eq_zero d;exact {(a),b,rfl}
def Ev:aJ ["thing"] ["thing"] (aG vT):={rfl,rfl,rfl,⋯,rfl,⋯,⋯}
def zO (W:Wd P w K mg base N c):jM P w K mg base cX "is_stretch" 2 Eo:=W.d2.of λF=>by
 refine F.ok Ev (λS H Q E h=>?_) (λU A C s H S Q E J h=>?_)
 ·let (x,o,rfl,_):=h
  rfl
 ·intro X D
  let (x,o,rfl,hx,q):=h
  refine {_,aF (bQ (PW.pt (eN (cC (bY (bF dB (by rfl) W.G.isi eW (aA (pv 0) (aA (fQ (v:=.ty "tuple") (by rfl) W.G.tuple eV rfl) aE)))))
    (dP (cH sC (bF cG (by rfl) W.G.len PySem.boot_len (aA (pv 0) aE)) aX (bO _))))) (aH (bB mM)) aY)
   (aH (bB (eQ (aS (dI W) J aN (aA (dQ dU (pv 0) aX (λ_ _=>rfl)) aE))
    (eQ (aS (dI W) J aN (aA (dQ dU (pv 0) aX (λ_ _=>rfl)) aE))
     (gA (dF iJ (dQ dU (pv 0) aX (λ_ _=>rfl)) (dQ dU (pv 0) aX (λ_ _=>rfl)) (bO _))))))),?_}
  have b:∀{a:Addr} {f:List V},x=.ref a->H a=some (.tup f)->(f.length≠2->Q (.bl false) H)->(∀u v,f=[u,v]->sZ H u/\sZ H v/\(fJ u=false->Q (.bl false) H)/\(fJ v=false->Q (.bl false) H)/\∀l h,u=.int l->v=.int h->Q (.bl (decide (l<h))) H) ->
   (Qo (DT (JV (DP (tB (HD (EW K) (iU (iL 0) (iU (tC (.ty "tuple")) mV))))) (Ic (Qe JW (HD (λf H Q=>∃p I,f=[.ref p]/\(dD K H p I\/cA K H p I)/\Q (.int I.length) H) (iU (iL 0) mV)) (tC (.int 2))))) (Xy (tC (.bl false))) Bj)
    (Xy (Ij (vJ tL [] E0 (iU (Qe (Ku K) (iL 0) (tC (.int 0))) mV)) (Ij (vJ tL [] E0 (iU (Qe (Ku K) (iL 0) (tC (.int 1))) mV)) (Qe (Sd λi j=>.bl (decide (i<j))) (Qe (Ku K) (iL 0) (tC (.int 0))) (Qe (Ku K) (iL 0) (tC (.int 1))))))))
    { nx:=λ_ H'=>Q .non H',rt:=Q } (dJ ["thing"] [x]) H:=λ{a f} L d M q2=>by
   subst L
   let (t,g,e):=iA (K:=K) d
   refine {_,rfl,_,_,_,_,rfl,.ty "tuple",.inl {(t),g,e},_,rfl,?_}
   refine cO ?_
   refine {_,rfl,a,f,rfl,.inr (cA.of d),rfl,_,rfl,?_}
   refine gQ (λB=>?_) (λB=>?_)
   ·refine M λz=>?_
    rw [z] at B
    cases B
   ·let z:f.length=2:=by
     by_cases z:f.length=2
     ·exact z
     ·refine absurd ?_ B;have:decide (V.int (f.length:Int)=V.int 2)=false:=decide_eq_false λw=>z (by injection w with w;omega);rw [this];rfl
    let (u,v,rfl):=Ty z;let (Z,O,Y,T,ql):=q2 u v rfl;refine {_,rfl,a,_,_,_,rfl,rfl,cA.of d,bW (j:=0) rfl,_,rfl,Z,_,rfl,?_};refine gQ (λy=>?_) (λy=>Y (by simpa using y));refine {_,rfl,a,_,_,_,rfl,rfl,cA.of d,bW (j:=1) rfl,_,rfl,O,_,rfl,?_};refine gQ (λm=>?_) (λm=>T (by simpa using m));obtain⟨l,rfl⟩:∃l,u=.int l:=by
     cases u <;> first|exact {_,rfl} | cases y
    obtain⟨h,rfl⟩:∃h,v=.int h:=by
     cases v <;> first|exact {_,rfl} | cases m
    exact {_,rfl,a,_,_,_,rfl,rfl,cA.of d,bW (j:=0) rfl,_,rfl,a,_,_,_,rfl,rfl,cA.of d,bW (j:=1) rfl,_,_,rfl,rfl,ql l h rfl rfl}
  cases hx with
  | no h=>
   let (t,g,e):=yA (K:=K) h;refine {_,rfl,_,_,_,_,rfl,.ty "tuple",.inl {(t),g,e},_,rfl,?_};refine cW ?_;exact cW q
  | len d hl=>exact b rfl d (λ_=>q) λu v z=>absurd (by rw [z];rfl) hl
  | one d y m hw=>
   refine b rfl d (λz=>absurd rfl z) λu v z=>?_;cases z;refine {y,m,λ_=>q,λ_=>q,λl h k r=>?_};subst k;subst r;rcases hw with z|z <;> cases z
  | turned d n=>
   refine b rfl d (λz=>absurd rfl z) λu v z=>?_;cases z;refine {.kn (.int _),.kn (.int _),λ_=>q,λ_=>q,λl h k r=>?_};cases k;cases r;rw [decide_eq_false ∎];exact q
  | yes d n=>
   refine b rfl d (λz=>absurd rfl z) λu v z=>?_;cases z;refine {.kn (.int _),.kn (.int _),λz=>(nomatch z),λz=>(nomatch z),λl h k r=>?_};cases k;cases r;rw [decide_eq_true n];exact q
def GF (os:List (Option (Int × Int))):Prop:=(∀(j:Nat) (o:Option (Int × Int)),os[j]?=some o->o.isSome=true)/\∀(k:Nat) (l h l' h':Int),os[k]?=some (some (l,h))->os[k+1]?=some (some (l',h'))->h<=l'
inductive Ed (H:Hp):V->Bool->Prop where
 | no {x:V} (h:Kn H x):Ed H x false
 | tup {a:Addr} {xs:List V} {os:List (Option (Int × Int))} {b:Bool} (e:H a=some (.tup xs)) (hl:xs.length<=1000) (h:Paired (yB H) xs os) (hb:b=true↔GF os):Ed H (.ref a) b
def Yd:Sp:=λvs H Q _=>∃x b,vs=[x]/\Ed H x b/\Q (.bl b) H
def yY:aJ ["thing","stretch","index"] ["thing"] (aG Wn):={rfl,rfl,rfl,⋯,rfl,⋯,⋯}
def Cv (W:Wd P w K mg base N c):jM P w K mg base cX "is_work" 3 Yd:=W.d3.of λF=>by
 refine F.ok yY (λvs H Q E h=>?_) (λa3 A Z s H vs Q E hr h=>?_)
 ·let (x,b,rfl,_):=h
  rfl
 ·intro X D
  let (x,b,rfl,hx,q):=h
  refine {_,aF (bQ (cC (bY (bF dB (by rfl) W.G.isi eW (aA (pv 0) (aA (fQ (v:=.ty "tuple") (by rfl) W.G.tuple eV rfl) aE))))) (aH (bB mM)) aY)
   (aF (eJ v4 rfl (fY (pv 0)) (aW (i:=1) yY.nd rfl (j5 rfl)) (aH (bQ (cC (bY (aS (zO W) hr aN (aA (pv 1) aE)))) (aH (bB mM)) aY)))
   (aF (eJ v4 rfl (jT rfl W.G.range (aA aX (aA (bF cG (by rfl) W.G.len PySem.boot_len (aA (pv 0) aE)) aE))) (aW (i:=2) yY.nd rfl (j5 rfl))
    (aH (bQ (cH iJ (dQ dU (dQ dU (pv 0) (pv 2) (λ_ _=>rfl)) aX (λ_ _=>rfl)) (dQ dU (dQ dU (pv 0) (cI mD (pv 2) aX) (λ_ _=>rfl)) aX (λ_ _=>rfl)) (bO _)) (aH (bB mM)) aY)))
   (aH (bB mM)))),?_}
  cases hx with
  | no h=>
   let (t,I,e):=yA (K:=K) h
   refine {_,rfl,_,_,_,_,rfl,.ty "tuple",.inl {(t),I,e},_,rfl,?_}
   exact cW q
  | @tup a xs os b ea hl hp hb=>
   let (t,I,e):=iA (K:=K) ea
   refine {_,rfl,_,_,_,_,rfl,.ty "tuple",.inl {(t),I,e},_,rfl,?_}
   refine cO ?_
   refine {_,rfl,a,rfl,{_,cA.of ea},lL (K:=K) (a:=a) (xs:=xs) (λi σ B=>B=H/\(∃v,σ=[some (.ref a),v,none])/\∀(j:Nat) (o:Option (Int × Int)),j<i->os[j]?=some o->o.isSome=true)
    {rfl,{(none),rfl},λj o M=>absurd M (D9 _)} (λi σ B _ ⟨m,_⟩=>by subst m;exact cA.of ea) ?_ ?_}
   ·rintro i y σ B hi ⟨rfl,⟨v,rfl⟩,d⟩
    let (o,O,S):=aQ hp hi
    refine {_,rfl,y,o,rfl,S,_,rfl,?_}
    cases o with
    | none=>
     refine cW ?_
     have:b=false:=by
      cases b with
      | false=>rfl
      | true=>exact absurd ((hb.mp rfl).1 i none O) (by simp)
     rw [this] at q;exact q
    | some p=>
     refine cO ?_;refine {rfl,{_,rfl},λj o' M r=>?_};by_cases a1:j<i
     ·exact d j o' a1 r
     ·have:j=i:=∎;subst this;rw [O] at r;cases r;rfl
   ·rintro σ B ⟨rfl,⟨v,rfl⟩,d⟩;let T:os.length=xs.length:=hp.length.symm;let J:∀(k:Nat),k<xs.length->∃(c:Addr) (l h:Int),xs[k]?=some (.ref c)/\B c=some (.tup [.int l,.int h])/\os[k]?=some (some (l,h)):=λk L=>by
     let g:xs[k]?=some xs[k]:=c7 L;let (o,O,S):=aQ hp g;let U:=d k o L O;cases o with
     | none=>cases U
     | some p=>
      generalize xs[k]=y at g S;cases S with
      | @yes c l h ec n=>exact {(c),l,h,g,ec,O}
    let hz:xs.length<2 ^ 62:=Q3 hl (by decide);refine {_,rfl,a,xs,rfl,.inr (cA.of ea),1,(xs.length:Int),rfl,{by decide,by decide,∎,∎},jW (lo:=1) (n:=((xs.length:Int)-1).toNat)
     (λi σ H3=>H3=B/\(∃v u,σ=[some (.ref a),v,u])/\∀(k:Nat) (l h f C:Int),k<i->os[k]?=some (some (l,h))->os[k+1]?=some (some (f,C))->h<=f) {rfl,{_,_,rfl},λk l h f C L=>absurd L (D9 _)} ?_ ?_}
    ·rintro i σ H3 hi ⟨rfl,⟨v,u,rfl⟩,z⟩;let (c,l,h,x1,x2,x3):=J i ∎;let (c',f,C,y1,y2,y3):=J (i+1) ∎;let i1:(1:Int)+(i:Int)=((i+1:Nat):Int):=∎;let i2:((i+1:Nat):Int)-1=((i:Nat):Int):=∎;rw [i1];refine {_,rfl,_,rfl,a,xs,_,_,rfl,rfl,cA.of ea,bW y1,c',_,_,_,rfl,rfl,cA.of y2,bW (j:=0) rfl,_,rfl,_,rfl,_,_,rfl,rfl,a,xs,_,_,rfl,rfl,cA.of ea,(by rw [i2];exact bW x1),c,_,_,_,rfl,rfl,cA.of x2,bW (j:=1) rfl,_,_,rfl,rfl,_,rfl,?_};refine gQ (λY=>?_) (λY=>?_)
     ·let a2:f<h:=by simpa using Y
      have:b=false:=by
       cases b with
       | false=>rfl
       | true=>
        have:=(hb.mp rfl).2 i l h f C x3 y3;omega
      rw [this] at q;exact q
     ·let a2:¬ f<h:=by simpa using Y
      refine {rfl,{_,_,rfl},λk l2 h2 l3 h3 L g m=>?_};by_cases a0:k<i
      ·exact z k l2 h2 l3 h3 a0 g m
      ·have:k=i:=∎;subst this;rw [x3] at g;rw [y3] at m;cases g;cases m;omega
    ·rintro σ H3 ⟨rfl,⟨v,u,rfl⟩,z⟩;have:b=true:=hb.mpr {λj o M=>d j o (by rw [<- T];exact(c8.mp M).1) M,λk l h f C g m=>z k l h f C (by
      have:=(c8.mp m).1
      omega) g m};rw [this] at q;exact q
def jK (H:Hp) (v:V) (p:Int × Int):Prop:=∃b,v=.ref b/\H b=some (.tup [.int p.1,.int p.2])
def aK {α β:Type} {F G:α->β->Prop} (f:∀a b,F a b->G a b) {xs:List α} {ys:List β} (h:Paired F xs ys):Paired G xs ys:=PySem.Paired.mono f h
def cR {α β:Type} {F:α->β->Prop} {x:α} {y:β} {xs:List α} {ys:List β} (p:Paired F xs ys) (h:F x y):Paired F (xs++[x]) (ys++[y]):=PySem.Paired.snoc p h
def bP (H:Hp) (xs:List V) (ps:Lm.Ps):Prop:=Paired (jK H) xs ps
def bP.same {H H':Hp} {xs:List V} {ps:Lm.Ps} (e:aM H H') (h:bP H xs ps):bP H' xs ps:=aK (λv q ⟨b,z1,z2⟩=>{b,z1,e _ _ z2}) h
def bN (H:Hp) (p:Addr) (ps:Lm.Ps):Prop:=∃xs,H p=some (.tup xs)/\bP H xs ps
theorem bN.same {H H':Hp} {p:Addr} {ps:Lm.Ps} (e:aM H H') (h:bN H p ps):bN H' p ps:=by
 let (d,b,a):=h;exact {d,e _ _ b,a.same e}
def Fe {H:Hp} {xs:List V} {ps:Lm.Ps} (p:bP H xs ps) (h:∀q ∈ ps,q.1<q.2):Paired (yB H) xs (ps.map some):=by
 unfold bP at p
 induction p with
 | nil=>exact .nil
 | cons r _ t=>
  let (b,rfl,a):=r;exact .cons (.yes a (h _ (i0 ..))) (t λr d=>h r (d0 _ d))
def Qj {ps:Lm.Ps} (w:Lm.Wk ps) (k:Nat) (l h b h':Int) (e1:ps[k]?=some (l,h)) (a:ps[k+1]?=some (b,h')):h<=b:=by
 induction ps generalizing k with
 | nil=>cases e1
 | cons p t ih=>
  let (_,d,e):=w;cases k with
  | zero=>cases e1;exact d _ (i6 (i:=0) a)
  | succ k=>exact ih e k e1 a
def bN.workV {H:Hp} {p:Addr} {ps:Lm.Ps} (h:bN H p ps) (wk:Lm.Wk ps) (m:ps.length<=1000):Ed H (.ref p) true:=by
 let (n,g,d):=h;refine .tup g (by rw [d.length];exact m) (Fe d wk.lt) {λ_=>{λj o e=>?_,λk l h f i b a=>?_},λ_=>rfl}
 ·rw [i8] at e;cases z:ps[j]? with
  | none=>rw [z] at e;cases e
  | some q=>rw [z] at e;cases e;rfl
 ·rw [i8] at b a;cases z1:ps[k]? with
  | none=>rw [z1] at b;cases b
  | some q1=>
   cases z2:ps[k+1]? with
   | none=>rw [z2] at a;cases a
   | some q2=>
    rw [z1] at b;rw [z2] at a;cases b;cases a;exact Qj wk k l h f i z1 z2
inductive Px (vs:List V) (H:Hp) (Q:VK) (E0_:XK):Prop|mk (p:Addr) (ps:Lm.Ps) (_:vs=[.ref p]) (_:bN H p ps) (_:Lm.Wk ps) (_:ps.length<=1000) (_:Q .non H)
def Rc:Sp:=Px
def Rw:aJ ["work"] ["work"] (aG Ke):={rfl,rfl,rfl,⋯,rfl,⋯,⋯}
def pO (W:Wd P w K mg base N c):jM P w K mg base cX "check_work" 4 Rc:=W.d4.of λF=>by
 refine F.ok Rw (λg H Q E h=>?_) (λd A a s H g Q E i h=>?_)
 ·let (p,f,rfl,_):=h
  rfl
 ·intro X D
  let (p,f,rfl,e,b,j,q):=h
  refine {_,aH (bQ (cC (bY (aS (Cv W) i aN (aA (pv 0) aE)))) (aH pE) aY),?_}
  exact {_,rfl,_,true,rfl,e.workV b j,_,rfl,cO q}
inductive Ha (K:Frag) (vs:List V) (H:Hp) (Q:VK) (E0_:XK):Prop|mk (p:Addr) (xs:List V) (ps:Lm.Ps) (_:vs=[.ref p]) (_:(dD K H p xs\/H p=some (.tup xs))) (_:bP H xs ps) (_:ps.length<=1000) (_:∀r H',aM H H'->bN H' r (Lm.merged ps)->Q (.ref r) H')
def Io (K:Frag):Sp:=Ha K
inductive Pg (vs:List V) (H:Hp) (Q:VK) (E0_:XK):Prop|mk (p:Addr) (ps:Lm.Ps) (_:vs=[.ref p]) (_:bN H p ps) (_:Lm.Wk ps) (_:ps.length<=1000) (_:∀r H',aM H H'->bN H' r (Lm.merged ps)->Q (.ref r) H')
def Bm:Sp:=Pg
def wL {α β:Type} {F:α->β->Prop} {xs:List α} {ys:List β} {y:β} (h:Paired F xs (ys++[y])):∃a u,xs=a++[u]/\Paired F a ys/\F u y:=by
 induction ys generalizing xs with
 | nil=>
  cases h with
  | cons r t=>cases t;exact {[],_,rfl,.nil,r}
 | cons b ys ih=>
  cases h with
  | cons r t=>
   let (a,u,rfl,p,f):=ih t;exact {_::a,u,rfl,.cons r p,f}
def Iz {α:Type} (us:List α) (u v:α):(us++[u]).set us.length v=us++[v]:=by
 induction us with
 | nil=>rfl
 | cons a us ih=>
  show a::(us++[u]).set us.length v=a::(us++[v]);rw [ih]
def Nh {n:Nat}:Ni (n+1) (-1)=some n:=by
 unfold Ni;rw [if_neg (by decide),if_pos ∎];congr 1;omega
def HA (qs ps:Lm.Ps) (i:Nat):Prop:=(qs=[]/\i=0)\/∃done c,qs=done++[c]/\done++Lm.mg c (ps.drop i)=Lm.merged ps
def Ug {K:Frag} {a:Addr} {xs:List V} {g:TG} {tb:TS} {D:eK} {σ:St} {H:Hp} (d:Nat->St->Hp->Prop) (l:d 0 σ H)
  (q:(∀i σ H,i<=xs.length->d i σ H->dD K H a xs)\/(∀i σ H,i<=xs.length->d i σ H->cA K H a xs))
  (o:∀i x σ H,xs[i]?=some x->d i σ H->g x σ H λe h=>tb { D with nx:=d (i+1),ct:=d (i+1),bk:=D.nx } e h) (p:∀ σ H,d xs.length σ H->D.nx σ H):
  ((∃xs,dD K H a xs)/\∃W:Nat->Nat->St->Hp->Prop,(∃m,W 0 m σ H)/\∀i m σ H,W i m σ H ->
   ((Hl K a).stop i H/\D.nx σ H)\/((Hl K a).go i H/\∃N:St->Hp->Prop,(∀j b,N j b->∃f,f<m/\W (i+1) f j b)/\∀x b,(Hl K a).yld i H x b->g x σ b λe h=>tb { D with nx:=N,ct:=N,bk:=D.nx } e h)) \/
  ((∃xs,cA K H a xs)/\∃W:Nat->Nat->St->Hp->Prop,(∃m,W 0 m σ H)/\∀i m σ H,W i m σ H ->
   ((Vu K a).stop i H/\D.nx σ H)\/((Vu K a).go i H/\∃N:St->Hp->Prop,(∀j b,N j b->∃f,f<m/\W (i+1) f j b)/\∀x b,(Vu K a).yld i H x b->g x σ b λe h=>tb { D with nx:=N,ct:=N,bk:=D.nx } e h)):=
 q.elim (λk=>.inl {{xs,k 0 σ H (i5 _) l},lM d l k o p}) λk=>.inr {{xs,k 0 σ H (i5 _) l},lL d l k o p}
def vO:aJ ["stretches","whole","low","high"] ["stretches"] (aG Cg):={rfl,rfl,rfl,⋯,rfl,⋯,⋯}
def Fi (W:Wd P w K mg base N c):jM P w K mg base cX "merged" 1 (Io K):=W.d5.of λF=>by
 refine F.ok vO (λvs H Q E h=>?_) (λa3 A a0 s H vs Q E hr h=>?_)
 ·let (p,xs,f,rfl,_):=h
  rfl
 ·intro X D
  let (p,xs,f,rfl,hp,pr,hl,q):=h
  let Y:=vO.nd
  let sl:sizeLine=16777216:=sizeLine_eq
  let lx:xs.length=f.length:=pr.length
  refine Wp.ex (lT (n:=1) Y rfl mU (i5 _) λl H1 hn s1 e1=>?_)
  let hk:(∀{d:Hp},aM H d->dD K d p xs)\/(∀{d:Hp},aM H d->cA K d p xs):=hp.elim (λz=>.inl λe=>e.seq z) λz=>.inr λe=>cA.of (e _ _ z)
  refine {_,aF (eJ v4 rfl (Zt (pv 0)) (fZ rfl (bH (aW (i:=2) Y rfl (j5 rfl)) (bH (aW (i:=3) Y rfl (j5 rfl)) eO))) aU) aU,?_}
  refine {_,rfl,p,rfl,Ug (K:=K) (a:=p) (xs:=xs) (λi σ d=>aM H d/\∃I B u v,d l=some (.lst I)/\bP d I B/\HA B f i/\B.length<=i/\σ=[some (.ref p),some (.ref l),u,v])
   {s1,[],[],_,_,e1,.nil,.inl {(rfl),rfl},c9 _,rfl} (hk.elim (λz=>.inl λi σ d _ ⟨e,_⟩=>z e) λz=>.inr λi σ d _ ⟨e,_⟩=>z e) ?_ ?_}
  ·rintro i x σ d hi ⟨U,I,B,u,v,m,M,g,ql,rfl⟩
   let (y,hy,b',rfl,a1):=aQ pr hi
   let il:i<xs.length:=(c8.mp hi).1
   let dr:f.drop i=y::f.drop (i+1):=by
    rw [A6 ∎];congr 1;exact Option.some.inj ((c7 ∎).symm.trans hy)
   let wl:I.length=B.length:=M.length;let J:∀{O:Hp},(∀b u,d b=some u->b≠l->O b=some u)->aM H O:=λe b z hz=>e _ _ (U _ _ hz) (aD hz hn);let j:∀{O:Hp} {k:List V} {rs:Lm.Ps},(∀b u,d b=some u->b≠l->O b=some u)->bP d k rs->bP O k rs:=λe h=>aK (λv q ⟨b,z1,z2⟩=>{b,z1,e _ _ z2 (aL z2 m (by intro z;cases z))}) h;refine {b',_,rfl,cA.of (U _ _ a1),rfl,_,_,rfl,_,_,rfl,rfl,?_};refine {_,aF (bQ (PW.pt (iV (hH (pv 1) (λ_=>rfl)) (gE fN))) aU aU) aU,?_};refine {_,rfl,_,.inl {I,dD.of m,rfl},?_};rcases g with ⟨rfl,rfl⟩|⟨done,c,rfl,g⟩
   ·cases M;refine cO (gD (vs:=[.int y.1,.int y.2]) (by symm) (by symm) m (i5 _) (by show 2<=1000;decide) (λt H5 T C l5 t5=>?_) rfl (iX PySem.F.plainAttrs_list PySem.F.slot_list_append PySem.F.type_list_append cV aP (aA (cE dE) aE)));exact bX (bX {J C,_,[y],_,_,l5,.cons {(t),rfl,t5} .nil,.inr ⟨[],y,rfl,by rw [List.nil_append];cases f with|nil=>cases hy|cons a f=>(cases hy;rfl)⟩,c9 _,rfl})
   let (k,u',rfl,pu,cb,rfl,a2):=wL M;let ne:(!(k++[V.ref cb]).isEmpty)=true:=by
    cases k <;> rfl
   rw [ne];rw [dr] at g;let al:kB (k++[V.ref cb]) (-1)=some (.ref cb):=xY _ _;refine cW (Tv.to (b:=decide (y.1<=c.2)) (by symm) _ (gQ (λhc=>?_) (λhc=>?_)))
   ·let L:y.1<=c.2:=of_decide_eq_true hc;let Z:done++Lm.mg (c.1,if y.2 > c.2 then y.2 else c.2) (f.drop (i+1))=Lm.merged f:=by
     rw [<- g];congr 1;show _=(if y.1<=c.2 then _ else _);rw [if_pos L]
    refine {_,aF (La (cE (aA aP (aA (bF (Gw rfl) (by rfl) W.G.max Uo dE) aE))) (Zu (pv 1) aP Iy)) aU,?_};refine Vl.to (v:=.int c.1) (by symm) _ (Av.to (vs:=[.int c.2,.int y.2]) (by symm) _ {_,_,rfl,by show 2<=sizeLine;decide,λt ht=>{_,rfl,Vl.to (v:=.int (-1)) (by symm) _ ?_}});let T:l≠t:=aD m ht;refine {l,_,_,k.length,rfl,rfl,by rw [aC T];exact m,by rw [i7];exact Nh,?_};let C:∀(o:HO) b u,d b=some u->b≠l->(aR (aR d t (.tup [.int c.1,.int (if y.2 > c.2 then y.2 else c.2)])) l o) b=some u:=λo b u e n=>by rw [aC n,aC (aD e ht)];exact e
    refine bX (bX {J (C _),k++[.ref t],done++[(c.1,if y.2 > c.2 then y.2 else c.2)],_,_,?_,?_,.inr {done,_,rfl,Z},?_,rfl})
    ·rw [Iz];exact aB
    ·refine cR (j (C _) pu) {t,rfl,?_};rw [aC T.symm];exact aB
    ·rw [i7] at ql ⊢;show done.length+1<=i+1;have:done.length+1<=i:=ql;omega
   ·let L:¬ y.1<=c.2:=λz=>hc (decide_eq_true z);refine gD (vs:=[.int y.1,.int y.2]) (by symm) (by symm) m ∎ (by show 2<=1000;decide) (λt H5 T C l5 t5=>?_) rfl (iX PySem.F.plainAttrs_list PySem.F.slot_list_append PySem.F.type_list_append cV aP (aA (cE dE) aE));refine bX (bX {J C,_,(done++[c])++[y],_,_,l5,cR (j C M) {(t),rfl,t5},.inr {done++[c],y,rfl,?_},by rw [i7];show (done++[c]).length+1<=i+1;omega,rfl});rw [<- g,p9];congr 1;show _=(if y.1<=c.2 then _ else _);rw [if_neg L];rfl
  ·rintro σ d ⟨U,I,B,u,v,m,M,g,ql,rfl⟩;refine fI {_,dH cT (by rfl) W.G.tuple eV (aA (pv 1) aE),?_};let eq:B=Lm.merged f:=by
    let dn:f.drop xs.length=[]:=E7 ∎;rcases g with ⟨rfl,h0⟩|⟨done,c,rfl,g⟩
    ·cases f with
     | nil=>rfl
     | cons a t=>rw [lx] at h0;cases h0
    ·rw [<- g,dn];rfl
   subst eq;refine {_,rfl,l,_,rfl,.inl {dD.of m,λr S=>?_}};exact q r _ (U.trans (aI S)) {I,aB,M.same (aI S)}
def Rr:aJ ["work"] ["work"] (aG Jm):={rfl,rfl,rfl,⋯,rfl,⋯,⋯}
def pL (W:Wd P w K mg base N c):jM P w K mg base cX "short_form" 5 Bm:=W.d6.of λF=>by
 refine F.ok Rr (λk H Q E h=>?_) (λj A b s H k Q E e h=>?_)
 ·let (p,a,rfl,_):=h
  rfl
 ·intro X D
  let (p,a,rfl,d,g,f,q):=h
  refine {_,aF (cJ (aS (pO W) e aN (aA (pv 0) aE))) (aH (bB (aS (Fi W) e aN (aA (pv 0) aE)))),?_}
  let (m,l,i):=id d
  exact {_,rfl,p,a,rfl,d,g,f,_,rfl,p,m,a,rfl,.inr l,i,f,q}
inductive An (vs:List V) (H:Hp) (Q:VK) (E0_:XK):Prop|mk (p q:Addr) (a b:Lm.Ps) (_:vs=[.ref p,.ref q]) (_:bN H p a) (_:bN H q b) (_:Lm.Wk a) (_:Lm.Wk b) (_:a.length<=1000) (_:b.length<=1000) (_:∀r H',aM H H'->bN H' r (Lm.wo (Lm.merged a) (Lm.merged b))->Q (.ref r) H')
def rR:Sp:=An
def Lq {H:Hp} {xs:List V} {ps:Lm.Ps} (h:bP H xs ps) {i:Nat} (hi:i<ps.length):∃b,xs[i]?=some (.ref b)/\H b=some (.tup [.int ps[i].1,.int ps[i].2]):=by
 let a:i<xs.length:=by rw [h.length];exact hi
 let (y,d,b,e,f):=aQ h (c7 a);have:y=ps[i]:=Option.some.inj (d.symm.trans (c7 hi));subst this;exact {b,by rw [c7 a,e],f}
def rW:aJ ["one","other","kept","gone","rest","first","low","high","at","index"] ["one","other"] (aG vS):={rfl,rfl,rfl,⋯,rfl,⋯,⋯}
def zK (W:Wd P w K mg base N c):jM P w K mg base cX "without" 6 rR:=W.d7.of λF=>by
 refine F.ok rW (λvs H Q E h=>?_) (λak A ac s H vs Q E hr h=>?_)
 ·let (p,q,a,b,rfl,_):=h
  rfl
 ·intro X D
  let (p,q,a,b,rfl,ha,hb,wa,wb,la,lb,a1):=h
  let sl:sizeLine=16777216:=sizeLine_eq
  let nd:=rW.nd
  let G1:=W.G.len
  refine Wp.ex (cF (n:=2) nd rfl (fH (vs:=[.ref p]) (pL W) hr aN (by symm) {p,a,rfl,ha,wa,la,λkp H1 s1 hk=>?_}))
  refine cF (n:=3) nd rfl (fH (vs:=[.ref q]) (pL W) hr aN (by symm) {q,b,rfl,hb.same s1,wb,lb,λgn H0 s2 hg=>?_})
  let (sk,mk,lk):=Lm.merged_ok wa.lo
  let (sg,al,lg):=Lm.merged_ok wb.lo
  generalize Lm.merged a=T at hk sk lk a1
  generalize Lm.merged b=g at hg sg lg a1
  let (kx,a3,a8):=hk.same s2
  let (gx,a2,a5):=hg
  let s0:=s1.trans s2
  let wl:=Lm.wo_len sk sg
  let am:kx.length=T.length:=a8.length
  let aj:gx.length=g.length:=a5.length
  refine lT (n:=4) nd rfl mU (i5 _) λl H9 hn sn en=>?_
  show 5
  refine Qg v4 (fZ rfl (bH (aW (i:=6) nd rfl (j5 rfl)) (bH (aW (i:=7) nd rfl (j5 rfl)) eO))) (by symm) (sn _ _ a3) (λi σ H2=>aM H0 H2/\∃ws L Z u1 u2 u3 u4,H2 l=some (.lst ws)/\bP H2 ws L/\L++Lm.wo (T.drop i) (g.drop Z)=Lm.wo T g/\Z<=g.length/\σ=[some (.ref p),some (.ref q),some (.ref kp),some (.ref gn),some (.ref l),some (.int (Z:Nat)),u1,u2,u3,u4])
   {sn,[],[],0,_,_,_,_,en,.nil,rfl,i5 _,rfl} (λi σ H2 _ h=>h.1 _ _ a3) (λi x σ H2 D1 hi h T1=>?_) λσ H2 h=>?_
  rotate_left
  ·let (sm,ws,L,Z,u1,u2,u3,u4,hL,pq,eq,fl,rfl):=h
   rw [E7 ∎] at eq
   let eq:L++[]=Lm.wo T g:=eq
   rw [x9] at eq
   subst eq
   refine fI {_,dH cT (by rfl) W.G.tuple eV (aA (pv 4) aE),?_}
   refine {_,rfl,l,_,rfl,.inl {dD.of hL,λr a6=>?_}}
   exact a1 r _ (s0.trans (sm.trans (aI a6))) {ws,aB,pq.same (aI a6)}
  let (sm,ws,L,Z,u1,u2,u3,u4,hL,pq,eq,fl,rfl):=h
  let (y,hy,b',rfl,ad):=aQ a8 hi
  let il:i<kx.length:=(c8.mp hi).1
  let dr:T.drop i=y::T.drop (i+1):=by
   rw [A6 ∎];congr 1;exact Option.some.inj ((c7 ∎).symm.trans hy)
  let Y:∀{C:Hp} {k:Nat},aM H0 C->k<g.length->∃gb,kB gx (k:Int)=some (.ref gb)/\C gb=some (.tup [.int (g.getD k (0,0)).1,.int (g.getD k (0,0)).2]):=λ{C k} e hk=>by
   let (gb,e1,e2):=Lq a5 hk;refine {gb,bW e1,?_};rw [y9,c7 hk];exact e _ _ e2
  let U:∀{k:Nat},k<g.length->g.drop k=g.getD k (0,0)::g.drop (k+1):=λ{k} hk=>by
   rw [A6 hk,y9,c7 hk];rfl
  rw [dr] at eq;let aa:L++(Lm.cut y.1 y.2 (Lm.skip y.1 (g.drop Z))++Lm.wo (T.drop (i+1)) (Lm.skip y.1 (g.drop Z)))=Lm.wo T g:=eq;let a7:∀{C H4:Hp},aM H0 C->(∀b u,C b=some u->b≠l->H4 b=some u)->aM H0 H4:=λe1 e2 b z hz=>e2 _ _ (e1 _ _ hz) (aD hz hn);let a0:∀{C H4:Hp} {us vs:List V} {L:Lm.Ps},C l=some (.lst vs)->(∀b u,C b=some u->b≠l->H4 b=some u)->bP C us L->bP H4 us L:=λhL e h=>aK (λv q ⟨b,z1,z2⟩=>{b,z1,e _ _ z2 (aL z2 hL (by intro z;cases z))}) h;refine {b',_,rfl,cA.of (sm _ _ ad),rfl,_,_,rfl,_,_,rfl,rfl,?_};let ah:=sm _ _ a2;refine iQ v4 (λm σ C=>C=H2/\∃f:Nat,m=g.length-f/\f<=g.length/\Lm.skip y.1 (g.drop f)=Lm.skip y.1 (g.drop Z)/\σ=[some (.ref p),some (.ref q),some (.ref kp),some (.ref gn),some (.ref l),some (.int (f:Nat)),some (.int y.1),some (.int y.2),u3,u4]) _ {(rfl),Z,rfl,fl,rfl,rfl} λm σ C h=>?_;let (rfl,f,rfl,hf,es,rfl):=h;by_cases h1:f<g.length/\(g.getD f (0,0)).2<=y.1
  ·let (gb,g1,g2):=Y sm h1.1;refine .inl {?_,λD2 T2=>?_}
   ·apply Tv.is;apply fG;symm;intro _;symm;rw [decide_eq_true h1.2,decide_eq_true ∎];rfl
   ·apply tH (n:=5);rfl;symm;exact nd;rfl;exact j5 rfl;exact .inl rfl;refine bX (T2.nx _ _ {g.length-(f+1),∎,rfl,f+1,rfl,h1.1,?_,rfl});rw [<- es,U h1.1];show _=(if (g.getD f (0,0)).2<=y.1 then _ else _);rw [if_pos h1.2]
  let ef:Lm.skip y.1 (g.drop f)=g.drop f:=by
   by_cases S:f<g.length
   ·rw [U S];show (if (g.getD f (0,0)).2<=y.1 then _ else _)=_;rw [if_neg λz=>h1 {(S),z}]
   ·rw [E7 ∎];rfl
  refine .inr {?_,?_}
  ·by_cases S:f<g.length
   ·let (gb,g1,g2):=Y sm S;apply Tv.is;apply fG;symm;intro _;symm;rw [decide_eq_false λz=>h1 {(S),z},K3]
   ·apply Tv.is;apply fG (d:=true);symm;(intro z;exact absurd (of_decide_eq_true z) ∎);rw [decide_eq_false ∎];rfl
  rw [<- es,ef] at aa;show 8;show 9;refine iQ v4 (λm σ C=>aM H0 C/\∃(ws:List V) (L:Lm.Ps) (j:Int) (ix:Nat),m=g.length-ix/\ix<=g.length/\C l=some (.lst ws)/\bP C ws L/\L++(Lm.cut j y.2 (g.drop ix)++Lm.wo (T.drop (i+1)) (g.drop f))=Lm.wo T g /\
     σ=[some (.ref p),some (.ref q),some (.ref kp),some (.ref gn),some (.ref l),some (.int (f:Nat)),some (.int y.1),some (.int y.2),some (.int j),some (.int (ix:Nat))]) _ {(sm),ws,L,y.1,f,rfl,hf,hL,pq,aa,rfl} λm σ H4 h=>?_;let (I,a9,M,j,B,rfl,hj,J,O,o,rfl):=h;let ai:a9.length=M.length:=O.length;let ae:M.length<=2000:=by
   have:=congrArg List.length o;rw [i7] at this;omega
  let af:=I _ _ a2;by_cases h3:B<g.length/\(g.getD B (0,0)).1<y.2
  ·let (gb,g1,g2):=Y I h3.1;let ec:Lm.cut j y.2 (g.drop B)=(if j<(g.getD B (0,0)).1 then [(j,(g.getD B (0,0)).1)] else [])++Lm.cut (g.getD B (0,0)).2 y.2 (g.drop (B+1)):=by
    rw [U h3.1];show (if (g.getD B (0,0)).1<y.2 then _ else _)=_;rw [if_pos h3.2]
   rw [ec] at o;refine .inl {?_,λD2 T2=>?_}
   ·apply Tv.is;apply fG;symm;intro _;symm;rw [decide_eq_true h3.2,decide_eq_true ∎];rfl
   apply oM;symm
   ·intro h5;rw [if_pos (of_decide_eq_true h5)] at o;refine gD (vs:=[.int j,.int (g.getD B (0,0)).1]) (by symm) (by symm) J ∎ (by show 2<=1000;decide) (λt H5 nt k5 l5 t5=>?_) rfl (iX PySem.F.plainAttrs_list PySem.F.slot_list_append PySem.F.type_list_append cV aP (aA (cE dE) aE));let a4:=a7 I k5;let ag:=a4 _ _ a2;let g5:=k5 _ _ g2 (aL g2 J (by intro z;cases z));refine bX ?_;show 8;apply tH (n:=9);rfl;symm;exact nd;rfl;exact j5 rfl;exact .inl rfl;exact bX (T2.nx _ _ {g.length-(B+1),∎,a4,_,M++[(j,(g.getD B (0,0)).1)],_,B+1,rfl,h3.1,l5,cR (a0 J k5 O) {(t),rfl,t5},by rw [<- o];simp,rfl})
   ·intro h5;rw [if_neg (of_decide_eq_false h5)] at o;refine bX ?_;show 8;apply tH (n:=9);rfl;symm;exact nd;rfl;exact j5 rfl;exact .inl rfl;exact bX (T2.nx _ _ {g.length-(B+1),∎,I,_,_,_,B+1,rfl,h3.1,J,O,o,rfl})
  let ec:Lm.cut j y.2 (g.drop B)=if j<y.2 then [(j,y.2)] else []:=by
   by_cases S:B<g.length
   ·rw [U S];show (if (g.getD B (0,0)).1<y.2 then _ else _)=_;rw [if_neg λz=>h3 {(S),z}]
   ·rw [E7 ∎];rfl
  rw [ec] at o;refine .inr {?_,?_}
  ·by_cases S:B<g.length
   ·let (gb,g1,g2):=Y I S;apply Tv.is;apply fG;symm;intro _;symm;rw [decide_eq_false λz=>h3 {(S),z},K3]
   ·apply Tv.is;apply fG (d:=true);symm;(intro z;exact absurd (of_decide_eq_true z) ∎);rw [decide_eq_false ∎];rfl
  apply oM;symm
  ·intro h6;rw [if_pos (of_decide_eq_true h6)] at o;refine gD (vs:=[.int j,.int y.2]) (by symm) (by symm) J ∎ (by show 2<=1000;decide) (λt H5 nt k5 l5 t5=>?_) rfl (iX PySem.F.plainAttrs_list PySem.F.slot_list_append PySem.F.type_list_append cV aP (aA (cE dE) aE));exact bX (bX (T1.nx _ _ {a7 I k5,_,M++[(j,y.2)],f,_,_,_,_,l5,cR (a0 J k5 O) {(t),rfl,t5},by rw [<- o];simp,hf,rfl}))
  ·intro h6;rw [if_neg (of_decide_eq_false h6)] at o;exact bX (bX (T1.nx _ _ {I,a9,M,f,_,_,_,_,J,O,o,hf,rfl}))
def lK {i:Nat} {v:V} {σ:St} {H:Hp} {Q:St->Hp->Prop} (h:Q (σ.set i (some v)) H):cS i v σ H Q:=h
def eM {σ:St} {H:Hp} {Q:Bool->Hp->Prop} (h:Q true H):DM σ H Q:=h
def Gd (n:Nat) (d:PyData):Prop:=d.canLay0=true/\d.depth<=n
theorem Af:∀{a:List PyData},(∀d ∈ a,d.canLay0=true)->PyData.canLayAll0 a=true
 | [],_=>by rw [PyData.canLayAll0]
 | d::a,h=>by
  rw [PyData.canLayAll0,h d (i0),Af λe b=>h e (d0 _ b)]
  rfl
theorem Ae {n:Nat}:∀{a:List PyData},(∀d ∈ a,d.depth<=n)->PyData.depthAll a<=n
 | [],_=>by rw [PyData.depthAll];exact i5 _
 | d::a,h=>by
  rw [PyData.depthAll]
  exact Nat.max_le.mpr {h d i0,Ae λe b=>h e (d0 _ b)}
def Gd.tup {n:Nat} {b:List PyData} (h:∀d ∈ b,Gd n d):Gd (n+1) (.tuple b):=by
 refine {?_,?_}
 ·rw [PyData.canLay0];exact Af λd a=>(h d a).1
 ·rw [PyData.depth];exact O7 (Ae λd a=>(h d a).2)
def Gd.lst {n:Nat} {b:List PyData} (h:∀d ∈ b,Gd n d):Gd (n+1) (.list b):=by
 refine {?_,?_}
 ·rw [PyData.canLay0];exact Af λd a=>(h d a).1
 ·rw [PyData.depth];exact O7 (Ae λd a=>(h d a).2)
theorem Gd.int {n:Nat} (i:Int):Gd n (.int i):={by rw [PyData.canLay0],by rw [PyData.depth];exact i5 _}
def Gd.non {n:Nat}:Gd n .none:={by rw [PyData.canLay0],by rw [PyData.depth];exact i5 _}
theorem Gd.str {n:Nat} {x:Str} (h:PyData.strOk x=true):Gd n (.str x):={by rw [PyData.canLay0];exact h,by rw [PyData.depth];exact i5 _}
theorem Gd.shaped {n:Nat} {d:PyData} (h:Gd n d) (e:n<=64):SeqAt.shaped d=true:=by
 unfold SeqAt.shaped;rw [h.1,decide_eq_true (l7 h.2 e)];rfl
def mH {n:Nat}:∀d ∈ ([]:List PyData),Gd n d:=λd h=>absurd h (by simp)
def eE {n:Nat} {d:PyData} {a:List PyData} (h:Gd n d) (f:∀e ∈ a,Gd n e):∀e ∈ d::a,Gd n e:=λe b=>by
 rcases g8.mp b with z|z
 ·rw [z];exact h
 ·exact f e z
def Uu (H:Hp) (Q:VK) (n:Nat) (M:Int->Prop):Prop:=∀(r:Addr) (d:Lm.Ps) (H':Hp),aM H H'->bN H' r d->Lm.Sh d->(∀x,Lm.mem d x↔M x)->d.length<=n->Q (.ref r) H'
inductive Vr (vs:List V) (H:Hp) (Q:VK) (E0_:XK):Prop|mk (p q:Addr) (a b:Lm.Ps) (_:vs=[.ref p,.ref q]) (_:bN H p a) (_:bN H q b) (_:Lm.Wk a) (_:Lm.Wk b) (_:a.length<=1000) (_:b.length<=1000) (_:Uu H Q (a.length+b.length) λx=>Lm.mem a x/\¬ Lm.mem b x)
def Ip:Sp:=Vr
inductive GN (vs:List V) (H:Hp) (Q:VK) (E0_:XK):Prop|mk (p:Addr) (a:Lm.Ps) (_:vs=[.ref p]) (_:bN H p a) (_:Lm.Wk a) (_:a.length<=1000) (_:Uu H Q a.length λx=>Lm.mem a x)
def DY:Sp:=GN
def Ul {f:Addr} {i:FuncData} {k:Nat} {ps:List Str} (h:bK P w K mg base cX k f i ps rR):bK P w K mg base cX k f i ps Ip:=by
 refine h.imp λA H Q E ⟨p,q,a,b,e,ha,hb,wa,wb,la,lb,t⟩=>{p,q,a,b,e,ha,hb,wa,wb,la,lb,λr n s u=>?_};let (g,j,y):=Lm.merged_ok wa.lo;let (d,o,z):=Lm.merged_ok wb.lo;let (m,B,l):=Lm.wo_ok g d;let v:=Lm.wo_len g d;exact t r _ n s u m (λx=>by rw [l x,j x,o x]) ∎
def DW {f:Addr} {b:FuncData} {k:Nat} {ps:List Str} (h:bK P w K mg base cX k f b ps Bm):bK P w K mg base cX k f b ps DY:=by
 refine h.imp λm H Q E ⟨p,a,e,ha,wa,la,t⟩=>{p,a,e,ha,wa,la,λr j s l=>?_};let (g,d,i):=Lm.merged_ok wa.lo;exact t r _ j s l g d i
section
variable (W:Wd P w K mg base N c)
include W
def Ly:jM P w K mg base cX "short_form" 5 DY:=(pL W).to DW
def Tk:jM P w K mg base cX "without" 6 Ip:=(zK W).to Ul
end
def qD (pw d:Addr):List (Str × V):=cN "results" (.ref d) (cN "work" (.ref pw) [])
def wr:¬ ("work":Str)="results":=⋯
def sM (pw d:Addr):(qD pw d).lookup ("work":Str)=some (.ref pw):=by
 unfold qD;rw [dS,if_neg wr,dS,if_pos rfl]
def jE (pw d:Addr):(qD pw d).lookup ("results":Str)=some (.ref d):=by
 unfold qD;rw [dS,if_pos rfl]
def gK (pw d:Addr) {m:Str} (a:¬ m="results") (h2:¬ m="work"):(qD pw d).lookup m=none:=by
 unfold qD;rw [dS,if_neg a,dS,if_neg h2]
 all_goals rfl
structure cM (C:Addr) (H:Hp) (p pw d:Addr) (ws:Lm.Ps) (kvs:List (bZ × V)):Prop where
 ob:∃dx,H p=some (.ins C dx (qD pw d))
 wk:bN H pw ws
 dc:H d=some (.dK kvs)
theorem cM.same {C:Addr} {H H':Hp} {p pw d:Addr} {a:Lm.Ps} {kvs:List (bZ × V)} (e:aM H H') (h:cM C H p pw d a kvs):cM C H' p pw d a kvs:=by
 let ((f,g),b,i):=h;exact {{f,e _ _ g},b.same e,e _ _ i}
inductive Vm (C:Addr) (vs:List V) (H:Hp) (Q:VK) (E0_:XK):Prop|mk (p dx q:Addr) (a:Lm.Ps) (_:vs=[.ref p,.ref q]) (_:H p=some (.ins C dx [])) (_:bN H q a) (_:Lm.Wk a) (_:a.length<=1000) (_:∀(pw d:Addr) (ws:Lm.Ps) (H':Hp),H d=none->cM C H' p pw d ws []->Lm.Sh ws->(∀x,Lm.mem ws x↔Lm.mem a x)->ws.length<=a.length->(∀b o,H b=some o->b≠p->H' b=some o)->Q .non H')
def Yp (C:Addr):Sp:=Vm C
inductive Ve (vs:List V) (H:Hp) (Q:VK) (E0_:XK):Prop|mk (p:Addr) (ns:List Int) (_:vs=[.ref p]) (_:H p=some (.tup (ns.map V.int))) (_:ns.length<=1000) (_:∀H',aM H H'->Q (.bl true) H')
def Yj:Sp:=Ve
inductive Pr (C:Addr) (vs:List V) (H:Hp) (Q:VK) (E0_:XK):Prop|mk (p pw d:Addr) (ws:Lm.Ps) (kvs:List (bZ × V)) (i j:Int) (_:vs=[.ref p,.int i,.int j]) (_:cM C H p pw d ws kvs) (_:ws.length<=1000) (_:∀H',aM H H'->Q (.bl (ws.any λq=>decide (q.1<=i) && decide (j<=q.2))) H')
def Qz (C:Addr):Sp:=Pr C
inductive Vj (C:Addr) (vs:List V) (H:Hp) (Q:VK) (E0_:XK):Prop|mk (p pw d:Addr) (ws:Lm.Ps) (kvs:List (bZ × V)) (ns:List Int) (_:vs=[.ref p]) (_:cM C H p pw d ws kvs) (_:kvs.map (·.1)=ns.map Sum.inl) (_:ns.Nodup) (_:ns.length<128) (_:Uu H Q ns.length λx=>x ∈ ns)
def Yn (C:Addr):Sp:=Vj C
def Zg:aJ ["self","work"] ["self","work"] (aG Jp):={rfl,rfl,rfl,⋯,rfl,⋯,⋯}
def Tg (W:Wd P w K mg base N c):dZ P w K mg base cX N.CS "__init__" 6 (Yp N.CS):=W.d35.of λF=>by
 refine F.ok Zg (λM H Q E h=>?_) (λT A B s H M Q E O h=>?_)
 ·let (p,g,q,a,rfl,_):=h
  rfl
 ·intro X D
  let (p,g,q,a,rfl,C,Z,wa,la,t):=h
  refine {_,aF (cD (pv 0) (aS (Ly W) O aN (aA (pv 1) aE)) rfl) (aH (cD (pv 0) wH rfl)),?_}
  refine {_,rfl,q,a,rfl,Z,wa,la,λr U m k Y J L I=>?_}
  refine {_,rfl,p,N.CS,g,[],rfl,k _ _ C,W.S.cl,W.S.nW,(by show 0<1000;decide),?_}
  intro d l
  let j:m p=some (.ins N.CS g []):=k _ _ C
  let f:p≠d:=λz=>by
   subst z
   rw [aB] at l
   cases l
  let i:m d=none:=by rw [aC f.symm] at l;exact l
  let u:H d=none:=k.free i
  refine {_,rfl,p,N.CS,g,_,rfl,(by rw [aC f];exact aB),W.S.cl,W.S.nR,(by show 1<1000;decide),?_}
  let y:∀b o,m b=some o->b≠p->(aR (aR (aR m p (.ins N.CS g (cN "work" (.ref r) []))) d (.dK [])) p (.ins N.CS g (cN "results" (.ref d) (cN "work" (.ref r) [])))) b=some o:=λb o e n=>by
   rw [aC n,aC (aD e i),aC n]
   exact e
  refine t r d U _ u {{(g),aB},?_,by rw [aC f.symm,aB]} J L I λb o e n=>y b o (k _ _ e) n
  let (xs,x,G):=Y
  exact {xs,y _ _ x (λz=>by subst z;rw [j] at x;cases x),aK (λv q ⟨b,z1,z2⟩=>{b,z1,y _ _ z2 (λz=>by subst z;rw [j] at z2;cases z2)}) G}
def Ew:aJ ["thing"] ["thing"] (aG vV):={rfl,rfl,rfl,⋯,rfl,⋯,⋯}
def KU:(["number"]:List Str).Nodup:=⋯
def pM (W:Wd P w K mg base N c):jM P w K mg base cX "is_numbers" 2 Yj:=W.d8.of λF=>by
 refine F.ok Ew (λT H Q E h=>?_) (λY A r s H T Q E U h=>?_)
 ·let (p,d,rfl,_):=h
  rfl
 ·intro X D
  let (p,d,rfl,k,ln,t):=h
  refine {_,aH (bB (eQ (bF dB (by rfl) W.G.isi eW (aA (pv 0) (aA (fQ (v:=.ty "tuple") (by rfl) W.G.tuple eV rfl) aE)))
   (gA (bF (qJ rfl) (by rfl) W.G.all qK (aA (dM (NB:=["number"]) (n:=1) (js:=[]) (g:=cS 0) (cl:=[]) rfl ⋯ ⋯ rfl (mZ.all {(rfl),rfl,rfl,rfl}).2.2.2.1 (fY (pv 0)) (λ_ s H L I=>aW (i:=0) KU rfl (j5 rfl) (.inr rfl)) (λ_ s H L I=>eC)
    (λ_ s H L I=>aS (dI W) U aN (aA (pv 0) aE))) aE))))),?_}
  let sl:sizeLine=16777216:=sizeLine_eq
  let (x,B,e):=iA (K:=K) k
  refine {_,rfl,_,_,_,_,rfl,.ty "tuple",.inl {(x),B,e},_,rfl,?_}
  refine cW ?_
  refine {_,rfl,p,rfl,{_,cA.of k},λf a=>?_}
  let lm:(d.map V.int).length=d.length:=g7 ..
  refine {λi m u C=>m=d.length-i/\i<=d.length/\u=(List.replicate i true).map V.bl/\aM H C/\C f=some (.lst u),{_,rfl,i5 _,rfl,aI a,aB},?_}
  rintro i m u C ⟨rfl,hi,rfl,j,q⟩
  refine {q,?_}
  by_cases l:i<d.length
  ·refine .inr {{_,_,cA.of (j _ _ k),c7 ∎},?_}
   rintro y S ⟨rfl,O⟩
   let J:=O _ (cA.of (j _ _ k))
   let M:y=V.int d[i]:=by
    rw [i8,c7 l] at J;exact(Option.some.inj J).symm
   subst M;refine {rfl,?_};refine eM ?_;refine cW ?_;refine {_,rfl,_,rfl,.kn (.int _),q,by rw [g7,A9];omega,_,?_,rfl,l,?_,λb o z=>?_,aB}
   ·omega
   ·rw [P8,n6];rfl
   ·rw [aC (aD z a)];exact j _ _ z
  ·refine .inl {{_,cA.of (j _ _ k),∎},?_};refine {f,_,rfl,dD.of q,?_};let Z:(List.replicate i true).all id=true:=by simp
   rw [Z];exact t _ j
def Rv:aJ ["self","first","behind"] ["self","first","behind"] (aG Cc):={rfl,rfl,rfl,⋯,rfl,⋯,⋯}
def JX:(["low","high","behind","first"]:List Str).Nodup:=⋯
def Ur {α β:Type} (f:α->Bool) (l:List α):((l.map f).any id)=l.any f:=by
 induction l with
 | nil=>rfl
 | cons a l ih=>rw [r6,O5,O5,ih];rfl
def Mm (W:Wd P w K mg base N c):dZ P w K mg base cX N.CS "holds_row" 1 (Qz N.CS):=W.d40.of λF=>by
 refine F.ok Rv (λvs H Q E h=>?_) (λa1 A O s H vs Q E hr h=>?_)
 ·let (p,pw,d,e,M,i,j,rfl,_):=h
  rfl
 ·intro X D
  let (p,pw,d,e,M,v,I,rfl,S,lw,t):=h
  refine {_,(aH (bB (bF (Op rfl) (by rfl) W.G.any Ov (aA (dM (NB:=["low","high","behind","first"]) (n:=2) (js:=[2,1]) (g:=Gf K 2 (hZ (cS 0) (hZ (cS 1) Gg))) (cl:=[("first",s.heap.objs.size+1),("behind",s.heap.objs.size+1+1)]) rfl ⋯ ⋯ rfl
    (gL.of rfl (bA rfl (bA rfl cL)) (bA (λz=>nomatch z) (bA (λz=>nomatch z) (bA (λz=>nomatch z) (bA (λ_=>rfl) (bA (λ_=>rfl) cL))))) rfl
     (λk j h=>match k,j,h with|0,_,rfl=>rfl|1,_,rfl=>rfl|k+2,_,h=>absurd h (by simp)) (bA {.inl rfl,.inl rfl,rfl} (bA {.inl rfl,.inl rfl,rfl} cL)))
    (fY (aV (pv 0) rfl)) (λ_ s H fp pn=>fZ (n:=2) rfl (bH (aW (i:=0) JX rfl (j5 rfl) (.inr rfl)) (bH (aW (i:=1) JX rfl (j5 rfl) (.inr rfl)) eO))) (λ_ s H fp pn=>eC)
    (λ_ s H fp pn=>eQ (dF fO (pv 0) (pv 3) (bO _)) (gA (dF fO (pv 2) (pv 1) (bO _))))) aE)))),?_}
  let sl:sizeLine=16777216:=sizeLine_eq
  let ((dx,h1),hw,hd):=id S
  let (f,J,Z):=id hw
  let lx:f.length=e.length:=Z.length
  refine {_,rfl,p,N.CS,dx,_,_,rfl,h1,W.S.cl,W.S.nW,sM _ _,pw,rfl,{_,cA.of J},λC a=>?_}
  refine {λi m U Y=>m=f.length-i/\i<=f.length/\U=((e.take i).map λq=>decide (q.1<=v) && decide (I<=q.2)).map V.bl/\aM H Y/\Y C=some (.lst U),{_,rfl,i5 _,rfl,aI a,aB},?_}
  rintro i m U Y ⟨rfl,hi,rfl,l,x⟩
  refine {x,?_}
  by_cases u:i<f.length
  ·refine .inr {{f,_,cA.of (l _ _ J),c7 u},?_}
   rintro y a0 ⟨rfl,hy⟩
   let ey:=hy f (cA.of (l _ _ J))
   let (q,hq,b',rfl,T):=aQ Z ey
   let B:∀b:Bool,b=(decide (q.1<=v) && decide (I<=q.2))->((e.take i).map λq=>decide (q.1<=v) && decide (I<=q.2)).map V.bl++[V.bl b]=((e.take (i+1)).map λq=>decide (q.1<=v) && decide (I<=q.2)).map V.bl:=λb hb=>by
    rw [A3,hq,hb]
    simp
   refine {b',_,rfl,cA.of (l _ _ T),rfl,_,_,rfl,_,_,rfl,rfl,rfl,?_}
   refine eM ?_
   refine cW ?_
   refine {_,rfl,_,rfl,_,_,rfl,rfl,_,rfl,?_}
   refine gQ (λL=>?_) (λL=>?_)
   ·let r:q.1<=v:=by simpa using L
    refine {_,rfl,_,rfl,_,_,rfl,rfl,x,by rw [g7,g7,l0];omega,_,?_,rfl,u,B _ (by rw [decide_eq_true r];rfl),λb o z=>?_,aB}
    ·omega
    ·rw [aC (aD z a)]
     exact l _ _ z
   ·let r:¬ q.1<=v:=by simpa using L
    refine {x,by rw [g7,g7,l0];omega,_,?_,rfl,u,B _ (by rw [decide_eq_false r];rfl),λb o z=>?_,aB}
    ·omega
    ·rw [aC (aD z a)]
     exact l _ _ z
  ·refine .inl {{f,cA.of (l _ _ J),∎},?_}
   let ei:e.take i=e:=p8 ∎
   rw [ei] at x
   refine {C,_,rfl,dD.of x,?_}
   rw [Ur (β:=Int)]
   exact t _ l
def wN (ns:List Int):Lm.Ps:=ns.map λn=>(n,n+1)
def Ms {ns:List Int} {x:Int}:Lm.mem (wN ns) x↔x ∈ ns:=by
 constructor
 ·rintro⟨p,e,b,a⟩;let (n,f,rfl):=w8.mp e;have:x=n:=by
   let d:n<=x:=b;let g:x<n+1:=a;omega
  rw [this];exact f
 ·intro h;exact {(x,x+1),w8.mpr {(x),h,rfl},j0 _,by show x<x+1;omega}
theorem Be:∀{ns:List Int},ns.Nodup->ns.Pairwise (·<=·)->Lm.Wk (wN ns)
 | [],_,_=>trivial
 | n::ns,nd,pw=>by
  let (g,b):=v9.mp pw
  let (d,f):=C0.mp nd
  refine {by show n<n+1;omega,λq e=>?_,Be f b}
  let (k,a,rfl):=w8.mp e
  have i:=g k a
  have h:n≠k:=λz=>d (by rw [z];exact a)
  show n+1<=k
  omega
def HE:(["place"]:List Str).Nodup:=⋯
def yQ (C:Addr):Sp:=λvs H Q _=>∃(p pw d:Addr) (ws:Lm.Ps) (kvs:List (bZ × V)) (ns:List Int),vs=[.ref p]/\cM C H p pw d ws kvs/\Lm.Sh ws/\ws.length<=64/\kvs.map (·.1)=ns.map Sum.inl/\ns.Nodup/\ns.length<128/\Uu H Q (ws.length+ns.length) λx=>Lm.mem ws x/\¬ x ∈ ns
def Ze:aJ ["self"] ["self"] (aG Jo):={rfl,rfl,rfl,⋯,rfl,⋯,⋯}
def Cz (W:Wd P w K mg base N c):dZ P w K mg base cX N.CS "laid_work" 6 (Yn N.CS):=W.d41.of λF=>by
 refine F.ok Ze (λvs H Q E h=>?_) (λa1 A Y s H vs Q E hr h=>?_)
 ·let (p,pw,d,ws,J,O,rfl,_):=h
  rfl
 ·intro X D
  let (p,pw,d,ws,J,O,rfl,S,hk,nd,a2,t):=h
  refine {_,(aH (bB (aS (Ly W) hr aN (aA (dH cT (by rfl) W.G.tuple eV (aA (dM (NB:=["place"]) (n:=1) (js:=[]) (g:=cS 0) (cl:=[]) rfl ⋯ ⋯ rfl (mZ.all {(rfl),rfl,rfl,rfl}).2.2.2.1
    (iF (bF (rE rfl) (by rfl) W.G.sorted xV (aA (aV (pv 0) rfl) aE))) (λ_ s H fp pn=>aW (i:=0) HE rfl (j5 rfl) (.inr rfl)) (λ_ s H fp pn=>eC)
    (λ_ s H fp pn=>cE (aA (pv 0) (aA (cI eR (pv 0) aX) aE)))) aE)) aE)))),?_}
  let sl:sizeLine=16777216:=sizeLine_eq
  let ((dx,h1),hw,hd):=id S
  refine {_,rfl,p,N.CS,dx,_,_,rfl,h1,W.S.cl,W.S.nR,jE _ _,d,J,O,rfl,hd,hk,∎,λl a hl U T=>?_}
  let s0:aM H (aR H l (.lst (a.map V.int))):=aI hl
  let k:(aR H l (.lst (a.map V.int))) l=some (.lst (a.map V.int)):=aB
  generalize aR H l (.lst (a.map V.int))=H1 at s0 k ⊢
  let ln:a.length=O.length:=U.length_eq
  let lm:(a.map V.int).length=a.length:=g7 ..
  refine {l,rfl,{_,dD.of k},λf e=>?_}
  let a3:l≠f:=aD k e
  refine {λi m B L=>m=a.length-i/\i<=a.length/\bP L B (wN (a.take i))/\aM H1 L/\L f=some (.lst B),{_,rfl,i5 _,.nil,aI e,aB},?_}
  rintro i m B L ⟨rfl,hi,M,u,C⟩
  refine {C,?_}
  let ly:B.length=i:=by
   have:=M.length;unfold wN at this;rw [g7,l0] at this;omega
  by_cases j:i<a.length
  ·refine .inr {{_,_,dD.of (u _ _ k),c7 ∎},?_};rintro y a0 ⟨rfl,hy⟩;let ey:=hy _ (dD.of (u _ _ k));let ez:y=V.int a[i]:=by
    rw [i8,c7 j] at ey;exact(Option.some.inj ey).symm
   subst ez;refine {rfl,?_};refine eM ?_;refine cW ?_;refine {_,rfl,_,rfl,_,_,rfl,rfl,by show 2<=sizeLine;decide,λt' ht=>?_};let nt:f≠t':=aD C ht;refine {by rw [aC nt];exact C,∎,_,?_,rfl,j,?_,λb o z=>?_,aB}
   ·omega
   ·unfold wN;rw [A3,c7 j,n6];exact cR (aK (λv q ⟨b,z1,z2⟩=>{b,z1,by rw [aC (aL z2 C (by intro z;cases z)),aC (aD z2 ht)];exact z2}) M) {t',rfl,by rw [aC nt.symm];exact aB}
   ·rw [aC (aD z e),aC (aD (u _ _ z) ht)];exact u _ _ z
  ·refine .inl {{_,dD.of (u _ _ k),∎},?_};let ei:a.take i=a:=p8 ∎;rw [ei] at M;refine {f,_,rfl,.inl {dD.of C,λr I=>?_}};let lo:(wN a).length=O.length:=by unfold wN;rw [g7];exact ln
   let sA:aM H (aR L r (.tup B)):=s0.trans (u.trans (aI I));refine {r,wN a,rfl,{B,aB,M.same (aI I)},Be (U.nodup_iff.mpr nd) T,∎,λr2 d2 H2 s2 Z sd md ld=>?_};exact t r2 d2 H2 (sA.trans s2) Z sd (λx=>(md x).trans (Ms.trans U.mem_iff)) ∎
def Zc:aJ ["self"] ["self"] (aG Jn):={rfl,rfl,rfl,⋯,rfl,⋯,⋯}
def Ta (W:Wd P w K mg base N c):dZ P w K mg base cX N.CS "left_work" 7 (yQ N.CS):=W.d39.of λF=>by
 refine F.ok Zc (λC H Q E h=>?_) (λJ A i s H C Q E q h=>?_)
 ·let (p,e,d,g,a,u,rfl,_):=h
  rfl
 ·intro X D
  let (p,e,d,g,a,u,rfl,S,B,Z,G,y,l,t):=h
  refine {_,(aH (bB (aS (Tk W) q aN (aA (aV (pv 0) rfl) (aA (bT (pv 0) W.S.cl (Cz W) q aN) aE))))),?_}
  let ((n,o),L,hd):=id S
  refine {_,rfl,p,N.CS,n,_,_,rfl,o,W.S.cl,W.S.nW,sM _ _,_,rfl,p,n,_,rfl,o,gK _ _ ⋯ ⋯,p,e,d,g,a,u,rfl,S,G,y,l,λr U H1 m b z O ld=>?_}
  refine {e,r,g,U,rfl,L.same m,b,B.wk,z.wk,∎,∎,λT I M v k f j Y=>?_}
  exact t T I M (m.trans v) k f (λx=>(j x).trans (and_congr Iff.rfl (not_congr (O x)))) ∎
def row (vf:Int->Int) (l:Int) (n:Nat):List V:=((List.range n).map λ(i:Nat)=>vf (l+(i:Int))).map V.int
def Rz (vf:Int->Int) (l:Int) (n:Nat):(row vf l n).length=n:=by
 unfold row;rw [g7,g7,z8]
def Ko (vf:Int->Int) (l:Int) (n:Nat):row vf l (n+1)=row vf l n++[V.int (vf (l+(n:Int)))]:=by
 unfold row;rw [List.range_succ,n6,n6];rfl
theorem Xn:∀(n:Nat) (l:Int) (ns:List Int),(∀i:Nat,i<n->l+(i:Int) ∈ ns)->n<=ns.length
 | 0,_,_,_=>i5 _
 | n+1,l,ns,h=>by
  have a:=h n ∎
  have b:=Xn n l (ns.erase (l+(n:Int))) λi d=>(List.mem_erase_of_ne ∎).mpr (h i ∎)
  rw [List.length_erase_of_mem a] at b
  have:=List.length_pos_of_mem a
  omega
def uU (vf:Int->Int) (H:Hp) (v:V) (q:Int × Int):Prop:=∃b c,v=.ref b/\H b=some (.tup [.int q.1,.ref c])/\H c=some (.tup (row vf q.1 (q.2-q.1).toNat))
structure Holds (vf:Int->Int) (kvs:List (bZ × V)) (ns:List Int):Prop where
 key:kvs.map (·.1)=ns.map Sum.inl
 nd:ns.Nodup
 len:ns.length<128
 val:∀x ∈ ns,cZ kvs (Sum.inl x:bZ)=some (.int (vf x))
 lo:∀x ∈ ns,-(2 ^ 61)<=x/\x<2 ^ 61
inductive At (vf:Int->Int) (C:Addr) (vs:List V) (H:Hp) (Q:VK) (E0_:XK):Prop|mk (p pw d:Addr) (ws:Lm.Ps) (kvs:List (bZ × V)) (l h:Int) (_:vs=[.ref p,.int l,.int h]) (_:cM C H p pw d ws kvs) (_:(∀x,l<=x->x<h->cZ kvs (Sum.inl x:bZ)=some (.int (vf x)))) (_:-(2 ^ 62)<=l) (_:l<h) (_:h<2 ^ 62) (_:h-l<=1000) (_:∀r H',aM H H'->H' r=some (.tup (row vf l (h-l).toNat))->Q (.ref r) H')
def Et (vf:Int->Int) (C:Addr):Sp:=At vf C
def Iq (vf:Int->Int) (C:Addr):Sp:=λvs H Q _=>∃(p pw d:Addr) (ws:Lm.Ps) (kvs:List (bZ × V)) (ns:List Int),vs=[.ref p]/\cM C H p pw d ws kvs/\Holds vf kvs ns /\
 ∀(r:Addr) (ds:Lm.Ps) (xs:List V) (H':Hp),aM H H'->H r=none->H' r=some (.lst xs)->Paired (uU vf H') xs ds->Lm.Sh ds->(∀x,Lm.mem ds x↔x ∈ ns)->ds.length<=ns.length->Q (.ref r) H'
def Ey:aJ ["self","low","high"] ["self","low","high"] (aG rY):={rfl,rfl,rfl,⋯,rfl,⋯,⋯}
def IV:(["place","self"]:List Str).Nodup:=⋯
def zS (vf:Int->Int) (W:Wd P w K mg base N c):dZ P w K mg base cX N.CS "numbers_between" 1 (Et vf N.CS):=W.d42.of λF=>by
 refine F.ok Ey (λvs H Q E h=>?_) (λa0 A J s H vs Q E hr h=>?_)
 ·let (p,U,d,ws,I,l,h,rfl,_):=h
  rfl
 ·intro X D
  let (p,U,d,ws,I,a,f,rfl,S,Z,b1,b2,b3,b4,t):=h
  let hu:=Nk hr
  refine {_,(aH (bB (dH cT (by rfl) W.G.tuple eV (aA (dM (NB:=["place","self"]) (n:=1) (js:=[0]) (g:=cS 0) (te:=Wf (Ig K (iL 1) "results") (iL 0)) (cl:=[("self",s.heap.objs.size+1)]) rfl ⋯ ⋯ rfl
    (gL.of rfl (bA rfl cL) (bA (λz=>nomatch z) (bA (λz=>nomatch z) (bA (λ_=>rfl) cL))) rfl
     (λk j h=>match k,j,h with|0,_,rfl=>rfl|k+1,_,h=>absurd h (by simp)) (bA {.inl rfl,.inl rfl,rfl} cL))
    (jT rfl W.G.range (aA (pv 1) (aA (pv 2) aE))) (λ_ s H T O=>aW (i:=0) IV rfl (j5 rfl) (.inr rfl)) (λ_ s H T O=>eC)
    (λ_ s H T O=>Ct (by exact hu) (aV (pv 1) rfl) (pv 0) (λ_ _=>rfl))) aE)))),?_}
  let sl:sizeLine=16777216:=sizeLine_eq
  let ((dx,h1),hw,Y):=id S
  refine {_,rfl,_,rfl,a,f,rfl,{b1,∎,∎,b3},λq e=>?_}
  refine {λi m L M=>m=(f-a).toNat-i/\i<=(f-a).toNat/\L=row vf a i/\aM H M/\M q=some (.lst L),{_,rfl,i5 _,rfl,aI e,aB},?_}
  rintro i m L M ⟨rfl,a1,rfl,x,v⟩
  refine {v,?_}
  by_cases u:i<(f-a).toNat
  ·refine .inr {u,?_}
   rintro y B ⟨rfl,rfl⟩
   refine lK ?_
   refine {rfl,?_}
   refine eM ?_
   refine cW ?_
   let ev:=Z (a+i) ∎ ∎
   let dg:kI B d (.int (a+i)) (some (.int (vf (a+i)))):=by
    have:=kI.k (k:=(Sum.inl (a+i):bZ)) (x _ _ Y);rw [ev] at this;exact this
   refine {_,rfl,p,N.CS,dx,_,_,rfl,x _ _ h1,W.S.cl,W.S.nR,jE _ _,_,rfl,d,_,rfl,dg,v,by rw [Rz];omega,_,?_,rfl,u,?_,λb o z=>?_,aB}
   ·omega
   ·rw [Ko]
   ·rw [aC (aD z e)];exact x _ _ z
  ·refine .inl {by show (f-a).toNat<=i;omega,?_};let ei:i=(f-a).toNat:=∎;rw [ei] at v;refine {q,_,rfl,.inl {dD.of v,λr C=>?_}};exact t r _ (x.trans (aI C)) aB
def EQ:aJ ["self"] ["self"] (aG Ws):={rfl,rfl,rfl,⋯,rfl,⋯,⋯}
def FD:(["low","high","self"]:List Str).Nodup:=⋯
def AI (vf:Int->Int) (W:Wd P w K mg base N c):dZ P w K mg base cX N.CS "all_results" 7 (Iq vf N.CS):=W.d38.of λF=>by
 refine F.ok EQ (λvs H Q E h=>?_) (λa8 A a4 s H vs Q E hr h=>?_)
 ·let (p,pw,d,ws,L,ns,rfl,_):=h
  rfl
 ·intro X D
  let (p,pw,d,ws,L,ns,rfl,S,J,t):=h
  let a3:Room 1 _:=hr.mono (by decide)
  refine {_,(aH (bB (dM (NB:=["low","high","self"]) (n:=2) (js:=[0]) (g:=Gf K 2 (hZ (cS 0) (hZ (cS 1) Gg))) (cl:=[("self",s.heap.objs.size+1)]) rfl ⋯ ⋯ rfl
    (gL.of rfl (bA rfl cL) (bA (λz=>nomatch z) (bA (λz=>nomatch z) (bA (λz=>nomatch z) (bA (λ_=>rfl) cL)))) rfl
     (λk j h=>match k,j,h with|0,_,rfl=>rfl|k+1,_,h=>absurd h (by simp)) (bA {.inl rfl,.inl rfl,rfl} cL))
    (fY (bT (pv 0) W.S.cl (Cz W) hr aN)) (λ_ s H fp pn=>fZ (n:=2) rfl (bH (aW (i:=0) FD rfl (j5 rfl) (.inr rfl)) (bH (aW (i:=1) FD rfl (j5 rfl) (.inr rfl)) eO))) (λ_ s H fp pn=>eC)
    (λ_ s H fp pn=>cE (aA (pv 0) (aA (bE (pv 2) W.S.cl (zS vf W) a3 aN (aA (pv 0) (aA (pv 1) aE))) aE)))))),?_}
  let sl:sizeLine=16777216:=sizeLine_eq
  let ((dx,h1),hw,hd):=id S
  refine {_,rfl,p,dx,_,rfl,h1,gK _ _ ⋯ ⋯,p,pw,d,ws,L,ns,rfl,S,J.key,J.nd,J.len,λr T H1 s1 a0 sd md ld=>?_}
  let (M,x1,x2):=id a0
  let a6:=J.len
  let lx:M.length=T.length:=x2.length
  refine {r,rfl,{_,cA.of x1},λa l=>?_}
  let G:H a=none:=s1.free l
  refine {λi m O H'=>m=M.length-i/\i<=M.length/\Paired (uU vf H') O (T.take i)/\aM H1 H'/\H' a=some (.lst O),{_,rfl,i5 _,.nil,aI l,aB},?_}
  rintro i m O H' ⟨rfl,hi,hP,u,hA⟩
  refine {hA,?_}
  let ly:O.length=i:=by
   have:=hP.length;rw [l0] at this;omega
  by_cases a2:i<M.length
  ·refine .inr {{M,_,cA.of (u _ _ x1),c7 a2},?_};rintro y a7 ⟨rfl,hy⟩;let ey:=hy M (cA.of (u _ _ x1));let (q,hq,b',rfl,a5):=aQ x2 ey;let Z:q ∈ T:=i6 hq;let a1:q.1<q.2:=sd.lt q Z;let C:∀x,q.1<=x->x<q.2->x ∈ ns:=λx Y z2=>(md x).mp {(q),Z,Y,z2};let cv:=Xn (q.2-q.1).toNat q.1 ns λi hi=>C _ ∎ ∎;let q1:=J.lo _ (C q.1 ∎ a1);let q2:=J.lo _ (C (q.2-1) ∎ ∎);refine {b',_,rfl,cA.of (u _ _ a5),rfl,_,_,rfl,_,_,rfl,rfl,rfl,?_};refine eM ?_;refine cW ?_;let S':=S.same (s1.trans u);refine {_,rfl,_,rfl,p,dx,_,rfl,u _ _ (s1 _ _ h1),gK _ _ ⋯ ⋯,_,rfl,_,rfl,p,pw,d,ws,L,q.1,q.2,rfl,S',λx Y z2=>J.val x (C x Y z2),∎,a1,∎,∎,λc H2 U hc=>?_};refine {by show 2<=sizeLine;decide,λt' ht=>?_};let B:H2 a=some (.lst O):=U _ _ hA;let nt:a≠t':=aD B ht;let nc:c≠a:=aL hc B (by intro z;cases z);let st:aM H2 (aR H2 t' (.tup [.int q.1,.ref c])):=aI ht;let f:∀b I,H2 b=some (.tup I)->(aR (aR H2 t' (.tup [.int q.1,.ref c])) a (.lst (O++[.ref t']))) b=some (.tup I):=λb I e=>by
    rw [aC (aL e B (by intro z;cases z))];exact st _ _ e
   refine {by rw [aC nt];exact B,∎,_,?_,rfl,a2,?_,λb o z=>?_,aB}
   ·omega
   ·rw [A3,hq];exact cR (aK (λv q ⟨b,c,Y,z2,z3⟩=>{b,c,Y,f _ _ (U _ _ z2),f _ _ (U _ _ z3)}) hP) {t',c,rfl,by rw [aC nt.symm];exact aB,f _ _ hc}
   ·rw [aC (aD z l),aC (aD (U _ _ (u _ _ z)) ht)];exact U _ _ (u _ _ z)
  ·refine .inl {{M,cA.of (u _ _ x1),∎},?_};let ei:T.take i=T:=p8 ∎;rw [ei] at hP;exact t a T O H' (s1.trans u) G hA hP sd md ld
end
end Ls
namespace L2
open PySem PySem.Spec PyProof.Rows
end L2
namespace Ls
open PySem L2 PySem.W
def jG (l:Int) (ns:List Int) (i:Nat):List (bZ × V):=(List.range i).map λ(k:Nat)=>((Sum.inl (l+(k:Int)):bZ),V.int (ns.getD k 0))
def Od (l:Int) (ns:List Int) (i:Nat):(jG l ns i).length=i:=by
 unfold jG;rw [g7,z8]
def sP (l:Int) (ns:List Int) (i:Nat):jG l ns (i+1)=jG l ns i++[(Sum.inl (l+(i:Int)),V.int (ns.getD i 0))]:=by
 unfold jG;rw [List.range_succ,n6];rfl
def jO {kvs:List (bZ × V)} {k:bZ}:cZ kvs k=none↔∀e ∈ kvs,e.1≠k:=by
 unfold cZ;rw [Option.map_eq_none_iff,List.find?_eq_none];constructor
 ·intro h e a z;exact h e a (by rw [z];simp)
 ·intro h e a z;exact h e a (of_decide_eq_true z)
def xR {kvs:List (bZ × V)} {l:Int} {ns:List Int} {i:Nat} (h:cZ kvs (Sum.inl (l+(i:Int)):bZ)=none):cZ (kvs++jG l ns i) (Sum.inl (l+(i:Int)):bZ)=none:=by
 rw [jO] at h ⊢;intro e b;rcases j1.mp b with z|z
 ·exact h e z
 ·let (k,a,rfl):=w8.mp z;intro z;have:=Sum.inl.inj z;have:=C7.mp a;omega
inductive BS (C CT:Addr) (vs:List V) (H:Hp) (Q:VK) (E:XK):Prop|mk (p pw d t:Addr) (ws:Lm.Ps) (kvs:List (bZ × V)) (l:Int) (ns:List Int) (_:vs=[.ref p,.int l,.ref t]) (_:cM C H p pw d ws kvs) (_:H t=some (.tup (ns.map V.int))) (_:ws.length<=1000) (_:ns.length<=1000) (_:kvs.length<=1000) (_:-(2 ^ 61)<=l) (_:l+ns.length<=2 ^ 61) (_:(∃q ∈ ws,q.1<=l/\l+ns.length<=q.2)) (_:((∀i:Nat,i<ns.length->cZ kvs (Sum.inl (l+(i:Int)):bZ)=none)->∀H',H' d=some (.dK (kvs++jG l ns ns.length))->(∀b o,H b=some o->b≠d->H' b=some o)->Q .non H')) (_:((∃i:Nat,i<ns.length/\cZ kvs (Sum.inl (l+(i:Int)):bZ)≠none)->∀H',aM H H'->E (.ref CT) none H'))
def EF (C CT:Addr):Sp:=BS C CT
def Dp {d:Int} (a:-(2 ^ 61)<=d) (h2:d<=2 ^ 61):Builtin.SmallTypes.fitsIndex d=true:=by
 unfold Builtin.SmallTypes.fitsIndex;rw [B4];exact {decide_eq_true ∎,decide_eq_true ∎}
section
variable {P:Program} {w:World} {K:Frag} {mg:Str->Option Value} {base:Heap} {N:Cn} {c:Nat->Addr}
def Bu:aJ ["self","place","numbers","at","number"] ["self","place","numbers"] (aG Cb):={rfl,rfl,rfl,⋯,rfl,⋯,⋯}
def AE (W:Wd P w K mg base N c):dZ P w K mg base (jN P w) N.CS "lay" 3 (EF N.CS (c 9)):=W.d36.of λ{f _} F=>by
 refine F.okE Bu (λvs H Q E h=>?_) (λa9 A L s H vs Q E hr h=>?_)
 ·let (p,pw,d,t,ws,m,l,r,rfl,_):=h
  rfl
 ·intro X D
  let (p,pw,d,t,ws,m,l,r,rfl,S,Y,lw,ln,lk,b1,b2,(q,hq,q1,q2),ac,no):=h
  let hu:=Nk hr
  let a0:Room 1 _:=hr.mono (by decide)
  let sl:sizeLine=16777216:=sizeLine_eq
  let lm:(r.map V.int).length=r.length:=g7 ..
  let k:∀H2,aM H H2->Wp (jH (jN P w) P w K mg base ["self","place","numbers","at","number"] "Sheet.lay" (aG Cb) f a9 A L s H E) ((bV Cb).drop 2) {λ_ H'=>Q .non H',Q,λ_ _=>False,λ_ _=>False} [some (.ref p),some (.int l),some (.ref t),none,none] H2:=λH2 a5=>by
   let gt:=a5 _ _ Y
   refine {_,aF (eJ N9 rfl (jT rfl W.G.range (aA (pv 1) (aA (cI eR (pv 1) (bF cG (by rfl) W.G.len PySem.boot_len (aA (pv 2) aE))) aE))) (aW (i:=3) Bu.nd rfl (j5 rfl)) aU) aU,?_}
   refine {_,rfl,_,rfl,_,rfl,t,_,rfl,.inr (cA.of gt),_,_,rfl,rfl,l,_,rfl,{ ∎,∎,by rw [lm];omega,by rw [lm];omega},jW (lo:=l) (n:=(l+(((r.map V.int).length:Nat):Int)-l).toNat)
    (λi σ H3=>aM H H3/\(∃v,σ=[some (.ref p),some (.int l),some (.ref t),v,none])/\∀j:Nat,j<i->cZ m (Sum.inl (l+(j:Int)):bZ)=none) {a5,{_,rfl},λj hj=>absurd hj (D9 _)} ?_ ?_}
   ·rintro i σ H3 hi ⟨M,⟨v,rfl⟩,g⟩
    rw [lm] at hi
    let ((a4,g1),gw,gd):=S.same M
    refine {_,aH (bQ (Kw (Zy hu (pv 3) (aV (pv 0) rfl))) (aH (fX rfl W.T.ex rfl W.T.mT dO (aA eP aE))) aY),?_}
    refine {_,rfl,_,rfl,p,N.CS,a4,_,_,rfl,g1,W.S.cl,W.S.nR,jE _ _,d,_,rfl,kI.k (k:=Sum.inl (l+(i:Int))) gd,_,rfl,?_}
    cases e:cZ m (Sum.inl (l+(i:Int)):bZ) with
    | some v=>
     refine cW ?_
     exact {by show 1<=sizeLine;decide,no {i,∎,by rw [e];simp} _ M}
    | none=>
     refine cO ?_
     refine {M,{_,rfl},λj hj=>?_}
     by_cases aa:j<i
     ·exact g j aa
     ·have:j=i:=∎
      rw [this]
      exact e
   ·rintro σ H3 ⟨M,⟨v,rfl⟩,g⟩
    rw [lm] at g
    let y:∀j:Nat,j<r.length->cZ m (Sum.inl (l+(j:Int)):bZ)=none:=λj hj=>g j ∎
    let ((a4,g1),gw,gd):=S.same M
    let a1:=S.dc
    let (a6,U):=S.ob
    let a7:t≠d:=aL Y a1 (by intro z;cases z)
    let a2:p≠d:=aL U a1 (by intro z;cases z)
    refine {_,aH (eJ N9 rfl (Cr (by rfl) W.G.enum sR (aA (pv 2) aE) (nV (pv 1) uC)) (fZ (n:=2) rfl (bH (aW (i:=3) Bu.nd rfl (j5 rfl)) (bH (aW (i:=4) Bu.nd rfl (j5 rfl)) eO))) aU),?_}
    refine {_,rfl,_,rfl,t,l,rfl,rfl,Dp b1 ∎,{_,cA.of (M _ _ Y)},xK (K:=K) (a:=t) (d:=l) (xs:=r.map V.int)
     (λi σ Z=>(∃u v,σ=[some (.ref p),some (.int l),some (.ref t),u,v])/\Z d=some (.dK (m++jG l r i))/\∀b o,H b=some o->b≠d->Z b=some o)
     {{_,_,rfl},by rw [gd];simp [jG],λb o e hb=>M _ _ e} (λi σ Z _ ⟨_,_,I⟩=>cA.of (I _ _ Y a7)) ?_ ?_}
    ·rintro i x σ Z t' hi ⟨⟨u,v',rfl⟩,B,I⟩ J
     let O:i<r.length:=by
      have:=(c8.mp hi).1;omega
     let ex:x=V.int (r.getD i 0):=by
      rw [i8,c7 O] at hi;rw [<- Option.some.inj hi,y9,c7 O];rfl
     subst ex;let a8:d≠t':=aD B J;let ad:p≠t':=aD (I _ _ U a2) J;refine {t',_,rfl,cA.of aB,rfl,_,_,rfl,_,_,rfl,rfl,?_};refine {_,aH (Cm hu (aV (pv 0) rfl) (pv 3) (pv 4) rfl),?_};refine {_,rfl,_,rfl,p,N.CS,a6,_,_,rfl,(by rw [aC ad];exact I _ _ U a2),W.S.cl,W.S.nR,jE _ _,_,rfl,d,_,rfl,Hh.k (k:=Sum.inl (l+(i:Int))) (by rw [aC a8];exact B) (by rw [i7,Od];omega),?_};refine {{_,_,rfl},?_,λb o e hb=>?_}
     ·rw [aB,wE _ (xR (y i O)),p9,<- sP]
     ·rw [aC hb,aC (aD (I b o e hb) J)];exact I b o e hb
    ·rintro σ Z ⟨_,B,I⟩;rw [lm] at B;exact ac y Z B I
  refine Wp.ex {_,aF (bQ (PW.pt (eN (cC (bY (aS (dI W) a0 aN (aA (pv 1) aE)))) (dP (cC (bY (aS (pM W) hr aN (aA (pv 2) aE))))))) (aH pE) aY) aU,?_};refine {_,rfl,_,rfl,.kn (.int _),_,rfl,cO ?_};refine {_,rfl,t,r,rfl,Y,ln,λH1 s1=>{_,rfl,cO ?_}};let S1:=S.same s1;let ((dx,h1),hw,hd):=id S1;let a3:H1 t=some (.tup (r.map V.int)):=s1 _ _ Y;refine {_,aF (bQ (PW.pt (iV (hH (pv 2) (λ_=>rfl)) (gE (cC (bY (bE (pv 0) W.S.cl (Mm W) a0 aN (aA (pv 1) (aA (cI eR (pv 1) (bF cG (by rfl) W.G.len PySem.boot_len (aA (pv 2) aE))) aE)))))))) (aH pE) aY) aU,?_};refine {_,rfl,!(r.map V.int).isEmpty,.inr (.inl {_,cA.of a3,rfl}),?_};let C:(ws.any λq=>decide (q.1<=l) && decide (l+(((r.map V.int).length:Nat):Int)<=q.2))=true:=List.any_eq_true.mpr {q,hq,by rw [decide_eq_true q1,decide_eq_true (by rw [lm];exact q2)];rfl};refine gQ (λhc=>?_) (λhc=>cO (k H1 s1));refine {_,rfl,p,dx,_,rfl,h1,gK _ _ ⋯ ⋯,_,rfl,_,rfl,_,rfl,t,_,rfl,.inr (cA.of a3),_,_,rfl,rfl,p,pw,d,ws,m,l,_,rfl,S1,lw,λH2 s2=>{_,rfl,?_}};rw [C];exact cO (k H2 (s1.trans s2))
inductive BO (C:Addr) (vs:List V) (H:Hp) (Q:VK) (E0_:XK):Prop|mk (p pw d:Addr) (ws:Lm.Ps) (kvs:List (bZ × V)) (x:V) (_:vs=[.ref p,x]) (_:cM C H p pw d ws kvs) (_:sZ H x) (_:(fJ x=false->Q .non H)) (_:(∀i,x=.int i->Q ((cZ kvs (Sum.inl i:bZ)).getD .non) H))
def EA (C:Addr):Sp:=BO C
def EK:aJ ["self","place"] ["self","place"] (aG Wr):={rfl,rfl,rfl,⋯,rfl,⋯,⋯}
def AC (W:Wd P w K mg base N c):dZ P w K mg base cX N.CS "result_at" 2 (EA N.CS):=W.d37.of λF=>by
 refine F.ok EK (λo H Q E h=>?_) (λl A e s H o Q E g h=>?_)
 ·let (p,m,d,n,a,x,rfl,_):=h
  rfl
 ·intro X D
  let (p,m,d,n,a,x,rfl,S,q,j,b):=h
  let u:=Nk g
  refine {_,aF (bQ (cC (bY (aS (dI W) g aN (aA (pv 1) aE)))) (aH (bB gB)) aY) (aH (bB (Lh u (aV (pv 0) rfl) (pv 1) (by constructor <;> rfl)))),?_}
  let ((t,r),v,f):=id S
  refine {_,rfl,_,rfl,q,_,rfl,?_}
  cases hx:fJ x with
  | false=>exact cW (j hx)
  | true=>
   refine cO ?_
   obtain⟨i,rfl⟩:∃i,x=.int i:=by
    cases x <;> first|exact {_,rfl} | cases hx
   exact {_,rfl,p,N.CS,t,_,_,rfl,r,W.S.cl,W.S.nR,jE _ _,d,rfl,.inl {a,.inl f},_,rfl,_,kI.k (k:=Sum.inl i) f,b i rfl}
abbrev pf (n l h m:Int) (lv:V):List (Str × V):=[("number",.int n),("low",.int l),("high",.int h),("mark",.int m),("lending",lv)]
def qV (C:Addr) (H:Hp) (p:Addr) (n l h m:Int) (lv:V):Prop:=∃dx,H p=some (.ins C dx (pf n l h m lv))
def kF (H:Hp):V->Option (Int × Str × Int)->Prop
 | .non,none=>True
 | .ref q,some (t,x,u)=>H q=some (.tup [.int t,.str x,.int u])
 | _,_=>False
theorem kF.non {H:Hp} {a:V} {o:Option (Int × Str × Int)} (h:kF H a o):decide (a=.non)=o.isNone:=by
 cases a <;> cases o <;> first|rfl|exact h.elim
def Sf {n l h m a:Int} {b:V}:cN "mark" (.int a) (pf n l h m b)=pf n l h a b:=by
 simp only [cN];rw [if_neg ⋯,if_neg ⋯,if_neg ⋯,if_pos trivial]
def uE {n l h m:Int} {b a:V}:cN "lending" a (pf n l h m b)=pf n l h m a:=by
 simp only [cN];rw [if_neg ⋯,if_neg ⋯,if_neg ⋯,if_neg ⋯,if_pos trivial]
def Sj {n l h h' m:Int} {a:V}:cN "high" (.int h') (pf n l h m a)=pf n l h' m a:=by
 simp only [cN];rw [if_neg ⋯,if_neg ⋯,if_pos trivial]
def Zv {n l h m:Int} {a:V}:cN "lending" a (cN "mark" (.int m) (cN "high" (.int h) (cN "low" (.int l) (cN "number" (.int n) []))))=pf n l h m a:=rfl
inductive Pj (C:Addr) (vs:List V) (H:Hp) (Q:VK) (E0_:XK):Prop|mk (p dx:Addr) (n l h:Int) (_:vs=[.ref p,.int n,.int l,.int h]) (_:H p=some (.ins C dx [])) (_:Q .non (aR H p (.ins C dx (pf n l h l .non))))
def Qx (C:Addr):Sp:=Pj C
inductive Vb (C:Addr) (vs:List V) (H:Hp) (Q:VK) (E0_:XK):Prop|mk (p:Addr) (n l h m:Int) (lv:V) (_:vs=[.ref p]) (_:qV C H p n l h m lv) (_:Q (.int (h-m)) H)
def Ik (C:Addr):Sp:=Vb C
inductive Vq (C:Addr) (vs:List V) (H:Hp) (Q:VK) (E0_:XK):Prop|mk (p:Addr) (n l h m:Int) (lv:V) (_:vs=[.ref p]) (_:qV C H p n l h m lv) (_:Q (.bl (decide (m=h))) H)
def Ys (C:Addr):Sp:=Vq C
inductive Vh (C:Addr) (vs:List V) (H:Hp) (Q:VK) (E0_:XK):Prop|mk (p:Addr) (n l h m:Int) (lv:V) (_:vs=[.ref p]) (_:qV C H p n l h m lv) (_:Q (.bl (!decide (lv=.non))) H)
def Yl (C:Addr):Sp:=Vh C
inductive Vp (C:Addr) (vs:List V) (H:Hp) (Q:VK) (E0_:XK):Prop|mk (p:Addr) (n l h m:Int) (lv:V) (_:vs=[.ref p]) (_:qV C H p n l h m lv) (_:Q (.bl (decide (lv=.non) && !decide (m=h))) H)
def Yr (C:Addr):Sp:=Vp C
inductive Vi (C:Addr) (vs:List V) (H:Hp) (Q:VK) (E0_:XK):Prop|mk (p:Addr) (n l h m i:Int) (lv:V) (o:Option (Int × Str × Int)) (_:vs=[.ref p,.int i]) (_:qV C H p n l h m lv) (_:kF H lv o) (_:Q (.bl (o.any λt=>decide (t.2.2<i))) H)
def Ym (C:Addr):Sp:=Vi C
inductive Vo (C:Addr) (vs:List V) (H:Hp) (Q:VK) (E0_:XK):Prop|mk (p:Addr) (n l h m i:Int) (lv:V) (o:Option (Int × Str × Int)) (_:vs=[.ref p,.int i]) (_:qV C H p n l h m lv) (_:kF H lv o) (_:Q (.bl (o.any λt=>decide (t.1=i))) H)
def Yq (C:Addr):Sp:=Vo C
inductive Pf (C:Addr) (vs:List V) (H:Hp) (Q:VK) (E0_:XK):Prop|mk (p:Addr) (n l h m:Int) (lv:V) (_:vs=[.ref p]) (_:qV C H p n l h m lv) (_:∀r,H r=none->Q (.ref r) (aR H r (.tup [.int n,.int l,.int h,.int m,lv])))
def Qt (C:Addr):Sp:=Pf C
def Rt:aJ ["self","number","low","high"] ["self","number","low","high"] (aG Jw):={rfl,rfl,rfl,⋯,rfl,⋯,⋯}
def Mb (W:Wd P w K mg base N c):dZ P w K mg base cX N.CP "__init__" 1 (Qx N.CP):=W.d26.of λF=>by
 refine F.ok Rt (λe H Q E h=>?_) (λd A b s H e Q E i h=>?_)
 ·let (p,a,n,l,g,rfl,_):=h
  rfl
 ·intro X D
  let (p,a,n,l,g,rfl,f,t):=h
  refine {_,aF (cD (pv 0) (pv 1) rfl) (aF (cD (pv 0) (pv 2) rfl) (aF (cD (pv 0) (pv 3) rfl) (aF (cD (pv 0) (pv 2) rfl) (aH (cD (pv 0) gB rfl))))),?_}
  refine {_,rfl,_,rfl,p,N.CP,a,_,rfl,f,W.P.cl,W.P.nN,(by show 0<1000;decide),?_}
  refine {_,rfl,_,rfl,p,N.CP,a,_,rfl,aB,W.P.cl,W.P.nL,(by show 1<1000;decide),?_}
  refine {_,rfl,_,rfl,p,N.CP,a,_,rfl,aB,W.P.cl,W.P.nH,(by show 2<1000;decide),?_}
  refine {_,rfl,_,rfl,p,N.CP,a,_,rfl,aB,W.P.cl,W.P.nM,(by show 3<1000;decide),?_}
  refine {_,rfl,p,N.CP,a,_,rfl,aB,W.P.cl,W.P.nD,(by show 4<1000;decide),?_}
  rw [bS,bS,bS,bS,Zv]
  exact t
def Yz:aJ ["self"] ["self"] (aG Jt):={rfl,rfl,rfl,⋯,rfl,⋯,⋯}
def uI (W:Wd P w K mg base N c):dZ P w K mg base cX N.CP "rest" 1 (Ik N.CP):=W.d27.of λF=>by
 refine F.ok Yz (λg H Q E h=>?_) (λe A a s H g Q E j h=>?_)
 ·let (p,n,l,i,m,f,rfl,_):=h
  rfl
 ·intro X D
  let (p,n,l,i,m,f,rfl,(b,d),t):=h
  refine {_,aH (bB (cI mD (aV (pv 0) rfl) (aV (pv 0) rfl))),?_}
  exact {_,rfl,p,N.CP,b,_,_,rfl,d,W.P.cl,W.P.nH,rfl,_,rfl,p,N.CP,b,_,_,rfl,d,W.P.cl,W.P.nM,rfl,_,_,rfl,rfl,t}
def Zj:aJ ["self"] ["self"] (aG Jy):={rfl,rfl,rfl,⋯,rfl,⋯,⋯}
def Da (W:Wd P w K mg base N c):dZ P w K mg base cX N.CP "is_done" 1 (Ys N.CP):=W.d28.of λF=>by
 refine F.ok Zj (λj H Q E h=>?_) (λg A a s H j Q E k h=>?_)
 ·let (p,n,l,b,m,i,rfl,_):=h
  rfl
 ·intro X D
  let (p,n,l,b,m,i,rfl,(d,f),t):=h
  refine {_,aH (bB (dF wM (aV (pv 0) rfl) (aV (pv 0) rfl) (bO _))),?_}
  refine {_,rfl,p,N.CP,d,_,_,rfl,f,W.P.cl,W.P.nM,rfl,_,rfl,p,N.CP,d,_,_,rfl,f,W.P.cl,W.P.nH,rfl,rfl,?_}
  let e:decide (V.int m=V.int b)=decide (m=b):=by rw [oD,E9];simp
  rw [e]
  exact t
def Zb:aJ ["self"] ["self"] (aG Ju):={rfl,rfl,rfl,⋯,rfl,⋯,⋯}
def lF (W:Wd P w K mg base N c):dZ P w K mg base cX N.CP "is_lent" 1 (Yl N.CP):=W.d29.of λF=>by
 refine F.ok Zb (λe H Q E h=>?_) (λb A a s H e Q E j h=>?_)
 ·let (p,n,l,i,m,d,rfl,_):=h
  rfl
 ·intro X D
  let (p,n,l,i,m,d,rfl,(f,g),t):=h
  refine {_,aH (bB (dF nZ (aV (pv 0) rfl) gB (bO _))),?_}
  exact {_,rfl,p,N.CP,f,_,_,rfl,g,W.P.cl,W.P.nD,rfl,rfl,t}
def Zi:aJ ["self"] ["self"] (aG Jx):={rfl,rfl,rfl,⋯,rfl,⋯,⋯}
def Tj (W:Wd P w K mg base N c):dZ P w K mg base cX N.CP "is_free" 2 (Yr N.CP):=W.d30.of λF=>by
 refine F.ok Zi (λo H Q E h=>?_) (λk A g s H o Q E j h=>?_)
 ·let (p,n,l,i,m,a,rfl,_):=h
  rfl
 ·intro X D
  let (p,n,l,i,m,a,rfl,(b,d),t):=h
  refine {_,aH (bB (eQ (zG (bT (pv 0) W.P.cl (lF W) j aN)) (gA (zG (bT (pv 0) W.P.cl (Da W) j aN))))),?_}
  refine {_,rfl,p,b,_,rfl,d,rfl,p,n,l,i,m,a,rfl,{(b),d},_,rfl,_,rfl,?_}
  refine gQ (λf=>?_) (λf=>?_)
  ·let e:decide (a=.non)=true:=by simpa using f
   rw [e] at t
   exact {_,rfl,p,b,_,rfl,d,rfl,p,n,l,i,m,a,rfl,{(b),d},_,rfl,t}
  ·let e:decide (a=.non)=false:=by simpa using f
   rw [e] at t
   exact t
def Zd:aJ ["self","moment"] ["self","moment"] (aG Jv):={rfl,rfl,rfl,⋯,rfl,⋯,⋯}
def Tb (W:Wd P w K mg base N c):dZ P w K mg base cX N.CP "is_late" 2 (Ym N.CP):=W.d31.of λF=>by
 refine F.ok Zd (λv H Q E h=>?_) (λr A f s H v Q E y h=>?_)
 ·let (p,n,l,k,m,i,b,o,rfl,_):=h
  rfl
 ·intro X D
  let (p,n,l,k,m,i,b,o,rfl,(d,e),g,t):=h
  refine {_,aH (bB (eQ (bT (pv 0) W.P.cl (lF W) y aN) (gA (dF Lv (pv 1) (dQ dU (aV (pv 0) rfl) aX (λ_ _=>rfl)) (bO _))))),?_}
  refine {_,rfl,p,d,_,rfl,e,rfl,p,n,l,k,m,b,rfl,{(d),e},_,rfl,?_}
  rw [g.non]
  cases o with
  | none=>exact cO t
  | some z=>
   let (a,x,u):=z
   refine cW ?_
   cases b with
   | ref q=>exact {_,rfl,_,rfl,p,N.CP,d,_,_,rfl,e,W.P.cl,W.P.nD,rfl,q,_,_,_,rfl,rfl,cA.of g,bW (j:=2) rfl,_,_,rfl,rfl,t}
   | _=>exact g.elim
def Zh:aJ ["self","token"] ["self","token"] (aG Wu):={rfl,rfl,rfl,⋯,rfl,⋯,⋯}
def Ti (W:Wd P w K mg base N c):dZ P w K mg base cX N.CP "has_token" 2 (Yq N.CP):=W.d33.of λF=>by
 refine F.ok Zh (λy H Q E h=>?_) (λv A g s H y Q E B h=>?_)
 ·let (p,n,l,r,m,i,b,o,rfl,_):=h
  rfl
 ·intro X D
  let (p,n,l,r,m,i,b,o,rfl,(d,f),k,t):=h
  refine {_,aH (bB (eQ (bT (pv 0) W.P.cl (lF W) B aN) (gA (dF wM (dQ dU (aV (pv 0) rfl) aX (λ_ _=>rfl)) (pv 1) (bO _))))),?_}
  refine {_,rfl,p,d,_,rfl,f,rfl,p,n,l,r,m,b,rfl,{(d),f},_,rfl,?_}
  rw [k.non]
  cases o with
  | none=>exact cO t
  | some z=>
   let (a,x,u):=z
   refine cW ?_
   cases b with
   | ref q=>
    refine {_,rfl,p,N.CP,d,_,_,rfl,f,W.P.cl,W.P.nD,rfl,q,_,_,_,rfl,rfl,cA.of k,bW (j:=0) rfl,_,rfl,rfl,?_}
    let e:decide (V.int a=V.int i)=decide (a=i):=by rw [oD,E9];simp
    rw [e]
    exact t
   | _=>exact k.elim
def Rq:aJ ["self"] ["self"] (aG Ce):={rfl,rfl,rfl,⋯,rfl,⋯,⋯}
def Lz (W:Wd P w K mg base N c):dZ P w K mg base cX N.CP "shown" 1 (Qt N.CP):=W.d34.of λF=>by
 refine F.ok Rq (λg H Q E h=>?_) (λe A d s H g Q E j h=>?_)
 ·let (p,n,l,i,m,f,rfl,_):=h
  rfl
 ·intro X D
  let (p,n,l,i,m,f,rfl,(a,b),t):=h
  refine {_,aH (bB (cE (aA (aV (pv 0) rfl) (aA (aV (pv 0) rfl) (aA (aV (pv 0) rfl) (aA (aV (pv 0) rfl) (aA (aV (pv 0) rfl) aE))))))),?_}
  exact {_,rfl,p,N.CP,a,_,_,rfl,b,W.P.cl,W.P.nN,rfl,_,rfl,p,N.CP,a,_,_,rfl,b,W.P.cl,W.P.nL,rfl,_,rfl,p,N.CP,a,_,_,rfl,b,W.P.cl,W.P.nH,rfl,_,rfl,p,N.CP,a,_,_,rfl,b,W.P.cl,W.P.nM,rfl,_,rfl,p,N.CP,a,_,_,rfl,b,W.P.cl,W.P.nD,rfl,by show 5<=sizeLine;decide,t}
def _root_.L2.Room.u1 {k:Nat} {A:Around} (a:Room k A):A.in1.units<cLine:=by have:=a.un;show A.units+1<_;omega
def xW:bootBuiltins "min"=some (.builtin "min"):=⋯
structure Pc where
 n:Int
 l:Int
 h:Int
 m:Int
 o:Option (Int × Str × Int)
def fL (C:Addr) (H:Hp) (p:Addr) (c:Pc):Prop:=∃lv,qV C H p c.n c.l c.h c.m lv/\kF H lv c.o
def qV.sameT {C:Addr} {H H':Hp} {p:Addr} {n l h m:Int} {a:V} (e:eB H H') (x:qV C H p n l h m a):qV C H' p n l h m a:=by
 let (b,q):=x;exact {b,e.at q}
def kF.sameT {H H':Hp} {a:V} {o:Option (Int × Str × Int)} (e:eB H H') (x:kF H a o):kF H' a o:=by
 cases a <;> cases o <;> first|exact x|exact e.at x
theorem fL.sameT {C:Addr} {H H':Hp} {p:Addr} {c:Pc} (e:eB H H') (x:fL C H p c):fL C H' p c:=by
 let (d,a,b):=x;exact {d,a.sameT e,b.sameT e}
def Pc.k (c:Pc):Int × Int:=(-(c.h-c.m),c.l)
def lJ:Pos:=match bV lZ with
 | [.Return (some (.Call _ _ [⟨_,e,_⟩] _)) _]=>e.pos
 | _=>⟨0,0,0,0⟩
abbrev gC:Str:="greatest.<locals>.<lambda>"
inductive Pu (C T:Addr) (vs:List V) (H:Hp) (Q:VK) (E0_:XK):Prop|mk (l:Addr) (ps:List Addr) (cs:List Pc) (_:vs=[.ref l]) (_:H l=some (.lst (ps.map V.ref))) (_:Paired (fL C H) ps cs) (_:ps≠[]) (_:kC H T lJ gC) (_:∀(i:Nat) (p:Addr) (c:Pc) (H':Hp),cY T H H'->kC H' T lJ gC->ps[i]?=some p->cs[i]?=some c->(∀j c',cs[j]?=some c'->¬ kE c'.k c.k/\(j<i->kE c.k c'.k))->Q (.ref p) H')
def Ra (C T:Addr):Sp:=Pu C T
def yZ:aJ ["pieces"] ["pieces"] (aG lZ):={rfl,rfl,rfl,⋯,rfl,⋯,⋯}
def AL:(["piece"]:List Str).Nodup:=⋯
def gH (W:Wd P w K mg base N c):jM P w K mg base cX "greatest" 4 (Ra N.CP N.T1):=W.d12.of λF hT=>by
 let (_,_,_,GR,bR,mR):=(uI W).up 1
 refine F.ok yZ (λvs H Q E h=>?_) (λA outer s H vs Q E hr h=>?_)
 ·let (l,ps,cs,rfl,_):=h
  rfl
 ·intro X D
  let (l,ps,cs,rfl,hl,pr,ne,tb,t):=h
  refine {_,aH (bB (Sk rfl hr.u1 (by rfl) W.G.min xW (aA (pv 0) aE) (nV (Lf (q:=gC) (clos:=[]) rfl hT W.M rfl rfl rfl trivial) uC))),?_}
  refine {_,rfl,tb,λg c' ctv H1 kt nf tb1 hc1 hf1=>?_}
  let s1:eB H H1:=by
   let (qs,e,_):=tb;exact kt.toT e
  let hl1:=s1.at hl;refine {l,g,ps,λi=>((cs[i]?).map Pc.k).getD (0,0),λH'=>aM H1 H',rfl,rfl,aM.refl _,λH' j=>j _ _ hl1,ne,λi p hp=>?_,λi p H' (j:aM H1 H') hp best=>?_}
  ·let (pc,hpc,lv,hat,hld):=aQ pr hp;let (dx,hdx):=hat.sameT s1;let ek:((cs[i]?).map Pc.k).getD (0,0)=pc.k:=by rw [hpc];rfl
   refine Di (k:=1) (N:=["piece"]) (p:="piece") (J:=λH'=>aM H1 H') (tb:=Xv (iU (JT (rU λi=>.int (-i)) (oT N.CP "rest" (Ik N.CP) [] E0 (iL 0) mV)) (iU (Ig K (iL 0) "low") mV))) (λH' j=>j _ _ hf1) (λH' j=>j _ _ hc1) id hr.in1 ?S ?B ?body ?J
   case S=>exact {rfl,rfl,rfl,⋯,rfl,⋯,⋯}
   case B=>exact λu=>rfl
   case body=>exact λs' H' hr'=>cE (aA (Xc Hx (wG (pv 0) W.P.cl mR GR hr' bR .nil aN)) (aA (aV (pv 0) rfl) aE))
   intro H' (j:aM H1 H');let hp':=j _ _ hdx;refine {_,rfl,p,dx,_,rfl,hp',rfl,p,_,_,_,_,lv,rfl,{(dx),hp'},_,rfl,_,rfl,p,N.CP,dx,_,_,rfl,hp',W.P.cl,W.P.nL,rfl,by show 2<=sizeLine;decide,λr nr=>{{{r,rfl,?_},λb xs e=>?_},j.trans (aI nr)}}
   ·rw [aB];show some (HO.tup [V.int (-(pc.h-pc.m)),V.int pc.l])=some (HO.tup [V.int (((cs[i]?).map Pc.k).getD (0,0)).1,V.int (((cs[i]?).map Pc.k).getD (0,0)).2]);rw [ek];rfl
   ·exact aI nr _ _ e
  ·let (pc,hpc,_):=aQ pr hp;refine t i p pc H' (kt.same j) (tb1.same j) hp hpc λj' c'' hj=>?_;let lj:j'<ps.length:=by
    have:=pr.length;have:=(c8.mp hj).1;omega
   let b:¬ kE (((cs[j']?).map Pc.k).getD (0,0)) (((cs[i]?).map Pc.k).getD (0,0))/\(j'<i->kE (((cs[i]?).map Pc.k).getD (0,0)) (((cs[j']?).map Pc.k).getD (0,0))):=best j' lj;rw [hj,hpc] at b;exact b
abbrev bf (pw sh d:Addr) (sp ev le nn nt mo:Int):List (Str × V):=[("work",.ref pw),("span",.int sp),("every",.int ev),("least",.int le),("sheet",.ref sh),("by_number",.ref d),("next_number",.int nn),("next_token",.int nt),("moment",.int mo)]
def iO (ps:List Addr) (cs:List Pc):List (bZ × V):=(cs.zip ps).map λx=>((Sum.inl x.1.n:bZ),V.ref x.2)
structure fM (CB CP:Addr) (H:Hp) (b pw sh d:Addr) (sp ev le nn nt mo:Int) (ps:List Addr) (cs:List Pc):Prop where
 ob:∃dx,H b=some (.ins CB dx (bf pw sh d sp ev le nn nt mo))
 dc:H d=some (.dK (iO ps cs))
 pc:Paired (fL CP H) ps cs
def cQ {C:Addr} {H H':Hp} {ps:List Addr} {cs:List Pc} (e:eB H H') (h:Paired (fL C H) ps cs):Paired (fL C H') ps cs:=aK (λ_ _ x=>x.sameT e) h
def fM.sameT {i a:Addr} {H H':Hp} {b pw sh d:Addr} {sp f g nn nt mo:Int} {ps:List Addr} {cs:List Pc} (e:eB H H') (h:fM i a H b pw sh d sp f g nn nt mo ps cs):fM i a H' b pw sh d sp f g nn nt mo ps cs:=by
 let ((k,l),j,m):=h;exact {{k,e.at l},e.at j,cQ e m}
def Of {C:Addr} {H:Hp} {ps:List Addr} {cs:List Pc} (h:Paired (fL C H) ps cs):(iO ps cs).map (·.2)=ps.map V.ref:=by
 unfold iO;rw [B0];let e:(cs.zip ps).map (·.2)=ps:=O8 (D4 h.length)
 conv=>rhs;rw [<- e]
 rw [B0];rfl
def jZ {C:Addr} {H:Hp} {ps:List Addr} {cs:List Pc} (h:Paired (fL C H) ps cs):(iO ps cs).length=cs.length:=by
 unfold iO;rw [g7,C5,h.length];omega
def uR {ps:List Addr} {cs:List Pc} {i:Nat} {e:bZ × V} (h:(iO ps cs)[i]?=some e):∃c p,cs[i]?=some c/\ps[i]?=some p/\e=(Sum.inl c.n,.ref p):=by
 unfold iO at h;rw [i8] at h;cases hz:(cs.zip ps)[i]? with
 | none=>rw [hz] at h;cases h
 | some x=>
  rw [hz] at h;cases h;let (b,a):=A7.mp hz;exact {_,_,b,a,rfl}
def dR {α β:Type} {F:α->β->Prop} {xs:List α} {ys:List β} (p:Paired F xs ys) (z:β × α) (a:z ∈ ys.zip xs):F z.2 z.1:=by
 induction p with
 | nil=>cases a
 | cons r _ t=>
  cases a with
  | head=>exact r
  | tail _ h=>exact t h
theorem fV {α β:Type} {F:α->β->Prop}:∀{L:List (β × α)},(∀z ∈ L,F z.2 z.1)->Paired F (L.map (·.2)) (L.map (·.1))
 | [],_=>.nil
 | z::L,h=>.cons (h z (i0 ..)) (fV λq a=>h q (d0 _ a))
def GE {C:Addr} {H:Hp} {ps:List Addr} {cs:List Pc} {ys:List V} (h:Paired (fL C H) ps cs) (b:Qd (cs.map Pc.l) (ps.map V.ref) ys):∃(a:List Addr) (cs':List Pc),ys=a.map V.ref/\cs'.Perm cs/\cs'.Pairwise (λx y=>x.l<=y.l)/\∀d,Paired (fL C d) ps cs->Paired (fL C d) a cs':=by
 let (L,g,rfl,f):=b;let j:(cs.map Pc.l).zip (ps.map V.ref)=(cs.zip ps).map λx=>(x.1.l,V.ref x.2):=by
  rw [List.zip_map];rfl
 rw [j] at g;let (M,e,rfl):=pG _ g;refine {M.map (·.2),M.map (·.1),by rw [B0,B0];rfl,?_,?_,λd k=>fV λz i=>dR k z (e.mem_iff.mp i)}
 ·have:=e.map (·.1);rwa [List.map_fst_zip (D4 h.length.symm)] at this
 ·rw [List.pairwise_map] at f ⊢;exact f
def IU:Expr:=match bV lD with
 | [.Return (some (.ListComp _ [⟨_,.Call _ _ [⟨_,e,_⟩] _,_,_⟩] _ _)) _]=>e
 | _=>.Constant .none 0 ⟨0,0,0,0⟩
def uG:Pos:=IU.pos
abbrev kK:Str:="Book.pieces.<locals>.<lambda>"
def iD (H:Hp) (v:V) (c:Pc):Prop:=∃t lv,v=.ref t/\H t=some (.tup [.int c.n,.int c.l,.int c.h,.int c.m,lv])/\kF H lv c.o
def kF.move {H H':Hp} {a:V} {o:Option (Int × Str × Int)} (f:∀q b,H q=some (.tup b)->H' q=some (.tup b)) (x:kF H a o):kF H' a o:=by
 cases a <;> cases o <;> first|exact x|exact f _ _ x
def iD.same {H H':Hp} {v:V} {c:Pc} (e:aM H H') (h:iD H v c):iD H' v c:=by
 let (t,f,d,a,b):=h;exact {t,f,d,e _ _ a,b.sameT (aM.toT e)}
def eB.free {H H':Hp} (e:eB H H') {a:Addr} (h:H' a=none) (d:∀b,H a≠some (.tbl b)):H a=none:=by
 cases q:H a with
 | none=>rfl
 | some o=>
  rcases e a o q with ⟨b,rfl⟩|z
  ·exact absurd q (d b)
  ·rw [h] at z;cases z
inductive Gz (CB CP T:Addr) (vs:List V) (H:Hp) (Q:VK) (E0_:XK):Prop|mk (b pw sh d:Addr) (sp ev le nn nt mo:Int) (ps:List Addr) (cs:List Pc) (_:vs=[.ref b]) (_:fM CB CP H b pw sh d sp ev le nn nt mo ps cs) (_:cs.length<128) (_:kC H T uG kK) (_:∀(r:Addr) (H':Hp) (rs:List V) (cs':List Pc),cY T H H'->H r=none->kC H' T uG kK->H' r=some (.lst rs)->cs'.Perm cs->cs'.Pairwise (λx y=>x.l<=y.l)->Paired (iD H') rs cs'->Q (.ref r) H')
def Il (CB CP T:Addr):Sp:=Gz CB CP T
def Je:aJ ["self"] ["self"] (aG lD):={rfl,rfl,rfl,⋯,rfl,⋯,⋯}
def Fh (W:Wd P w K mg base N c):dZ P w K mg base cX N.CB "pieces" 4 (Il N.CB N.CP N.T2):=W.d50.of λ{f _ c} F hT=>by
 refine F.ok Je (λvs H Q E h=>?_) (λA outer s H vs Q E hr h=>?_)
 ·let (b,pw,sh,d,sp,ev,le,nn,nt,mo,ps,cs,rfl,_):=h
  rfl
 ·intro X D
  let (b,pw,sh,d,sp,ev,le,nn,nt,mo,ps,cs,rfl,hb,lc,tb,t):=h
  let hr1:Room 1 (A.deeper (PyProof.Rows.envOfC "Book.pieces" (aG lD) s.heap.objs.size f (.ref c))):=hr.mono (by decide)
  refine {_,aH (bB (dM (NB:=["piece"]) (n:=1) (js:=[]) (g:=cS 0) (cl:=[]) rfl ⋯ ⋯ rfl (mZ.all {(rfl),rfl,rfl,rfl}).2.2.2.1
   (iF (Ld rfl (by rfl) W.G.sorted xV (aA (nY (aV (pv 0) rfl)) aE) (nV (Lf (q:=kK) (clos:=[]) rfl hT W.M rfl rfl rfl trivial) uC)))
   (λ_ s H fp pn=>aW (i:=0) AL rfl (j5 rfl) (.inr rfl)) (λ_ s H fp pn=>eC) (λ_ s H fp pn=>bT (pv 0) W.P.cl (Lz W) hr1 aN))),?_}
  let sl:sizeLine=16777216:=sizeLine_eq
  let ((dx,hbo),hdc,hpc):=id hb
  refine {_,rfl,b,N.CB,dx,_,_,rfl,hbo,W.B.cl,W.B.nB,rfl,.inr (.inr (.inl {rfl,.inl {_,hdc}})),d,_,rfl,rfl,hdc,λv nv=>?_}
  let s1:aM H (aR H v (eL v d)):=aI nv
  let e1:(aR H v (eL v d)) v=some (eL v d):=aB
  generalize aR H v (eL v d)=H1 at s1 e1 ⊢
  let tb1:=tb.same s1
  refine {tb1,λg c' ctv H2 kt nf tb2 hc2 hf2=>?_}
  let s2:eB H1 H2:=by
   let (qs,e,_):=tb1;exact kt.toT e
  let t2:eB H H2:=(aM.toT s1).trans s2;let nT:∀a,H2 a=none->H a=none:=λa h=>by
   refine eB.free t2 h λqs z=>?_;let (rs,e,_):=tb2;by_cases y:a=N.T2
   ·rw [y,e] at h;cases h
   ·have:=kt _ _ y (s1 _ _ z);rw [h] at this;cases this
  let hp2:=cQ t2 hpc;refine {v,d,g,iO ps cs,cs.map Pc.l,λH'=>aM H2 H',rfl,rfl,s2.at e1,s2.at (s1 _ _ hdc),aM.refl _,by rw [jZ hpc,g7],by rw [jZ hpc];exact lc,λi e k he hk=>?_,λl ys H3 (j:aM H2 H3) nl bk=>?_}
  ·let (pc,p,h1,h2,rfl):=uR he;let (pc',h1',lv,(dp,hat),hld):=aQ hp2 h2;rw [h1] at h1';cases h1';rw [i8,h1] at hk;cases hk;refine Di (k:=0) (N:=["piece"]) (p:="piece") (J:=λH'=>aM H2 H') (tb:=Ig K (iL 0) "low") (λH' j=>j _ _ hf2) (λH' j=>j _ _ hc2) id (hr.in1).in1 ?S ?B ?body ?J
   case S=>exact {rfl,rfl,rfl,⋯,rfl,⋯,⋯}
   case B=>exact λu=>rfl
   case body=>exact λs' H' hr'=>aV (pv 0) rfl
   intro H' (j:aM H2 H');exact {_,rfl,p,N.CP,dp,_,_,rfl,j _ _ hat,W.P.cl,W.P.nL,rfl,rfl,j}
  ·rw [Of hpc] at bk;let (ps',cs',rfl,pm,so,mv):=GE hpc bk;let lp:ps'.length=cs'.length:=(mv H hpc).length;let lc':cs'.length=cs.length:=pm.length_eq;refine {l,rfl,{_,dD.of aB},λacc hacc=>?_};let s4:aM H3 (aR H3 l (.lst (ps'.map V.ref))):=aI nl;let e4:(aR H3 l (.lst (ps'.map V.ref))) l=some (.lst (ps'.map V.ref)):=aB;generalize aR H3 l (.lst (ps'.map V.ref))=H4 at s4 e4 hacc ⊢;let j4:aM H2 H4:=j.trans s4;let hp4:=mv H4 (cQ (t2.trans (aM.toT j4)) hpc);refine {λi m zs H'=>m=ps'.length-i/\i<=ps'.length/\aM H4 H'/\H' acc=some (.lst zs)/\Paired (iD H') zs (cs'.take i),{_,rfl,i5 _,aI hacc,aB,.nil},?_};rintro i m zs H' ⟨rfl,hi,sm,hA,rows⟩;refine {hA,?_};by_cases hlt:i<ps'.length
   ·refine .inr {{_,_,dD.of (sm _ _ e4),c7 (by rw [g7];exact hlt)},?_};rintro y H'' ⟨rfl,hy⟩;let ey:=hy _ (dD.of (sm _ _ e4));rw [i8,c7 hlt] at ey;cases ey;let (pc,hpc',lv,(dp,hat),hld):=aQ hp4 (c7 hlt);refine {rfl,?_};refine eM ?_;refine cW ?_;refine {_,rfl,_,dp,_,rfl,sm _ _ hat,rfl,_,_,_,_,_,lv,rfl,{dp,sm _ _ hat},λq nq=>?_};let s5:aM H'' (aR H'' q (.tup [.int pc.n,.int pc.l,.int pc.h,.int pc.m,lv])):=aI nq;let e5:(aR H'' q (.tup [.int pc.n,.int pc.l,.int pc.h,.int pc.m,lv])) q=some (.tup [.int pc.n,.int pc.l,.int pc.h,.int pc.m,lv]):=aB;generalize aR H'' q (.tup [.int pc.n,.int pc.l,.int pc.h,.int pc.m,lv])=H5 at s5 e5 ⊢;let hA5:=s5 _ _ hA;let lz:zs.length=i:=by
     have:=rows.length;rw [l0] at this;omega
    refine {hA5,∎,_,?_,rfl,hlt,?_,aB,?_}
    ·omega
    ·intro b o z;rw [aC (aD z hacc)];exact s5 _ _ (sm _ _ z)
    ·let kp:∀v c,iD H'' v c->iD (aR H5 acc (.lst (zs++[.ref q]))) v c:=λv c ⟨t',lv',h1,h2,h3⟩=>by
      let nt:t'≠acc:=aL (s5 _ _ h2) hA5 (by intro z;cases z);exact {t',lv',h1,by rw [aC nt];exact s5 _ _ h2,h3.move λq' ys h=>by rw [aC (aL (s5 _ _ h) hA5 (by intro z;cases z))];exact s5 _ _ h}
     rw [A3,hpc'];refine cR (aK (λv c=>kp v c) rows) ?_;let nq':q≠acc:=aL e5 hA5 (by intro z;cases z);exact {q,lv,rfl,by rw [aC nq'];exact e5,hld.move λq' ys h=>by rw [aC (aD h hacc)];exact s5 _ _ (sm _ _ h)}
   ·refine .inl {{_,dD.of (sm _ _ e4),by rw [g7];omega},?_};let ei:cs'.take i=cs':=p8 ∎;rw [ei] at rows;refine t acc H' zs cs' ((cY.pre s1 kt).same (j4.trans sm)) (nT _ (j4.free hacc)) (tb2.same (j4.trans sm)) hA pm so rows
inductive yC (vs:List V) (H:Hp) (Q:VK) (E0_:XK):Prop|mk (a b c:Int) (_:vs=[.int a,.int b,.int c]) (_:1<=a) (_:1<=b) (_:1<=c) (_:b<=c) (_:∀H',aM H H'->Q .non H')
def yT:Sp:=yC
def Up {pw sh d:Addr} {sp e b nn nt mo a:Int}:cN "next_number" (.int a) (bf pw sh d sp e b nn nt mo)=bf pw sh d sp e b a nt mo:=rfl
def Og {C:Addr} {H:Hp} {ps:List Addr} {cs:List Pc} {p:Addr} {c:Pc} (h:Paired (fL C H) ps cs):iO (ps++[p]) (cs++[c])=iO ps cs++[(Sum.inl c.n,.ref p)]:=by
 unfold iO;rw [List.zip_append h.length.symm,n6];rfl
inductive BQ (CB CP:Addr) (vs:List V) (H:Hp) (Q:VK) (E0_:XK):Prop|mk (b pw sh d:Addr) (sp ev le nn nt mo l h:Int) (ps:List Addr) (cs:List Pc) (_:vs=[.ref b,.int l,.int h]) (_:fM CB CP H b pw sh d sp ev le nn nt mo ps cs) (_:(∀c ∈ cs,c.n<nn)) (_:cs.length<1000) (_:∀(p:Addr) (H':Hp),(∀a o,H a=some o->a≠b->a≠d->H' a=some o)->H p=none->fM CB CP H' b pw sh d sp ev le (nn+1) nt mo (ps++[p]) (cs++[⟨nn,l,h,l,none⟩])->Q (.ref p) H')
def EC (CB CP:Addr):Sp:=BQ CB CP
def vR:aJ ["span","every","least","bound"] ["span","every","least"] (aG Ci):={rfl,rfl,rfl,⋯,rfl,⋯,⋯}
def wW (W:Wd P w K mg base N c):jM P w K mg base cX "check_bounds" 2 yT:=W.d9.of λF=>by
 refine F.ok vR (λl H Q E h=>?_) (λk A f s H l Q E p h=>?_)
 ·let (a,b,c,rfl,_):=h
  rfl
 ·intro X D
  let (a,b,c,rfl,m,j,o,I,t):=h
  refine {_,aF (eJ v4 rfl (fY (cE (aA (pv 0) (aA (pv 1) (aA (pv 2) aE))))) (aW (i:=3) vR.nd rfl (j5 rfl))
   (aH (bQ (PW.pt (eN (cC (bY (aS (dI W) p aN (aA (pv 3) aE)))) (dP (cH iJ (pv 3) aX (bO _))))) cU aY)))
   (aH (bQ (cH iJ (pv 2) (pv 1) (bO _)) cU aY)),?_}
  refine {_,rfl,_,rfl,_,rfl,by show 3<=sizeLine;decide,λr B=>?_}
  have g:aM H (aR H r (.tup [.int a,.int b,.int c])):=aI B
  have e:(aR H r (.tup [.int a,.int b,.int c])) r=some (.tup [.int a,.int b,.int c]):=aB
  generalize aR H r (.tup [.int a,.int b,.int c])=q at g e ⊢
  have x:∀v ∈ [V.int a,.int b,.int c],∃i,v=.int i/\1<=i:=bA {_,rfl,m} (bA {_,rfl,j} (bA {_,rfl,o} cL))
  refine {r,rfl,{_,cA.of e},lL (K:=K) (a:=r) (xs:=[V.int a,.int b,.int c]) (λi σ G=>G=q/\∃u,σ=[some (.int a),some (.int b),some (.int c),u]) {rfl,_,rfl} (λi σ G _ h=>by rw [h.1];exact cA.of e) ?_ ?_}
  ·rintro i y σ G n ⟨rfl,u,rfl⟩
   let (z,rfl,C):=x y (i6 n)
   refine lK ?_
   refine {_,rfl,_,rfl,.kn (.int z),_,rfl,cO ?_}
   refine {_,rfl,_,_,rfl,rfl,_,rfl,?_}
   exact gQ (λd=>absurd d (by simp;omega)) λ_=>{rfl,_,rfl}
  ·rintro σ G ⟨rfl,u,rfl⟩
   refine {_,rfl,_,rfl,_,_,rfl,rfl,_,rfl,?_}
   exact gQ (λd=>absurd d (by simp;omega)) λ_=>t _ g
def Wi:aJ ["self","low","high","piece"] ["self","low","high"] (aG Jz):={rfl,rfl,rfl,⋯,rfl,⋯,⋯}
def Me (W:Wd P w K mg base N c):dZ P w K mg base cX N.CB "new_piece" 3 (EC N.CB N.CP):=W.d61.of λ{f _} F=>by
 let (_,_,_,GI,bI,MK):=(Mb W).mk' W.iP 1
 refine F.ok Wi (λvs H Q E h=>?_) (λO A U s H vs Q E hr h=>?_)
 ·let (b,pw,sh,d,sp,ev,le,j,nt,mo,l,G,ps,cs,rfl,_):=h
  rfl
 ·intro X D
  let (b,pw,sh,d,sp,ev,le,j,nt,mo,l,G,ps,cs,rfl,hb,lt,ln,t):=h
  let hu:(A.deeper (PyProof.Rows.envOfC "Book.new_piece" (aG Jz) s.heap.objs.size f O)).units+1<cLine:=by have:=hr.un;omega
  refine {_,aF (eI (i:=3) Wi.nd rfl (j5 rfl) (jU MK GI hr rfl W.P.mgC bI .nil aN (aA (aV (pv 0) rfl) (aA (pv 1) (aA (pv 2) aE)))))
   (aF (Cm hu (aV (pv 0) rfl) (aV (pv 3) rfl) (pv 3) rfl)
   (aF (fU (pv 0) aX pZ) (aH (bB (pv 3))))),?_}
  let sl:sizeLine=16777216:=sizeLine_eq
  let ((C,g),m,y):=id hb
  refine {_,rfl,b,N.CB,C,_,_,rfl,g,W.B.cl,W.B.nN,rfl,_,rfl,_,rfl,λx r J ny ne=>{x,r,j,l,G,rfl,aB,rfl,?_}}
  rw [bS]
  let u:∀a o,H a=some o->(aR (aR H r (.own x)) x (.ins N.CP r (pf j l G l .non))) a=some o:=λa o e=>by
   rw [aC (aD e J),aC (aD e ny)]
   exact e
  let M:(aR (aR H r (.own x)) x (.ins N.CP r (pf j l G l .non))) x=some (.ins N.CP r (pf j l G l .non)):=aB
  generalize aR (aR H r (.own x)) x (.ins N.CP r (pf j l G l .non))=H2 at u M ⊢
  refine {_,rfl,_,rfl,b,N.CB,C,_,_,rfl,u _ _ g,W.B.cl,W.B.nB,rfl,_,rfl,x,N.CP,r,_,_,rfl,M,W.P.cl,W.P.nN,rfl,d,_,rfl,Hh.k (k:=(Sum.inl j:bZ)) (u _ _ m) (by rw [jZ y];omega),?_}
  rw [wE _ (jO.mpr λe he=>?_)]
  rotate_left
  ·let (i,hi):=A1.mp he
   let (c,p,h1,_,rfl):=uR hi
   have:=lt c (i6 h1)
   intro z
   let z:(Sum.inl c.n:bZ)=Sum.inl j:=z
   cases z
   omega
  let v:b≠d:=aL g m (by intro z;cases z)
  let S:b≠x:=aD g J
  let T:d≠x:=aD m J
  refine {_,rfl,b,N.CB,C,_,_,rfl,(by rw [aC v];exact u _ _ g),W.B.cl,W.B.nN,rfl,_,_,rfl,rfl,C,_,(by rw [aC v];exact u _ _ g),(by show 9<1000;decide),?_}
  let I:∀a o,H2 a=some o->a≠b->a≠d->(aR (aR H2 d (.dK (iO ps cs++[((Sum.inl j:bZ),V.ref x)]))) b (.ins N.CB C (cN "next_number" (.int (j+1)) (bf pw sh d sp ev le j nt mo)))) a=some o:=λa o e L Z=>by
   rw [aC L,aC Z]
   exact e
  refine {_,rfl,t x _ (λa o e L Z=>I a o (u a o e) L Z) J {{C,by rw [aB,Up]},by rw [aC v.symm,aB,Og y],?_}}
  refine cR (aK (λp c ⟨lv,⟨dp,ha⟩,hl⟩=>?_) y) {.non,{r,I _ _ M S.symm T.symm},trivial}
  let Y:p≠b:=λz=>by
   subst z
   rw [g] at ha
   have:=Option.some.inj ha
   injection this with _ _ e
   exact absurd e (by intro z;cases z)
  exact {lv,{dp,I _ _ (u _ _ ha) Y (aL ha m (by intro z;cases z))},hl.move λq ys h=>I _ _ (u _ _ h) (aL h g (by intro z;cases z)) (aL h m (by intro z;cases z))}
def uF:Nat->Lm.Ps->List Pc
 | _,[]=>[]
 | k,q::t=>⟨k,q.1,q.2,q.1,none⟩::uF (k+1) t
theorem wJ:∀(t:Lm.Ps) (k:Nat) (q:Int × Int),uF k (t++[q])=uF k t++[{((k+t.length:Nat):Int),q.1,q.2,q.1,none}]
 | [],k,q=>rfl
 | p::t,k,q=>by
  show _::uF (k+1) (t++[q])=_::(uF (k+1) t++_)
  rw [wJ t (k+1) q]
  let e:k+1+t.length=k+(p::t).length:=by rw [j9];omega
  rw [e]
theorem Cu:∀(t:Lm.Ps) (k:Nat),(uF k t).length=t.length
 | [],_=>rfl
 | p::t,k=>by
  show (uF (k+1) t).length+1=t.length+1
  rw [Cu t]
theorem Ll:∀(t:Lm.Ps) (k:Nat),∀c ∈ uF k t,c.n<((k+t.length:Nat):Int)
 | [],_,c,hc=>absurd hc (by simp [uF])
 | p::t,k,c,hc=>by
  rcases g8.mp hc with rfl|hc
  ·show (k:Int)<_
   rw [j9]
   omega
  ·have:=Ll t (k+1) c hc
   rw [j9]
   omega
inductive Pp (CB CS CP:Addr) (vs:List V) (H:Hp) (Q:VK) (E0_:XK):Prop|mk (p dx q:Addr) (a:Lm.Ps) (sp ev le:Int) (_:vs=[.ref p,.ref q,.int sp,.int ev,.int le]) (_:H p=some (.ins CB dx [])) (_:bN H q a) (_:Lm.Wk a) (_:a.length<=900) (_:1<=sp) (_:1<=ev) (_:1<=le) (_:ev<=le) (_:∀(sh spw sd d:Addr) (ws:Lm.Ps) (ps:List Addr) (H':Hp),(∀b o,H b=some o->b≠p->H' b=some o)->H d=none->H sd=none->sd≠d->cM CS H' sh spw sd ws []->Lm.Sh ws->(∀x,Lm.mem ws x↔Lm.mem a x)->ws.length<=a.length ->
  (∀r ∈ ps,H r=none)->fM CB CP H' p q sh d sp ev le a.length 0 0 ps (uF 0 a)->Q .non H')
def Qy (CB CS CP:Addr):Sp:=Pp CB CS CP
abbrev w4 (q:Addr) (sp ev le:Int):List (Str × V):=[("work",.ref q),("span",.int sp),("every",.int ev),("least",.int le)]
def f4 {q:Addr} {sp b a:Int}:cN "least" (.int a) (cN "every" (.int b) (cN "span" (.int sp) (cN "work" (.ref q) [])))=(w4 q sp b a):=rfl
def f9 {q sh d:Addr} {sp b a:Int}:cN "moment" (.int 0) (cN "next_token" (.int 0) (cN "next_number" (.int 0) (cN "by_number" (.ref d) (cN "sheet" (.ref sh) (w4 q sp b a)))))=bf q sh d sp b a 0 0 0:=rfl
def tU:aJ ["self","work","span","every","least","low","high"] ["self","work","span","every","least"] (aG pA):={rfl,rfl,rfl,⋯,rfl,⋯,⋯}
def wQ (W:Wd P w K mg base N c):dZ P w K mg base cX N.CB "__init__" 8 (Qy N.CB N.CS N.CP):=W.d43.of λ{f _} F=>by
 let (_,_,_,GI,bI,MK):=(Tg W).mk' W.iS 6
 refine F.ok tU (λvs H Q E h=>?_) (λZ A ac s H vs Q E hr h=>?_)
 ·let (p,g,q,a,k,l,j,rfl,_):=h
  rfl
 ·intro X D
  let (p,g,q,a,k,l,j,rfl,hp,hw,wa,la,b1,b2,b3,b4,t):=h
  let ae:Room 2 (A.deeper (PyProof.Rows.envOfC "Book.__init__" (aG pA) s.heap.objs.size f Z)):=hr.mono (by decide)
  let ah:Room 3 (A.deeper (PyProof.Rows.envOfC "Book.__init__" (aG pA) s.heap.objs.size f Z)):=hr.mono (by decide)
  let aa:Room 4 (A.deeper (PyProof.Rows.envOfC "Book.__init__" (aG pA) s.heap.objs.size f Z)):=hr.mono (by decide)
  refine {_,aF (cJ (aS (pO W) aa aN (aA (pv 1) aE)))
   (aF (cJ (aS (wW W) ae aN (aA (pv 2) (aA (pv 3) (aA (pv 4) aE)))))
   (aF (cD (pv 0) (pv 1) rfl) (aF (cD (pv 0) (pv 2) rfl) (aF (cD (pv 0) (pv 3) rfl) (aF (cD (pv 0) (pv 4) rfl)
   (aF (cD (pv 0) (jU MK GI hr rfl W.S.mgC bI .nil aN (aA (pv 1) aE)) rfl)
   (aF (cD (pv 0) wH rfl) (aF (cD (pv 0) aX rfl) (aF (cD (pv 0) aX rfl) (aF (cD (pv 0) aX rfl)
   (aH (eJ v4 rfl (fY (pv 1)) (fZ (n:=2) rfl (bH (aW (i:=5) tU.nd rfl (j5 rfl)) (bH (aW (i:=6) tU.nd rfl (j5 rfl)) eO)))
    (aH (cJ (bE (pv 0) W.B.cl (Me W) ah aN (aA (pv 5) (aA (pv 6) aE))))))))))))))))),?_}
  let sl:sizeLine=16777216:=sizeLine_eq
  refine {_,rfl,q,a,rfl,hw,wa,∎,?_}
  refine {_,rfl,_,rfl,_,rfl,k,l,j,rfl,b1,b2,b3,b4,λH1 s1=>?_}
  refine {_,rfl,_,rfl,p,N.CB,g,_,rfl,s1 _ _ hp,W.B.cl,W.B.nW,(by show 0<1000;decide),?_}
  refine {_,rfl,_,rfl,p,N.CB,g,_,rfl,aB,W.B.cl,W.B.nS,(by show 1<1000;decide),?_}
  refine {_,rfl,_,rfl,p,N.CB,g,_,rfl,aB,W.B.cl,W.B.nE,(by show 2<1000;decide),?_}
  refine {_,rfl,_,rfl,p,N.CB,g,_,rfl,aB,W.B.cl,W.B.nL,(by show 3<1000;decide),?_}
  rw [bS,bS,bS,f4]
  let k2:∀b o,H b=some o->b≠p->(aR H1 p (.ins N.CB g (w4 q k l j))) b=some o:=λb o e n=>by rw [aC n];exact s1 _ _ e
  let e2:(aR H1 p (.ins N.CB g (w4 q k l j))) p=some (.ins N.CB g (w4 q k l j)):=aB
  let n2:∀b,(aR H1 p (.ins N.CB g (w4 q k l j))) b=none->H b=none:=λb e=>by
   cases z:H b with
   | none=>rfl
   | some o=>
    by_cases y:b=p
    ·rw [y,aB] at e
     cases e
    ·rw [k2 b o z y] at e
     cases e
  generalize aR H1 p (.ins N.CB g (w4 q k l j))=H2 at k2 e2 n2 ⊢
  let a3:bN H2 q a:=by
   let (xs,J,x2):=hw;refine {xs,k2 _ _ J (aL J hp (by intro z;cases z)),aK (λv r ⟨b,z1,z2⟩=>{b,z1,k2 _ _ z2 (aL z2 hp (by intro z;cases z))}) x2}
  refine {_,rfl,λx dy nx ny ne=>{x,dy,q,a,rfl,aB,?_,wa,∎,λa7 sd ws L a9 S sh mm ll kp=>{rfl,?_}}}
  ·exact a3.same λb o e=>by rw [aC (aD e nx),aC (aD e ny)];exact e
  let k3:∀b o,H2 b=some o->L b=some o:=λb o e=>kp b o (by rw [aC (aD e nx),aC (aD e ny)];exact e) (aD e nx);let a6:H2 sd=none:=by
   cases z:H2 sd with
   | none=>rfl
   | some o=>
    rw [aC (aD z nx),aC (aD z ny),z] at a9;cases a9
  let a2:=a3.same k3;refine {_,rfl,p,N.CB,g,_,rfl,k3 _ _ e2,W.B.cl,W.B.nH,(by show 4<1000;decide),?_};intro d nd;let U:p≠d:=λz=>by
   rw [<- z,aB] at nd;cases nd
  let m:L d=none:=by rw [aC U.symm] at nd;exact nd
  let a0:H2 d=none:=by
   cases z:H2 d with
   | none=>rfl
   | some o=>rw [k3 _ _ z] at m;cases m
  refine {_,rfl,p,N.CB,g,_,rfl,(by rw [aC U];exact aB),W.B.cl,W.B.nB,(by show 5<1000;decide),?_};refine {_,rfl,p,N.CB,g,_,rfl,aB,W.B.cl,W.B.nN,(by show 6<1000;decide),?_};refine {_,rfl,p,N.CB,g,_,rfl,aB,W.B.cl,W.B.nT,(by show 7<1000;decide),?_};refine {_,rfl,p,N.CB,g,_,rfl,aB,W.B.cl,W.B.nM,(by show 8<1000;decide),?_};rw [bS,bS,bS,f9];let k5:∀b o,L b=some o->b≠p->(aR (aR (aR L p (.ins N.CB g (cN "sheet" (.ref x) (w4 q k l j)))) d (.dK [])) p (.ins N.CB g (bf q x d k l j 0 0 0))) b=some o:=λb o e n=>by
   rw [aC n,aC (aD e m),aC n];exact e
  let e5:(aR (aR (aR L p (.ins N.CB g (cN "sheet" (.ref x) (w4 q k l j)))) d (.dK [])) p (.ins N.CB g (bf q x d k l j 0 0 0))) p=some (.ins N.CB g (bf q x d k l j 0 0 0)):=aB;let d5:(aR (aR (aR L p (.ins N.CB g (cN "sheet" (.ref x) (w4 q k l j)))) d (.dK [])) p (.ins N.CB g (bf q x d k l j 0 0 0))) d=some (.dK []):=by rw [aC U.symm,aB]
  generalize aR (aR (aR L p (.ins N.CB g (cN "sheet" (.ref x) (w4 q k l j)))) d (.dK [])) p (.ins N.CB g (bf q x d k l j 0 0 0))=H5 at k5 e5 d5 ⊢;let C:L p=some (.ins N.CB g (w4 q k l j)):=k3 _ _ e2;let O:sd≠d:=λz=>by
   have:=S.dc;rw [z,m] at this;cases this
  let mv:∀G:Hp,(∀b o,L b=some o->b≠p->b≠d->G b=some o)->bN G q a/\cM N.CS G x a7 sd ws []:=λG I=>by
   let wm:∀r a1,bN L r a1->bN G r a1:=λr a1 ⟨xs,J,x2⟩=>{xs,I _ _ J (aL J C (by intro z;cases z)) (aD J m),aK (λv r ⟨b,z1,z2⟩=>{b,z1,I _ _ z2 (aL z2 C (by intro z;cases z)) (aD z2 m)}) x2};let ((dz,a5),ag,a8):=S;let ai:x≠p:=λz=>by
    rw [z,e2] at nx;cases nx
   exact {wm _ _ a2,{dz,I _ _ a5 ai (aD a5 m)},wm _ _ ag,I _ _ a8 (aL a8 C (by intro z;cases z)) O}
  let (xs,J,x2):=id a2;let lx:xs.length=a.length:=x2.length;refine {_,rfl,q,rfl,{_,cA.of (k5 _ _ J (aL J C (by intro z;cases z)))},lL (K:=K) (a:=q) (xs:=xs) (λi σ G=>(∃T:List Addr,(∀r ∈ T,H r=none)/\fM N.CB N.CP G p q x d k l j i 0 0 T (uF 0 (a.take i)))/\(∀b o,L b=some o->b≠p->b≠d->G b=some o)/\∃u v,σ=[some (.ref p),some (.ref q),some (.int k),some (.int l),some (.int j),u,v])
   {{[],λ_ z=>(nomatch z),{(g),e5},d5,.nil},λb o e n _=>k5 b o e n,_,_,rfl} (λi σ G _ ⟨_,I,_⟩=>cA.of (I _ _ J (aL J C (by intro z;cases z)) (aD J m))) ?_ ?_}
  ·rintro i y σ G hi ⟨⟨T,fp,hb⟩,I,u,v,rfl⟩;let (c,hc,r,rfl,Y):=aQ x2 hi;let il:i<a.length:=(c8.mp hc).1;let lt:(a.take i).length=i:=by rw [l0];omega
   refine {r,_,rfl,cA.of (I _ _ Y (aL Y C (by intro z;cases z)) (aD Y m)),rfl,_,_,rfl,_,_,rfl,rfl,?_};let (dz,a4):=hb.ob;refine {_,rfl,p,dz,_,rfl,a4,rfl,_,rfl,_,rfl,p,q,x,d,k,l,j,_,0,0,c.1,c.2,T,_,rfl,hb,λc' af=>?_,?_,λp' G' kf M ad=>?_}
   ·have:=Ll _ _ c' af;rw [lt] at this;omega
   ·rw [Cu,lt];omega
   ·let hn:H p'=none:=by
     cases e:H p' with
     | none=>rfl
     | some o=>
      by_cases z:p'=p
      ·rw [z,a4] at M;cases M
      ·rw [I _ _ (k3 _ _ (k2 _ _ e z)) z (aD e (n2 _ a0))] at M;cases M
    refine {{T++[p'],λr hr=>(j1.mp hr).elim (fp r) λz=>by rw [l6.mp z];exact hn,?_},λb o e n1 n2=>kf b o (I b o e n1 n2) n1 n2,_,_,rfl};let e:uF 0 (a.take (i+1))=uF 0 (a.take i)++[{(i:Int),c.1,c.2,c.1,none}]:=by
     rw [A3,hc];show uF 0 (a.take i++[c])=_;rw [wJ,lt];simp
    rw [e];exact ad
  ·rintro σ G ⟨⟨T,fp,hb⟩,I,u,v,rfl⟩;rw [lx,p8 (c9 _)] at hb;have:=mv G I;exact t x a7 sd d ws T G (λb o e n=>I b o (k3 _ _ (k2 b o e n)) n (aD (k2 b o e n) a0)) (n2 _ a0) (n2 _ a6) O this.2 sh mm ll fp hb
def Hj (CB:Addr) (H:Hp) (b pw sh d:Addr) (sp ev le nn nt mo:Int):Prop:=∃dx,H b=some (.ins CB dx (bf pw sh d sp ev le nn nt mo))
inductive BP (CB:Addr) (vs:List V) (H:Hp) (Q:VK) (E0_:XK):Prop|mk (b pw sh d:Addr) (sp ev le nn nt mo:Int) (_:vs=[.ref b]) (_:Hj CB H b pw sh d sp ev le nn nt mo) (_:Q (.int mo) H)
def EB (CB:Addr):Sp:=BP CB
inductive BM (CB CS:Addr) (sp':Sp) (vs:List V) (H:Hp) (Q:VK) (E:XK):Prop|mk (b pw sh d pw' d':Addr) (sp ev le nn nt mo:Int) (ws:Lm.Ps) (kvs:List (bZ × V)) (_:vs=[.ref b]) (_:Hj CB H b pw sh d sp ev le nn nt mo) (_:cM CS H sh pw' d' ws kvs) (_:sp' [.ref sh] H Q E)
def Bk (CB CS:Addr) (sp':Sp):Sp:=BM CB CS sp'
inductive Pk (CB:Addr) (vs:List V) (H:Hp) (Q:VK) (E0_:XK):Prop|mk (b pw sh d:Addr) (sp ev le nn nt mo i:Int) (_:vs=[.ref b,.int i]) (_:Hj CB H b pw sh d sp ev le nn nt mo) (_:mo<=i) (_:Q .non H)
def tM (CB:Addr):Sp:=Pk CB
def EL:aJ ["self"] ["self"] (aG Ww):={rfl,rfl,rfl,⋯,rfl,⋯,⋯}
def AD (W:Wd P w K mg base N c):dZ P w K mg base cX N.CB "moment_now" 1 (EB N.CB):=W.d51.of λF=>by
 refine F.ok EL (λl H Q E h=>?_) (λg A a s H l Q E r h=>?_)
 ·let (b,j,e,d,p,m,o,q,i,k,rfl,_):=h
  rfl
 ·intro X D
  let (b,j,e,d,p,m,o,q,i,k,rfl,(n,f),t):=h
  exact {_,aH (bB (aV (pv 0) rfl)),_,rfl,b,N.CB,n,_,_,rfl,f,W.B.cl,W.B.nM,rfl,t}
def Zf:aJ ["self"] ["self"] (aG Kd):={rfl,rfl,rfl,⋯,rfl,⋯,⋯}
def Te {f:Addr} {l:FuncData} {sp':Sp} {k:Nat} (F:tD K "all_results" "Book.all_results" Kd f l) (J:dZ P w K mg base cX N.CS "all_results" k (λa H Q _=>sp' a H Q E0)) (W:Wd P w K mg base N c):bK P w K mg base cX (k+1) f l ["self"] (Bk N.CB N.CS λa H Q _=>sp' a H Q E0):=by
 refine F.ok Zf (λa H Q E h=>?_) (λz A i s H a Q E y h=>?_)
 ·let (b,p,j,d,e,I,x,M,G,r,o,q,C,g,rfl,_):=h;rfl
 ·intro X D;let (b,p,j,d,e,I,x,M,G,r,o,q,C,g,rfl,(v,L),u,t):=h;let (m,n):=u.ob;refine {_,aH (bB (bT (aV (pv 0) rfl) W.S.cl J y aN)),?_};exact {_,rfl,b,N.CB,v,_,_,rfl,L,W.B.cl,W.B.nH,rfl,j,m,_,rfl,n,gK _ _ ⋯ ⋯,t}
def Ru:aJ ["self"] ["self"] (aG Ka):={rfl,rfl,rfl,⋯,rfl,⋯,⋯}
def Ml {sp':Sp} {k:Nat} (G:dZ P w K mg base cX N.CS "left_work" k (λa H Q _=>sp' a H Q E0)) (W:Wd P w K mg base N c):dZ P w K mg base cX N.CB "left_work" (k+1) (Bk N.CB N.CS λa H Q _=>sp' a H Q E0):=W.d53.of λF=>by
 refine F.ok Ru (λa H Q E h=>?_) (λx A g s H a Q E v h=>?_)
 ·let (b,n,i,d,e,C,u,J,z,p,m,o,y,f,rfl,_):=h
  rfl
 ·intro X D
  let (b,n,i,d,e,C,u,J,z,p,m,o,y,f,rfl,(r,I),q,t):=h
  let (j,l):=q.ob
  refine {_,aH (bB (bT (aV (pv 0) rfl) W.S.cl G v aN)),?_}
  exact {_,rfl,b,N.CB,r,_,_,rfl,I,W.B.cl,W.B.nH,rfl,i,j,_,rfl,l,gK _ _ ⋯ ⋯,t}
def EM:aJ ["self","moment"] ["self","moment"] (aG vX):={rfl,rfl,rfl,⋯,rfl,⋯,⋯}
section
variable (W:Wd P w K mg base N c)
include W
def Fj:dZ P w K mg base cX N.CB "left_work" 8 (Bk N.CB N.CS λa H Q _=>yQ N.CS a H Q E0):=Ml (sp':=yQ N.CS) (Ta W) W
end
def rP {H d:Hp} {a:Addr} {o:Obj} {u:HO} (e:H a=some u) (s:aM (aR H a (.frz o u)) d):aM H (aR d a u):=λb v h=>by
 by_cases z:b=a
 ·subst z
  rw [e] at h
  cases h
  exact aB
 ·rw [aC z]
  exact s b v (by rw [aC z];exact h)
def Nu {H:Hp} {a b:Addr} {u o:HO} (e:H a=some u) (n:(aR H a o) b=none):H b=none/\b≠a:=by
 let d:b≠a:=λz=>by
  rw [z,aB] at n;cases n
 rw [aC d] at n;exact {(n),d}
def Pc.free (c:Pc):Bool:=c.o.isNone && !decide (c.m=c.h)
def gY:aJ ["self","moment","piece","free","lent","late"] ["self","moment"] (aG gZ):={rfl,rfl,rfl,⋯,rfl,⋯,⋯}
def eH (x:Str):Prop:=1<=x.length/\x.length<=8/\x.cps.all (·<128)=true/\∀(i:Nat) c,x.cps[i]?=some c->(!decide ((⟨#[c]⟩:Str).cps.toList<("a":Str).cps.toList))=true/\(!decide (("z":Str).cps.toList<(⟨#[c]⟩:Str).cps.toList))=true
def yO:Sp:=λvs H Q _=>∃x,vs=[.str x]/\eH x/\∀H',aM H H'->Q (.bl true) H'
def yS:Sp:=λvs H Q _=>∃x,vs=[.str x]/\eH x/\∀H',aM H H'->Q .non H'
def AK:(["sign"]:List Str).Nodup:=⋯
def Ot:bootBuiltins "str"=some (.type "str"):=⋯
def eT {b:Bool} {A B:Prop} (h:b=true) (x:A):if b=true then A else B:=by rw [if_pos h];exact x
def dC {b:Bool} {A B:Prop} (h:b=false) (x:B):if b=true then A else B:=by rw [if_neg (by rw [h];simp)];exact x
def Jb:aJ ["thing"] ["thing"] (aG Bz):={rfl,rfl,rfl,⋯,rfl,⋯,⋯}
def mO (W:Wd P w K mg base N c):jM P w K mg base cX "is_worker" 1 yO:=W.d10.of λF=>by
 refine F.ok Jb (λI H Q E h=>?_) (λM A k s H I Q E U h=>?_)
 ·let (x,rfl,_):=h
  rfl
 ·intro X D
  let (x,rfl,(T,Y,O,w4),t):=h
  refine {_,aF (bQ (PW.pt (eN (cC (bY (bF dB (by rfl) W.G.isi eW (aA (pv 0) (aA (fQ (v:=.ty "str") (by rfl) W.G.str Ot rfl) aE))))) (dP (cC (iW fO fO aX (bF uS (by rfl) W.G.len PySem.boot_len (aA (pv 0) aE)) aX))))) (aH (bB mM)) aY)
   (aH (bB (bF (qJ rfl) (by rfl) W.G.all qK (aA (dM (NB:=["sign"]) (n:=1) (js:=[]) (g:=cS 0) (cl:=[]) rfl ⋯ ⋯ rfl (mZ.all {(rfl),rfl,rfl,rfl}).2.2.2.1
     (Zs (pv 0)) (λ_ s H u p=>aW (i:=0) AK rfl (j5 rfl) (.inr rfl)) (λ_ s H u p=>eC) (λ_ s H u p=>wI sD sD eP (pv 0) eP)) aE)))),?_}
  let sl:sizeLine=16777216:=sizeLine_eq
  refine {_,rfl,_,_,_,true,rfl,.ty "str",.inl {_,.str x,rfl},_,rfl,?_}
  refine cO ?_
  refine {_,rfl,_,rfl,∎,_,_,rfl,rfl,_,rfl,eT (decide_eq_true ∎) {_,_,rfl,rfl,_,rfl,dC (by rw [decide_eq_true ∎];rfl) ?_}}
  refine {_,rfl,_,rfl,O,λd a=>?_}
  refine {λj r l m=>r=x.length-j/\j<=x.length/\l=(List.replicate j true).map V.bl/\aM H m/\m d=some (.lst l),{_,rfl,i5 _,rfl,aI a,aB},?_}
  rintro j r l m ⟨rfl,Z,rfl,q,f⟩
  refine {f,?_}
  by_cases e:j<x.length
  ·refine .inr {e,?_}
   rintro y C ⟨rfl,c,J,rfl⟩
   let (B,L):=w4 j c J
   refine {rfl,?_}
   refine eM ?_
   refine cW ?_
   refine {_,rfl,_,_,rfl,rfl,_,rfl,eT B {_,_,rfl,rfl,f,by rw [g7,A9];omega,_,?_,rfl,e,?_,λb o z=>?_,aB}}
   ·omega
   ·rw [P8,n6,L]
    rfl
   ·rw [aC (aD z a)]
    exact q _ _ z
  ·refine .inl {by show _<=j;omega,?_}
   refine {d,_,rfl,dD.of f,?_}
   let S:(List.replicate j true).all id=true:=by simp
   rw [S]
   exact t _ q
def Ji:aJ ["worker"] ["worker"] (aG lE):={rfl,rfl,rfl,⋯,rfl,⋯,⋯}
def wV (W:Wd P w K mg base N c):jM P w K mg base cX "check_worker" 2 yS:=W.d11.of λF=>by
 refine F.ok Ji (λe H Q E h=>?_) (λb A a s H e Q E g h=>?_)
 ·let (x,rfl,_):=h
  rfl
 ·intro X D
  let (x,rfl,f,t):=h
  refine {_,aH (bQ (cC (bY (aS (mO W) g aN (aA (pv 0) aE)))) cU aY),?_}
  exact {_,rfl,x,rfl,f,λd i=>{_,rfl,cO (t d i)}}
inductive Uw (CB CP:Addr) (vs:List V) (H:Hp) (Q:VK) (E0_:XK):Prop|mk (b pw sh d:Addr) (sp ev le nn nt mo:Int) (ps:List Addr) (cs:List Pc) (i:Nat) (p:Addr) (c:Pc) (_:vs=[.ref b,.int c.n]) (_:fM CB CP H b pw sh d sp ev le nn nt mo ps cs) (_:ps[i]?=some p) (_:cs[i]?=some c) (_:(cs.map Pc.n).Nodup) (_:Q (.ref p) H)
def Ye (CB CP:Addr):Sp:=Uw CB CP
theorem Dr:∀{ps:List Addr} {cs:List Pc} {i:Nat} {p:Addr} {c:Pc},ps[i]?=some p->cs[i]?=some c->(cs.map Pc.n).Nodup->cZ (iO ps cs) (Sum.inl c.n:bZ)=some (.ref p)
 | [],_,_,_,_,h,_,_=>by simp at h
 | _::_,[],_,_,_,_,h,_=>by simp at h
 | p::ps,c::cs,0,_,_,h1,h2,_=>by
  cases h1
  cases h2
  exact fE rfl
 | q::ps,e::cs,i+1,p,c,h1,h2,nd=>by
  let (d,a):=C0.mp nd
  have b:c.n ∈ cs.map Pc.n:=List.mem_map_of_mem (i6 (by simpa using h2))
  show cZ ((Sum.inl e.n,V.ref q)::iO ps cs) _=_
  rw [fF (λz=>d (by have z:e.n=c.n:=Sum.inl.inj z;rw [z];exact b))]
  exact Dr (by simpa using h1) (by simpa using h2) a
def Yw:aJ ["self","number"] ["self","number"] (aG zB):={rfl,rfl,rfl,⋯,rfl,⋯,⋯}
def Cw (W:Wd P w K mg base N c):dZ P w K mg base cX N.CB "piece_with" 2 (Ye N.CB N.CP):=W.d59.of λ{f _} F=>by
 refine F.ok Yw (λC H Q E h=>?_) (λj A l s H C Q E o h=>?_)
 ·let (b,u,z,d,I,O,J,y,r,v,S,T,i,p,c,rfl,_):=h
  rfl
 ·intro X D
  let (b,u,z,d,I,O,J,y,r,v,S,T,i,p,c,rfl,M,U,G,x,t):=h
  let q:(A.deeper (PyProof.Rows.envOfC "Book.piece_with" (aG zB) s.heap.objs.size f j)).units+1<cLine:=by have:=o.un;omega
  let ((m,a),e,L):=id M
  refine {_,aF (bQ (PW.pt (eN (cC (bY (aS (dI W) o aN (aA (pv 1) aE)))) (dP (Kw (Fd q (pv 1) (aV (pv 0) rfl)))))) cU aY) (aH (bB (Ct q (aV (pv 0) rfl) (pv 1) (λ_ _=>rfl)))),?_}
  let g:=kI.k (k:=(Sum.inl c.n:bZ)) e
  rw [Dr U G x] at g
  refine {_,rfl,_,rfl,.kn (.int _),_,rfl,cO ?_}
  refine {_,rfl,_,rfl,b,N.CB,m,_,_,rfl,a,W.B.cl,W.B.nB,rfl,d,_,rfl,g,_,rfl,cO ?_}
  exact {_,rfl,b,N.CB,m,_,_,rfl,a,W.B.cl,W.B.nB,rfl,_,rfl,d,_,rfl,g,t}
def Ow {pw sh d:Addr} {sp b a nn nt mo nt':Int}:cN "next_token" (.int nt') (bf pw sh d sp b a nn nt mo)=bf pw sh d sp b a nn nt' mo:=rfl
def sY {pw sh d:Addr} {sp b a nn nt mo mo':Int}:cN "moment" (.int mo') (bf pw sh d sp b a nn nt mo)=bf pw sh d sp b a nn nt mo':=rfl
def Zx {C:Addr} {H:Hp} {p:Addr} {c e:Pc} (g:fL C H p c) (h2:fL C H p e):c.n=e.n:=by
 let (h,(i,a),_):=g;let (d,(f,b),_):=h2;rw [a] at b;have:=Option.some.inj b;injection this with _ _ z;injection z with z _;injection z with _ z;injection z
def kP {C:Addr} {H H':Hp} {ps:List Addr} {cs:List Pc} {k:Nat} {p:Addr} {c c':Pc} (h:Paired (fL C H) ps cs) (r:(cs.map Pc.n).Nodup) (l:ps[k]?=some p) (i:cs[k]?=some c) (u:∀q e,q≠p->fL C H q e->fL C H' q e) (f:fL C H' p c'):Paired (fL C H') ps (cs.set k c'):=by
 refine gO (by rw [L8];exact h.length) λj q e g a=>?_;rw [List.getElem?_set] at a;by_cases z:k=j
 ·subst z;rw [if_pos rfl] at a;rw [l] at g;cases g;split at a
  ·cases a;exact f
  ·cases a
 ·rw [if_neg z] at a;let (D,d,x):=aQ h g;rw [a] at d;cases d;refine u q e (λy=>z ?_) x;subst y;let (v,b,s):=aQ h l;rw [i] at b;cases b;let B:=Zx s x;let t:(cs.map Pc.n)[k]?=some c.n:=by rw [i8,i];rfl
  let m:(cs.map Pc.n)[j]?=some c.n:=by rw [i8,a,B];rfl
  let (E,o):=c8.mp t;let (F,A):=c8.mp m;exact(List.getElem_inj r).mp (o.trans A.symm)
def uQ {ps:List Addr} {cs:List Pc} {k:Nat} {c c':Pc} (g:cs[k]?=some c) (en:c'.n=c.n):iO ps (cs.set k c')=iO ps cs:=by
 unfold iO;refine List.ext_getElem? λj=>?_;rw [i8,i8];by_cases z:k=j
 ·subst z;let i:=(c8.mp g).1;cases hp:ps[k]? with
  | none=>
   let f:((cs.set k c').zip ps)[k]?=none:=A0 (by rw [C5];have:=M2.mp hp;omega);let d:(cs.zip ps)[k]?=none:=A0 (by rw [C5];have:=M2.mp hp;omega);rw [f,d]
  | some p=>
   let f:((cs.set k c').zip ps)[k]?=some (c',p):=A7.mpr {by rw [List.getElem?_set,if_pos rfl,if_pos i],hp};let d:(cs.zip ps)[k]?=some (c,p):=A7.mpr {(g),hp};rw [f,d];show some ((Sum.inl c'.n:bZ),V.ref p)=some (Sum.inl c.n,V.ref p);rw [en]
 ·let e:((cs.set k c').zip ps)[j]?=(cs.zip ps)[j]?:=by
   let h:(cs.set k c')[j]?=cs[j]?:=by rw [List.getElem?_set,if_neg z]
   cases q:(cs.zip ps)[j]? with
   | none=>
    have:=M2.mp q;exact A0 (by rw [C5,L8] at *;exact this)
   | some x=>
    let (a,b):=A7.mp q;exact A7.mpr {h.trans a,b}
  rw [e]
def lY:aJ ["self","worker","moment","chosen","piece","token","until"] ["self","worker","moment"] (aG tV):={rfl,rfl,rfl,⋯,rfl,⋯,⋯}
def Pc.has (c:Pc) (tk:Int):Bool:=c.o.any λt=>decide (t.1=tk)
inductive Vn (CB CP:Addr) (vs:List V) (H:Hp) (Q:VK) (E0_:XK):Prop|mk (b pw sh d:Addr) (sp ev le nn nt mo tk i:Int) (ps:List Addr) (cs:List Pc) (k:Nat) (p:Addr) (c:Pc) (_:vs=[.ref b,.int tk,.int i]) (_:fM CB CP H b pw sh d sp ev le nn nt mo ps cs) (_:mo<=i) (_:0<=tk) (_:tk<nt) (_:ps[k]?=some p) (_:cs[k]?=some c) (_:c.has tk=true) (_:(∀j e,cs[j]?=some e->j<k->e.has tk=false)) (_:∀H',aM H H'->Q (.ref p) H')
def yR (CB CP:Addr):Sp:=Vn CB CP
def Jh:aJ ["self","token","moment","piece"] ["self","token","moment"] (aG Kc):={rfl,rfl,rfl,⋯,rfl,⋯,⋯}
inductive Gy (CB CS CP:Addr) (vs:List V) (H:Hp) (Q:VK) (E0_:XK):Prop|mk (b pw sh d pw' d' nr:Addr) (sp ev le nn nt mo tk i pl:Int) (ps:List Addr) (cs:List Pc) (k:Nat) (p:Addr) (c:Pc) (ws:Lm.Ps) (kvs:List (bZ × V)) (ns:List Int) (_:vs=[.ref b,.int tk,.int pl,.ref nr,.int i]) (_:fM CB CP H b pw sh d sp ev le nn nt mo ps cs) (_:cM CS H sh pw' d' ws kvs) (_:mo<=i) (_:0<=tk) (_:tk<nt) (_:ps[k]?=some p) (_:cs[k]?=some c) (_:c.has tk=true) (_:(∀j e,cs[j]?=some e->j<k->e.has tk=false)) (_:H nr=some (.tup (ns.map V.int))) (_:ns.length<=1000) (_:c.l<=pl) (_:pl<=c.m) (_:pl+ns.length<=c.m+ev) (_:-(2 ^ 61)<=pl) (_:pl<=2 ^ 61) (_:(∀(j:Nat) n,ns[j]?=some n->pl+(j:Int)<c.m->cZ kvs (Sum.inl (pl+(j:Int)):bZ)=some (.int n))) (_:∀H',aM H H'->Q (.ref p) H')
def vK (CB CS CP:Addr):Sp:=Gy CB CS CP
def gX:aJ ["self","token","place","numbers","moment","piece","at","number"] ["self","token","place","numbers","moment"] (aG oY):={rfl,rfl,rfl,⋯,rfl,⋯,⋯}
def Lp {P:Program} {w:World} {X:Cx}:dX (jN P w) X E0:=λ_ _ _ _ _ _ _ h=>by
 let (_,_,_,_,_,_,_,_,_,z):=h
 exact z.elim
def fT (ns:List Int) (lo hi:Option Int):List Int:=(ns.drop (HT.sIx ns.length 0 lo)).take (HT.sIx ns.length ns.length hi-HT.sIx ns.length 0 lo)
def Om (ns:List Int) (lo hi:Option Int):gR (ns.map V.int) lo hi=(fT ns lo hi).map V.int:=by
 unfold gR fT;rw [g7,List.map_take,List.map_drop]
def Nv (ns:List Int) (lo hi:Option Int):(fT ns lo hi).length<=ns.length:=by
 unfold fT;rw [l0,C3];omega
def Pc.told (c:Pc) (n:Int) (u:Int):Pc:={ c with m:=c.m+n,o:=if c.m+n=c.h then none else c.o.map λt=>(t.1,t.2.1,u) }
inductive Uy (CB CS CP:Addr) (vs:List V) (H:Hp) (Q:VK) (E0_:XK):Prop|mk (b pw sh d pw' d' nr:Addr) (sp ev le nn nt mo tk i pl:Int) (ps:List Addr) (cs:List Pc) (k:Nat) (p:Addr) (c:Pc) (ws:Lm.Ps) (kvs:List (bZ × V)) (ns:List Int) (_:vs=[.ref b,.int tk,.int pl,.ref nr,.int i]) (_:fM CB CP H b pw sh d sp ev le nn nt mo ps cs) (_:cM CS H sh pw' d' ws kvs) (_:mo<=i) (_:0<=tk) (_:tk<nt) (_:ps[k]?=some p) (_:cs[k]?=some c) (_:c.has tk=true) (_:(∀j e,cs[j]?=some e->j<k->e.has tk=false)) (_:H nr=some (.tup (ns.map V.int))) (_:ns.length<=1000) (_:c.l<=pl) (_:pl<=c.m) (_:pl+ns.length<=c.m+ev) (_:-(2 ^ 61)<=pl) (_:pl<=2 ^ 61) (_:(∀(j:Nat) n,ns[j]?=some n->pl+(j:Int)<c.m->cZ kvs (Sum.inl (pl+(j:Int)):bZ)=some (.int n))) (_:(cs.map Pc.n).Nodup) (_:d≠d') (_:ws.length<=1000) (_:kvs.length<=1000) (_:(-(2 ^ 61)<=c.m/\c.m+(fT ns (some (c.m-pl)) (some (c.h-pl))).length<=2 ^ 61/\(∃q ∈ ws,q.1<=c.m/\c.m+(fT ns (some (c.m-pl)) (some (c.h-pl))).length<=q.2)/\∀j:Nat,j<(fT ns (some (c.m-pl)) (some (c.h-pl))).length->cZ kvs (Sum.inl (c.m+(j:Int)):bZ)=none)) (_:∀(r:Addr) (H':Hp),(∀a o,H a=some o->a≠b->a≠p->a≠d'->H' a=some o)->fM CB CP H' b pw sh d sp ev le nn nt i ps (cs.set k (c.told (fT ns (some (c.m-pl)) (some (c.h-pl))).length (i+sp))) ->
  cM CS H' sh pw' d' ws (kvs++jG c.m (fT ns (some (c.m-pl)) (some (c.h-pl))) (fT ns (some (c.m-pl)) (some (c.h-pl))).length) ->
  H' r=some (.tup [.int (c.m+(fT ns (some (c.m-pl)) (some (c.h-pl))).length),.int c.h,if c.m+(fT ns (some (c.m-pl)) (some (c.h-pl))).length=c.h then .non else .int (i+sp)])->Q (.ref r) H')
def yP (CB CS CP:Addr):Sp:=Uy CB CS CP
def tS:aJ ["self","token","place","numbers","moment","piece","fresh","until"] ["self","token","place","numbers","moment"] (aG oZ):={rfl,rfl,rfl,⋯,rfl,⋯,⋯}
def Sv {f:Addr} {fd:FuncData} (F:tD K "tell" "Book.tell" oZ f fd) (GT:dZ P w K mg base cX N.CB "piece_to_tell" 4 (vK N.CB N.CS N.CP)) (W:Wd P w K mg base N c):bK P w K mg base cX 5 f fd ["self","token","place","numbers","moment"] (yP N.CB N.CS N.CP):=by
 refine F.ok tS (λvs H Q E h=>?_) (λau A ai s H vs Q E hr h=>?_)
 ·let (b,pw,J,d,a7,d',C,x,ev,le,nn,nt,mo,tk,i,U,ps,cs,k,p,c,ws,L,ns,rfl,_):=h;rfl
 ·intro X D;let (b,pw,J,d,a7,d',C,x,ev,le,nn,nt,mo,tk,i,U,ps,cs,k,p,c,ws,L,ns,rfl,hb,hs,hi,t0,t1,hp,hc,ht,an,hn,ln,p1,p2,p3,p4,p5,ok,nd,ak,lw,lk,(m1,m2,m3,m4),t):=h;let a8:=tS.nd;let cB:=W.B.cl;let cP:=W.P.cl;let nM:=W.P.nM;let nH:=W.P.nH;let nD:=W.P.nD;let nS:=W.B.nS;let av:=W.B.nH;let sl:sizeLine=16777216:=sizeLine_eq;let ((dx,u),Z,af):=id hb;let (c',aa,lv,(y,g),a3):=aQ af hp;rw [hc] at aa;cases aa;refine Wp.ex (cF (n:=5) a8 rfl (jF (vs:=[.int tk,.int U,.ref C,.int i]) (by symm) u W.B.cl GT hr aN (by symm) {b,pw,J,d,a7,d',C,x,ev,le,nn,nt,mo,tk,i,U,ps,cs,k,p,c,ws,L,ns,rfl,hb,hs,hi,t0,t1,hp,hc,ht,an,hn,ln,p1,p2,p3,p4,p5,ok,λH1 s1=>?_}));let ar:=s1 _ _ g;refine cF (n:=6) a8 rfl {_,hU Iu (pv 3) (gF aP) (gF aP),{_,rfl,Vl.to (v:=.int (c.m-U)) (by symm) _ {_,rfl,Vl.to (v:=.int (c.h-U)) (by symm) _ {_,rfl,C,_,rfl,s1 _ _ hn,λq H2 s2 e2=>?_}}}};rw [Om] at e2;let lf:=Nv ns (some (c.m-U)) (some (c.h-U));generalize fT ns (some (c.m-U)) (some (c.h-U))=fr at e2 lf m2 m3 m4 t;let t2:=s1.trans s2;let a6:=hs.same t2;let (dz,hz):=a6.ob;let aq:=t2 _ _ u;let as:=t2 _ _ g;refine nF (jF (vs:=[.int c.m,.ref q]) (by symm) hz W.S.cl (AE W) hr Lp (by symm) {J,a7,d',q,ws,L,c.m,fr,rfl,a6,e2,lw,∎,lk,m1,m2,m3,λ_ H3 e3 k3=>?_,λ⟨j,hj,z⟩=>absurd (m4 j hj) z} (gK _ _ ⋯ ⋯));let I:p≠d':=aL g hs.dc (by intro z;cases z);let a1:b≠d':=aL u hs.dc (by intro z;cases z);let a5:p≠b:=aL g u (by intro z;injection z with _ _ z;injection z with z;injection z with z;exact absurd z ⋯);let a2:=k3 _ _ (t2 _ _ g) I;let ad:=k3 _ _ (t2 _ _ u) a1;let ao:H3 q=some (.tup (fr.map V.int)):=k3 _ _ e2 (aL e2 a6.dc (by intro z;cases z));refine {_,aF (fU (pv 5) (bF cG (by rfl) W.G.len PySem.boot_len (aA (pv 6) aE)) pZ) aU,?_};refine {_,rfl,p,N.CP,y,_,_,rfl,a2,W.P.cl,W.P.nM,rfl,_,rfl,q,_,rfl,.inr (cA.of ao),_,_,rfl,rfl,y,_,a2,(by show 5<1000;decide),?_};rw [Sf,g7];refine dL (p:=b) (v:=.int i) (by symm) (by symm) (by rw [aC a5.symm];exact ad) W.B.cl W.B.nM (by show 9<1000;decide) ?_;rw [sY];generalize hM:c.m+(fr.length:Int)=M at *;let k5:∀a o,H3 a=some o->a≠p->a≠b->(aR (aR H3 p (.ins N.CP y (pf c.n c.l c.h M lv))) b (.ins N.CB dx (bf pw J d x ev le nn nt i))) a=some o:=λa o e n1 n2=>by
   rw [aC n2,aC n1];exact e
  let p5:(aR (aR H3 p (.ins N.CP y (pf c.n c.l c.h M lv))) b (.ins N.CB dx (bf pw J d x ev le nn nt i))) p=some (.ins N.CP y (pf c.n c.l c.h M lv)):=by rw [aC a5,aB]
  let b5:(aR (aR H3 p (.ins N.CP y (pf c.n c.l c.h M lv))) b (.ins N.CB dx (bf pw J d x ev le nn nt i))) b=some (.ins N.CB dx (bf pw J d x ev le nn nt i)):=aB;generalize aR (aR H3 p (.ins N.CP y (pf c.n c.l c.h M lv))) b (.ins N.CB dx (bf pw J d x ev le nn nt i))=Y at k5 p5 b5 ⊢;let f5:∀a o,H a=some o->a≠b->a≠p->a≠d'->Y a=some o:=λa o e n1 n2 n3=>k5 _ _ (k3 _ _ (t2 _ _ e) n3) n2 n1;let O:∀a ys,H a=some (.tup ys)->Y a=some (.tup ys):=λa ys e=>f5 _ _ e (aL e u (by intro z;cases z)) (aL e g (by intro z;cases z)) (aL e hs.dc (by intro z;cases z));let d5:Y d'=some (.dK (L++jG c.m fr fr.length)):=k5 _ _ e3 I.symm a1.symm;let ae:∀(r:Addr) (H':Hp) (a0:V),(∀a o,Y a=some o->a≠p->H' a=some o)->H' p=some (.ins N.CP y (pf c.n c.l c.h M a0))->kF H' a0 (if M=c.h then none else c.o.map λt=>(t.1,t.2.1,i+x))->H' r=some (.tup [.int M,.int c.h,if M=c.h then .non else .int (i+x)])->Q (.ref r) H':=λr H' a0 fk aj ap al=>by
   refine t r H' (λa o e n1 n2 n3=>fk _ _ (f5 a o e n1 n2 n3) n2) {{dx,fk _ _ b5 a5.symm},?_,?_} {?_,?_,?_} al
   ·rw [uQ (c':=c.told fr.length (i+x)) hc rfl];exact fk _ _ (f5 _ _ Z (aL Z u (by intro z;cases z)) (aL Z g (by intro z;cases z)) ak) (aL Z g (by intro z;cases z))
   ·refine kP af nd hp hc (λq' e' a9 ⟨ah,⟨dz2,ha'⟩,hl2⟩=>{ah,{dz2,fk _ _ (f5 _ _ ha' ?_ a9 (aL ha' hs.dc (by intro z;cases z))) a9},hl2.move λa ys e=>fk _ _ (O a ys e) (aL e g (by intro z;cases z))}) ?_
    ·exact aL ha' u (by intro z;injection z with _ _ z;injection z with z;injection z with z;exact absurd z ⋯)
    ·unfold Pc.told fL;rw [hM];exact {a0,{(y),aj},ap}
   ·let (dy,hy):=hs.ob;let n1:J≠b:=aL hy u (by intro z;injection z with _ _ z;exact absurd (congrArg List.length z) (by show ¬ 2=9;decide));let n2:J≠p:=aL hy g (by intro z;injection z with _ _ z;exact absurd (congrArg List.length z) (by show ¬ 2=5;decide));exact {dy,fk _ _ (f5 _ _ hy n1 n2 (aL hy hs.dc (by intro z;cases z))) n2}
   ·let (xs,x1,x2):=hs.wk;exact {xs,fk _ _ (O _ _ x1) (aL x1 g (by intro z;cases z)),aK (λv r ⟨b',z1,z2⟩=>{b',z1,fk _ _ (O _ _ z2) (aL z2 g (by intro z;cases z))}) x2}
   ·exact fk _ _ d5 I.symm
  refine {_,aF (bQ (bY aP) aU aU) aU,sN (by symm) p5 W.P.cl (Da W) hr aN {p,_,_,_,_,lv,rfl,{(y),p5},_,rfl,?_}};refine gQ (λT=>?_) (λT=>bX ?_)
  ·let T:M=c.h:=by simpa using T
   refine dL (p:=p) (v:=.non) (by symm) Bh p5 W.P.cl W.P.nD (by show 5<1000;decide) ?_;rw [uE];let p6:(aR Y p (.ins N.CP y (pf c.n c.l c.h M .non))) p=_:=aB;refine fI {_,cE dE,Av.to (vs:=[.int M,.int c.h,.non]) (by symm) _ {by show 3<=sizeLine;decide,λr C=>?_}};refine ae r _ .non (λa o e n=>aI C _ _ (by rw [aC n];exact e)) (aI C _ _ aB) ?_ ?_
   ·rw [if_pos T];trivial
   ·rw [if_pos T];exact aB
  ·let T:¬ M=c.h:=by simpa using T
   obtain⟨z,a4⟩:∃z,c.o=some z:=by
    cases q':c.o with
    | none=>unfold Pc.has at ht;rw [q'] at ht;cases ht
    | some z=>exact {(z),rfl}
   let ag:z.1=tk:=by
    unfold Pc.has at ht;rw [a4] at ht;simpa using ht
   rw [a4] at a3;obtain⟨lq,rfl⟩:∃lq,lv=.ref lq:=by
    cases lv with
    | ref lq=>exact {(lq),rfl}
    | _=>exact a3.elim
   let am:H lq=some (.tup [.int z.1,.str z.2.1,.int z.2.2]):=a3;let tl:=O _ _ am;show 7;refine {_,aF (cD (pv 5) (cE dE) rfl) aU,Av.to (vs:=[.int tk,.str z.2.1,.int (i+x)]) (by symm) _ {by show 3<=sizeLine;decide,λq2 ac=>{_,rfl,p,N.CP,y,_,rfl,aI ac _ _ p5,W.P.cl,W.P.nD,(by show 5<1000;decide),?_}}};rw [uE];let s6:aM Y (aR Y q2 (.tup [.int tk,.str z.2.1,.int (i+x)])):=aI ac;let e6:(aR Y q2 (.tup [.int tk,.str z.2.1,.int (i+x)])) q2=some (.tup [.int tk,.str z.2.1,.int (i+x)]):=aB;generalize aR Y q2 (.tup [.int tk,.str z.2.1,.int (i+x)])=H6 at s6 e6 ⊢;let p6:(aR H6 p (.ins N.CP y (pf c.n c.l c.h M (.ref q2)))) p=_:=aB;refine fI {_,cE dE,Av.to (vs:=[.int M,.int c.h,.int (i+x)]) (by symm) _ {by show 3<=sizeLine;decide,λr C=>?_}};refine ae r _ (.ref q2) (λa o e n=>aI C _ _ (by rw [aC n];exact s6 _ _ e)) (aI C _ _ aB) ?_ ?_
   ·rw [if_neg T,a4];rw [<- ag] at e6;exact aI C _ _ (by rw [aC (aL e6 (s6 _ _ p5) (by intro z;cases z))];exact e6)
   ·rw [if_neg T];exact aB
end
end Ls
namespace L2
open PySem PySem.Spec PyProof.Rows PySem.W
def Dy (js:List Nat) (tc:TT) (σ:St) (Q:VK):It->Hp->Prop:=λJ H1=>∀acc,H1 acc=none ->
 ∃W:Nat->Nat->List V->Hp->Prop,(∃m,W 0 m [] (aR H1 acc (.lst [])))/\∀i m ys H,W i m ys H->H acc=some (.lst ys) /\
  ((J.stop i H/\Q (.ref acc) H)\/(J.go i H/\∀x H',J.yld i H x H'->cS 0 x (dY 1 js σ) H' λσ2 H2=>σ2.drop 1=(dY 1 js σ).drop 1/\tc σ2 H2 λb H3=>
   if b=true then iL 0 σ2 H3 λy H4=>H4 acc=some (.lst ys)/\ys.length<sizeLine/\∃m',m'<m/\W (i+1) m' (ys++[y]) (aR H4 acc (.lst (ys++[y])))
   else ∃m',m'<m/\W (i+1) m' ys H3))
def Xm {α:Type} {js:List Nat} {σ:St} {tc:TT} {Q:VK} {J:It} {a:Hp} (xs:List α) (val:α->V) (pm:α->Bool) (C:xs.length<=4000)
  (y:∀G i,aM a G->i<xs.length->J.go i G) (f:∀G,aM a G->J.stop xs.length G) (u:∀G i x p,aM a G->J.yld i G x p->p=G/\∃z,xs[i]?=some z/\x=val z)
  (h:∀G z q,aM a G->z ∈ xs->q (pm z) G->tc (some (val z)::(js.map λj=>(σ[j]?).join)) G q)
  (k:∀s G,a s=none->aM a G->G s=some (.lst ((xs.filter pm).map val))->Q (.ref s) G):Dy js tc σ Q J a:=by
 intro r l;let E:sizeLine=16777216:=sizeLine_eq;refine {λi m t G=>m=xs.length-i/\i<=xs.length/\t=((xs.take i).filter pm).map val/\aM a G/\G r=some (.lst t),{_,rfl,i5 _,rfl,aI l,aB},?_};rintro i m t G ⟨rfl,D,rfl,c,g⟩;refine {g,?_};by_cases d:i<xs.length
 ·refine .inr {y G i c d,λx p A=>?_};let (rfl,z,v,rfl):=u _ _ _ _ c A;let w:xs.take (i+1)=xs.take i++[z]:=by rw [A3,v];rfl
  let B:(((xs.take i).filter pm).map val).length<=i:=by
   rw [g7];exact l7 (K2 _ _) (by rw [l0];omega)
  refine {rfl,h _ z _ c (i6 v) ?_};refine gQ (λn=>?_) (λn=>?_)
  ·refine {_,rfl,g,∎,_,?_,rfl,d,?_,λb o e=>?_,aB}
   ·omega
   ·rw [w,M6,n6];simp [n]
   ·rw [aC (aD e l)];exact c _ _ e
  ·refine {xs.length-(i+1),∎,rfl,d,?_,c,g};rw [w,M6,n6];simp [n]
 let e:i=xs.length:=∎;subst e;rw [List.take_length] at g;exact .inl {f _ c,k _ _ l c g}
end L2
namespace Ls
open PySem L2 PySem.W
def Pc.lent (c:Pc):Bool:=c.o.isSome
def Pc.late (i:Int) (c:Pc):Bool:=c.o.any λt=>decide (t.2.2<i)
def lQ (S:Pc->Bool) (cs:List Pc) (c:Pc):Prop:=c ∈ cs/\S c=true/\∀c' ∈ cs,S c'=true->¬ kE c'.k c.k
inductive HM (cs:List Pc) (le i:Int) (H:Hp):V->Prop where
 | pc {c:Pc} {r:Addr}:(lQ Pc.free cs c\/(∀c ∈ cs,c.free=false)/\lQ (Pc.late i) cs c)->H r=some (.tup [.str "piece",.int c.n])->HM cs le i H (.ref r)
 | cut {c:Pc} {r:Addr}:(∀c ∈ cs,c.free=false)->(∀c ∈ cs,c.late i=false)->lQ Pc.lent cs c->2 * le<=c.h-c.m->H r=some (.tup [.str "cut",.int c.n,.int (c.h-(c.h-c.m) / 2)])->HM cs le i H (.ref r)
 | non:(∀c ∈ cs,c.free=false)->(∀c ∈ cs,c.late i=false)->(∀c,lQ Pc.lent cs c->c.h-c.m<2 * le)->HM cs le i H .non
def cY.trans {T:Addr} {H f d:Hp} (a:cY T H f) (b:cY T f d):cY T H d:=λc o n e=>b c o n (a c o n e)
def cY.t {T:Addr} {H H':Hp} {p:Pos} {q:Str} (tb:kC H T p q) (k:cY T H H'):eB H H':=by
 let (a,e,_):=tb;exact k.toT e
def tE {H:Hp} {a:Addr} {zs:List (Pc × Addr)} (b:H a=some (.lst (zs.map λx=>V.ref x.2))):H a=some (.lst ((zs.map (·.2)).map V.ref)):=by rw [b,B0];rfl
def Ba {zs:List (Pc × Addr)} (h:(!zs.isEmpty)=true):zs.map (·.2)≠[]:=λz=>by rw [List.map_eq_nil_iff.mp z] at h;cases h
def iH {zs:List (Pc × Addr)} {i:Nat} {p:Addr} {c:Pc} (b:(zs.map (·.2))[i]?=some p) (e:(zs.map (·.1))[i]?=some c) (a:∀j d,(zs.map (·.1))[j]?=some d->¬ kE d.k c.k/\(j<i->kE c.k d.k)):
  (c,p) ∈ zs/\∀f ∈ zs,¬ kE f.1.k c.k:=by
 rw [i8] at b e;cases hz:zs[i]? with
 | none=>rw [hz] at b;cases b
 | some z=>
  rw [hz] at b e;cases b;cases e;refine {i6 hz,λf g=>?_};let (j,h):=A1.mp g;exact(a j f.1 (by rw [i8,h];rfl)).1
def Ny {α:Type} {xs:List α} {p:α->Bool} (h:xs.filter p=[]):∀x ∈ xs,p x=false:=λx a=>by
 cases e:p x with
 | false=>rfl
 | true=>
  have:=t7.mpr {(a),e}
  rw [h] at this
  cases this
def nC {ps:List Addr} {cs:List Pc} (l:ps.length=cs.length) {c:Pc} (h:c ∈ cs):∃p,(c,p) ∈ cs.zip ps:=by
 let (k,a):=A1.mp h;let b:k<ps.length:=by have:=(c8.mp a).1;omega
 exact {ps[k],i6 (i:=k) (A7.mpr {a,c7 b})}
def oE {ps:List Addr} {cs:List Pc} {S:Pc->Bool} (l:ps.length=cs.length) {z:Pc × Addr} {zs:List (Pc × Addr)} (a:∀z,z ∈ zs↔z ∈ cs.zip ps/\S z.1=true) (e:z ∈ zs) (b:∀i ∈ zs,¬ kE i.1.k z.1.k):lQ S cs z.1:=by
 let (h,f):=(a z).mp e;refine {(G5 h).1,f,λc g d=>?_};let (p,j):=nC l g;exact b (c,p) ((a _).mpr {(j),d})
def Eb {S:Pc->Bool} {cs:List Pc} {c c':Pc} (a:lQ S cs c) (b:lQ S cs c'):c.h-c.m=c'.h-c'.m:=by
 let e:=a.2.2 _ b.1 b.2.1;let d:=b.2.2 _ a.1 a.2.1;unfold kE Pc.k at e d;simp only [not_or,not_and] at e d;omega
inductive Hb (CB CP T:Addr) (vs:List V) (H:Hp) (Q:VK) (E0_:XK):Prop|mk (b pw sh d:Addr) (sp ev le nn nt mo i:Int) (ps:List Addr) (cs:List Pc) (_:vs=[.ref b,.int i]) (_:fM CB CP H b pw sh d sp ev le nn nt mo ps cs) (_:cs.length<=1000) (_:mo<=i) (_:kC H T lJ gC) (_:∀(v:V) (H':Hp),cY T H H'->kC H' T lJ gC->HM cs le i H' v->Q v H')
def vL (CB CP T:Addr):Sp:=Hb CB CP T
def rM {C d:Addr} {k:Hp} {ps:List Addr} {cs:List Pc} {o:Obj} {js:List Nat} {σ:St} {tc:TT} {Q:VK} (b:k d=some (.dK (iO ps cs))) (f:Paired (fL C k) ps cs) (W:cs.length<=1000) (pm:Pc->Bool)
  (v:∀(G:Hp) (c:Pc) (p A:Addr) (s:V) (q:Bool->Hp->Prop),G p=some (.ins C A (pf c.n c.l c.h c.m s))->kF G s c.o->q (pm c) G->tc (some (.ref p)::(js.map λj=>(σ[j]?).join)) G q)
  (y:∀r G,k r=none->G d=some (.frz o (.dK (iO ps cs)))->aM k (aR G d (.dK (iO ps cs)))->(aR G d (.dK (iO ps cs))) r=some (.lst (((cs.zip ps).filter λx=>pm x.1).map λx=>V.ref x.2))->Q (.ref r) G):
  Dy js tc σ Q (CK d o (iO ps cs)) (aR k d (.frz o (.dK (iO ps cs)))):=by
 let S:ps.length=cs.length:=f.length;let O:(cs.zip ps).length=cs.length:=by rw [C5];omega
 refine Xm (cs.zip ps) (λx=>V.ref x.2) (λx=>pm x.1) ∎ (λG i a X=>{a _ _ aB,by rw [jZ f];omega}) (λG a=>{a _ _ aB,by rw [jZ f];omega}) (λG i x T a E=>?_) (λG z q a D L=>?_) λr G J a H=>?_
 ·let (rfl,e,I,rfl):=E;let (c,p,F,M,rfl):=uR I;exact {rfl,(c,p),A7.mpr {(F),M},rfl}
 ·let (s,(A,g),t):=dR f z D;refine v G z.1 z.2 A s q (a _ _ (by rw [aC (aL g b (by intro z;cases z))];exact g)) (t.move λq U e=>a _ _ (by rw [aC (aL e b (by intro z;cases z))];exact e)) L
 ·let (u,B):=Nu b J;exact y r _ u (a _ _ aB) (rP b a) (by rw [aC B];exact H)
def vN {e H:Hp} {js:List Nat} {d:TI} {tc:TT} {ix:Nat} {r:TS} {D:eK} {σ:St} (h:d σ H (Dy js tc σ (λx f=>∃a o b,f a=some (.frz o (.dK b))/\(∀o v,e a≠some (.frz o v))/\r D (σ.set ix (some x)) (aR f a (.dK b))))):Qo (Wo e (Ii (tJ 1 js d (cS 0) tc (iL 0)) (cS ix))) r D σ H:=h
def Ja {H:Hp} {js:List Nat} {a:TI} {tc:TT} {ix:Nat} {r:TS} {D:eK} {σ:St} (h:a σ H (Dy js tc σ (λx b=>r D (σ.set ix (some x)) b))):Qo (Ii (tJ 1 js a (cS 0) tc (iL 0)) (cS ix)) r D σ H:=h
def yN {K:Frag} {H:Hp} {a:Addr} {zs:List (Pc × Addr)} (e:H a=some (.lst (zs.map λx=>V.ref x.2))):BK K (.ref a) H (!zs.isEmpty):=.inl {_,dD.of e,by cases zs <;> rfl}
def zT {zs:List (Pc × Addr)} (h:¬ (!zs.isEmpty)=true):zs=[]:=by
 cases zs with
 | nil=>rfl
 | cons a l=>exact absurd rfl h
section
variable {P:Program} {w:World} {K:Frag} {mg:Str->Option Value} {base:Heap} {N:Cn} {c:Nat->Addr}
def IW:(["piece","moment"]:List Str).Nodup:=⋯
def sE {f:Addr} {fd:FuncData} (F:tD K "choice" "Book.choice" gZ f fd) (GM:dZ P w K mg base cX N.CB "check_moment" 2 (tM N.CB)) (W:Wd P w K mg base N c):bK P w K mg base cX 5 f fd ["self","moment"] (vL N.CB N.CP N.T1):=by
 refine F.ok gY (λvs H Q E h=>?_) (λaj A ap s H vs Q E hr h=>?_)
 ·let (b,pw,sh,d,sp,ev,le,nn,nt,mo,i,J,y,rfl,_):=h;rfl
 ·intro X D;let (b,pw,sh,d,sp,ev,le,nn,nt,mo,i₀,J,y,rfl,hb,lc,an,tb,t):=h;let a8:Room 2 (A.deeper (PyProof.Rows.envOfC "Book.choice" (aG gZ) s.heap.objs.size f aj)):=hr.mono (by decide);let aa:Room 1 (A.deeper (PyProof.Rows.envOfC "Book.choice" (aG gZ) s.heap.objs.size f aj)):=hr.mono (by decide);refine {_,aF (cJ (bE (pv 0) W.B.cl GM a8 aN (aA (pv 1) aE)))
   (aF (Ck (nJ (ix:=3) gY.nd rfl (j5 rfl) (NB:=["piece"]) (n:=1) (js:=[]) (g:=cS 0) (cl:=[]) rfl ⋯ ⋯ rfl
     (gL.of rfl cL (bA (λz=>nomatch z) (bA (λz=>nomatch z) cL)) rfl (λk j h=>absurd h (by simp)) cL)
     (uD (nY (aV (pv 0) rfl))) (λ_ s H fp pn=>aW (i:=0) AL rfl (j5 rfl) (.inr rfl)) (λ_ s H fp pn=>nG (bY (bT (pv 0) W.P.cl (Tj W) a8 aN))) (λ_ s H fp pn=>pv 0)))
   (aF (bQ (hH (pv 3) (λ_=>rfl)) (aH (bB (cE (aA eP (aA (aV (aS (gH W) hr aN (aA (pv 3) aE)) rfl) aE))))) aY)
   (aF (Ck (nJ (ix:=4) gY.nd rfl (j5 rfl) (NB:=["piece"]) (n:=1) (js:=[]) (g:=cS 0) (cl:=[]) rfl ⋯ ⋯ rfl
     (gL.of rfl cL (bA (λz=>nomatch z) (bA (λz=>nomatch z) cL)) rfl (λk j h=>absurd h (by simp)) cL)
     (uD (nY (aV (pv 0) rfl))) (λ_ s H fp pn=>aW (i:=0) AL rfl (j5 rfl) (.inr rfl)) (λ_ s H fp pn=>nG (bY (bT (pv 0) W.P.cl (lF W) aa aN))) (λ_ s H fp pn=>pv 0)))
   (aF (nJ (ix:=5) gY.nd rfl (j5 rfl) (NB:=["piece","moment"]) (n:=1) (js:=[1]) (g:=cS 0) (cl:=[("moment",s.heap.objs.size+1)]) rfl ⋯ ⋯ rfl
     (gL.of rfl (bA rfl cL) (bA (λz=>nomatch z) (bA (λz=>nomatch z) (bA (λ_=>rfl) cL))) rfl
      (λk j h=>match k,j,h with|0,_,rfl=>rfl|k+1,_,h=>absurd h (by simp)) (bA {.inl rfl,.inl rfl,rfl} cL))
     (iF (pv 4)) (λ_ s H fp pn=>aW (i:=0) IW rfl (j5 rfl) (.inr rfl)) (λ_ s H fp pn=>nG (bY (bE (pv 0) W.P.cl (Tb W) a8 aN (aA (pv 1) aE)))) (λ_ s H fp pn=>pv 0))
   (aF (bQ (hH (pv 5) (λ_=>rfl)) (aH (bB (cE (aA eP (aA (aV (aS (gH W) hr aN (aA (pv 5) aE)) rfl) aE))))) aY)
   (aF (bQ (PW.pt (iV (hH (pv 4) (λ_=>rfl)) (gE (cH Xd (bT (aS (gH W) hr aN (aA (pv 4) aE)) W.P.cl (uI W) aa aN) (cI zJ aX (aV (pv 0) rfl)) (bO _)))))
    (aF (eI (i:=2) gY.nd rfl (j5 rfl) (aS (gH W) hr aN (aA (pv 4) aE)))
    (aH (bB (cE (aA eP (aA (aV (pv 2) rfl) (aA (cI mD (aV (pv 2) rfl) (cI Sq (bT (pv 2) W.P.cl (uI W) aa aN) aX)) aE))))))) aY)
   (aH (bB gB)))))))),?_};let sl:sizeLine=16777216:=sizeLine_eq;let ((dx,T),I,a0):=id hb;let nf:∀{H:Hp},H d=some (.dK (iO J y))->∀(o:Obj) (v:HO),H d≠some (.frz o v):=λe o v z=>by rw [e] at z;cases z
  let lp:J.length=y.length:=a0.length;refine {_,rfl,b,dx,_,rfl,T,rfl,_,rfl,b,pw,sh,d,sp,ev,le,nn,nt,mo,i₀,rfl,{(dx),T},an,?_};dsimp only [Bj];refine vN ?_;refine {_,rfl,b,N.CB,dx,_,_,rfl,T,W.B.cl,W.B.nB,rfl,.inr (.inr (.inl {rfl,.inl {_,I}})),d,_,rfl,rfl,I,λv nv=>?_};let M:aM H (aR H v (eL v d)):=aI nv;let e1:(aR H v (eL v d)) v=some (eL v d):=aB;generalize aR H v (eL v d)=H1 at M e1 ⊢;refine {v,d,iO J y,rfl,e1,M _ _ I,λo=>?_};refine rM (M _ _ I) (cQ (aM.toT M) a0) lc Pc.free (λG c p C lv q l hl hq=>?_) λla G0 na fz m hA=>?_
  ·refine {_,rfl,p,C,_,rfl,l,rfl,p,_,_,_,_,lv,rfl,{(C),l},_,rfl,?_};rw [hl.non];exact hq
  refine {d,o,_,fz,nf I,?_};generalize aR G0 d (.dK (iO J y))=G at m hA ⊢;let s2:=M.trans m;clear M m na e1 fz;let ak:=s2 _ _ T;let a3:=s2 _ _ I;let a9:=cQ (aM.toT s2) a0;let ad:=tb.same s2;let ac:∀z ∈ y.zip J,fL N.CP G z.2 z.1:=dR a9;refine {_,rfl,_,yN hA,gQ (λY=>?_) (λY=>?_)}
  ·refine {_,rfl,la,_,_,rfl,tE hA,fV λz a=>ac z (t7.mp a).1,Ba Y,ad,λj p c H3 kt a1 l hc u=>?_};let (a,bz):=iH l hc u;let (lv,(C,S),_):=(ac _ (t7.mp a).1).sameT (cY.t ad kt);refine {p,N.CP,C,_,_,rfl,S,W.P.cl,W.P.nN,rfl,by show 2<=sizeLine;decide,λr nr=>?_};exact t _ _ ((cY.pre s2 kt).same (aI nr)) (a1.same (aI nr)) (.pc (.inl (oE lp (λz=>t7) a bz)) aB)
  let a4:∀c ∈ y,c.free=false:=λc hc=>by
   let (p,l):=nC lp hc;exact Ny (zT Y) _ l
  clear hA;dsimp only [Bj];refine vN ?_;refine {_,rfl,b,N.CB,dx,_,_,rfl,ak,W.B.cl,W.B.nB,rfl,.inr (.inr (.inl {rfl,.inl {_,a3}})),d,_,rfl,rfl,a3,λv nv=>?_};let M:aM G (aR G v (eL v d)):=aI nv;let e1:(aR G v (eL v d)) v=some (eL v d):=aB;generalize aR G v (eL v d)=H1 at M e1 ⊢;refine {v,d,iO J y,rfl,e1,M _ _ a3,λo=>?_};refine rM (M _ _ a3) (cQ (aM.toT M) a9) lc Pc.lent (λG c p C lv q l hl hq=>?_) λll G0 na fz m hL=>?_
  ·refine {_,rfl,p,C,_,rfl,l,rfl,p,_,_,_,_,lv,rfl,{(C),l},_,rfl,?_};rw [hl.non];let e:(!c.o.isNone)=c.lent:=by unfold Pc.lent;cases c.o <;> rfl
   rw [e];exact hq
  refine {d,o,_,fz,nf I,?_};generalize aR G0 d (.dK (iO J y))=H2 at m hL ⊢;let s3:=s2.trans (M.trans m);clear M m na e1 fz ak a3 a9 ad ac s2;let ao:=s3 _ _ T;let ah:=cQ (aM.toT s3) a0;let a1:=tb.same s3;let al:∀z ∈ y.zip J,fL N.CP H2 z.2 z.1:=dR ah;refine Ja ?_;refine {_,rfl,ll,rfl,{_,dD.of hL},?_};refine Xm ((y.zip J).filter λx=>Pc.lent x.1) (λx=>V.ref x.2) (λx=>Pc.late i₀ x.1) (l7 (K2 _ _) (by rw [C5];omega)) (λG i m hi=>?_) (λG m=>?_) (λG i x G' m hy=>?_) (λG z q m a hq=>?_) λlt G na m hT=>?_
  ·exact {_,_,dD.of (m _ _ hL),by rw [i8,c7 hi];rfl}
  ·exact {_,dD.of (m _ _ hL),by rw [g7];exact c9 _}
  ·let (rfl,hx):=hy;let hx:=hx _ (dD.of (m _ _ hL));rw [i8] at hx;cases a:((y.zip J).filter λx=>Pc.lent x.1)[i]? with
   | none=>rw [a] at hx;cases hx
   | some z=>
    rw [a] at hx;cases hx;exact {(rfl),z,rfl,rfl}
  ·let (lv,(C,l),hl):=(al z (t7.mp a).1).sameT (aM.toT m);exact {_,rfl,z.2,C,_,rfl,l,rfl,_,rfl,z.2,_,_,_,_,i₀,lv,_,rfl,{(C),l},hl,_,rfl,hq}
  let s4:=s3.trans m;let ae:=m _ _ hL;clear hL m na al a1 ah ao s3;let as:=s4 _ _ T;let Z:=tb.same s4;let U:∀z ∈ y.zip J,fL N.CP G z.2 z.1:=dR (cQ (aM.toT s4) a0);let el:∀z,z ∈ ((y.zip J).filter λx=>Pc.lent x.1).filter (λx=>Pc.late i₀ x.1)↔z ∈ y.zip J/\Pc.late i₀ z.1=true:=λz=>by
   rw [t7,t7];refine {λh=>{(h.1.1),h.2},λh=>{{h.1,?_},h.2}};let h2:=h.2;unfold Pc.late at h2;unfold Pc.lent;cases e:z.1.o with
   | none=>rw [e] at h2;cases h2
   | some _=>rfl
  refine {_,rfl,_,yN hT,gQ (λY=>?_) (λY=>?_)}
  ·refine {_,rfl,lt,_,_,rfl,tE hT,fV λz a=>U z ((el z).mp a).1,Ba Y,Z,λj p c H3 kt a1 l hc u=>?_};let (a,bz):=iH l hc u;let (lv,(C,S),_):=(U _ ((el _).mp a).1).sameT (cY.t Z kt);refine {p,N.CP,C,_,_,rfl,S,W.P.cl,W.P.nN,rfl,by show 2<=sizeLine;decide,λr nr=>?_};exact t _ _ ((cY.pre s4 kt).same (aI nr)) (a1.same (aI nr)) (.pc (.inr {a4,oE lp el a bz}) aB)
  let af:∀c ∈ y,c.late i₀=false:=λc hc=>by
   let (p,l):=nC lp hc;cases e:c.late i₀ with
   | false=>rfl
   | true=>have:=(el (c,p)).mpr {(l),e};rw [zT Y] at this;cases this
  clear hT el;refine {_,rfl,_,yN ae,gQ (λY=>?_) (λY=>?_)}
  ·refine {_,rfl,ll,_,_,rfl,tE ae,fV λz a=>U z (t7.mp a).1,Ba Y,Z,λj p c H3 kt a7 l hc u=>?_};let (a,bz):=iH l hc u;let bc:=oE lp (λz=>t7) a bz;let a2:=cY.t Z kt;let (lv,(C,S),_):=(U _ (t7.mp a).1).sameT a2;refine {p,C,_,rfl,S,rfl,p,_,_,_,_,lv,rfl,{(C),S},_,rfl,b,N.CB,dx,_,_,rfl,a2.at as,W.B.cl,W.B.nL,rfl,_,_,rfl,rfl,.inl {by decide,by decide},_,_,rfl,rfl,?_};refine {_,rfl,gQ (λhq=>?_) (λhq=>?_)}
   ·refine {_,rfl,ll,_,_,rfl,tE (a2.at ae),fV λz a=>(U z (t7.mp a).1).sameT a2,Ba Y,a7,λj' p' c' H6 ai ar aq O a6=>?_};let (ag,av):=iH aq O a6;let am:=oE lp (λz=>t7) ag av;let (au,(a5,L),_):=((U _ (t7.mp ag).1).sameT a2).sameT (cY.t a7 ai);refine {_,rfl,p',N.CP,a5,_,_,rfl,L,W.P.cl,W.P.nN,rfl,_,rfl,p',N.CP,a5,_,_,rfl,L,W.P.cl,W.P.nH,rfl,_,rfl,p',a5,_,rfl,L,rfl,p',_,_,_,_,au,rfl,{(a5),L},_,_,rfl,rfl,{by decide,by decide},_,_,rfl,rfl,by show 3<=sizeLine;decide,λr nr=>?_};let hq:=of_decide_eq_true hq;have:=Eb bc am;exact t _ _ ((cY.trans (cY.pre s4 kt) ai).same (aI nr)) (ar.same (aI nr)) (.cut a4 af am ∎ aB)
   ·refine t _ _ (cY.pre s4 kt) a7 (.non a4 af λc' O=>?_);have:=Eb bc O;let hq:=of_decide_eq_false (J3.mpr hq);omega
  ·refine cO ?_;refine t _ _ (λb o _ e=>s4 _ _ e) Z (.non a4 af λc' O=>?_);let (p,l):=nC lp O.1;have:=t7 (p:=λx:Pc × Addr=>Pc.lent x.1).mpr {(l),O.2.1};rw [zT Y] at this;cases this
def Vz (cs:List Pc) (i:Int) (c:Pc):Prop:=lQ Pc.free cs c\/(∀c ∈ cs,c.free=false)/\lQ (Pc.late i) cs c
def Vz.mem {cs:List Pc} {i:Int} {c:Pc} (h:Vz cs i c):c ∈ cs:=by
 rcases h with h|⟨_,h⟩
 ·exact h.1
 ·exact h.1
inductive Ar (CB CP:Addr) (vs:List V) (H:Hp) (Q:VK) (E0_:XK):Prop|mk (b pw sh d:Addr) (sp ev le nn nt mo pl:Int) (ps:List Addr) (cs:List Pc) (k:Nat) (p:Addr) (c:Pc) (_:vs=[.ref b,.ref p,.int pl]) (_:fM CB CP H b pw sh d sp ev le nn nt mo ps cs) (_:ps[k]?=some p) (_:cs[k]?=some c) (_:(cs.map Pc.n).Nodup) (_:(∀c ∈ cs,c.n<nn)) (_:cs.length<1000) (_:∀(q:Addr) (H':Hp),H q=none->(∀a o,H a=some o->a≠b->a≠d->a≠p->H' a=some o)->fM CB CP H' b pw sh d sp ev le (nn+1) nt mo (ps++[q]) (cs.set k { c with h:=pl }++[⟨nn,pl,c.h,pl,none⟩])->Q (.ref q) H')
def Es (CB CP:Addr):Sp:=Ar CB CP
def vP:aJ ["self","piece","place","other"] ["self","piece","place"] (aG pB):={rfl,rfl,rfl,⋯,rfl,⋯,⋯}
def zQ (W:Wd P w K mg base N c):dZ P w K mg base cX N.CB "cut_off" 4 (Es N.CB N.CP):=W.d62.of λ{f _} F=>by
 refine F.ok vP (λvs H Q E h=>?_) (λa5 A a7 s H vs Q E hr h=>?_)
 ·let (b,pw,sh,d,sp,ev,le,y,nt,mo,g,ps,C,k,p,c,rfl,_):=h
  rfl
 ·intro X D
  let (b,pw,sh,d,sp,ev,le,y,nt,mo,g,ps,C,k,p,c,rfl,hb,hp,hc,nd,lt,ln,t):=h
  let a4:Room 3 (A.deeper (PyProof.Rows.envOfC "Book.cut_off" (aG pB) s.heap.objs.size f a5)):=hr.mono (by decide)
  refine {_,aF (eI (i:=3) vP.nd rfl (j5 rfl) (bE (pv 0) W.B.cl (Me W) a4 aN (aA (pv 2) (aA (aV (pv 1) rfl) aE))))
   (aF (cD (pv 1) (pv 2) rfl) (aH (bB (pv 3)))),?_}
  let ((dx,M),a1,a8):=id hb
  let (c',Z,lv,(O,r),aa):=aQ a8 hp
  rw [hc] at Z
  cases Z
  refine {_,rfl,b,dx,_,rfl,M,rfl,_,rfl,_,rfl,p,N.CP,O,_,_,rfl,r,W.P.cl,W.P.nH,rfl,b,pw,sh,d,sp,ev,le,y,nt,mo,g,c.h,ps,C,rfl,hb,lt,ln,λq H1 k1 nq a6=>?_}
  let T:p≠b:=aL r M (by intro z;injection z with _ _ z;injection z with z;injection z with z;exact absurd z ⋯)
  let I:p≠d:=aL r a1 (by intro z;cases z)
  let j:=k1 _ _ r T I
  refine {_,rfl,_,rfl,p,N.CP,O,_,rfl,j,W.P.cl,W.P.nH,(by show 5<1000;decide),?_}
  rw [Sj]
  let ((a3,L),G,v):=id a6
  let lk:=(c8.mp hc).1
  let CI:=(c8.mp hp).1
  let Y:(ps++[q])[k]?=some p:=by rw [w5 CI];exact hp
  let x:(C++[{(y),g,c.h,g,none}])[k]?=some c:=by rw [w5 lk];exact hc
  let es:(C++[({(y),g,c.h,g,none}:Pc)]).set k { c with h:=g }=C.set k { c with h:=g }++[{(y),g,c.h,g,none}]:=List.set_append_left _ _ lk
  let a0:((C++[({(y),g,c.h,g,none}:Pc)]).map Pc.n).Nodup:=by
   rw [n6,O0];refine {nd,by simp,λa ha b hb z=>?_};let (e,he,rfl):=w8.mp ha;simp only [r6,P4,l6] at hb;have:=lt e he;omega
  let J:∀a o,a≠p->H1 a=some o->(aR H1 p (.ins N.CP O (pf c.n c.l g c.m lv))) a=some o:=λa o n e=>by rw [aC n];exact e
  let tp:∀a ys,H1 a=some (.tup ys)->(aR H1 p (.ins N.CP O (pf c.n c.l g c.m lv))) a=some (.tup ys):=λa ys e=>J _ _ (aL e j (by intro z;cases z)) e;let (c2,U,ad,(ac,u),S):=aQ v Y;rw [x] at U;cases U;rw [j] at u;cases u;let pn:=kP v a0 Y x (c':={ c with h:=g }) (λq' e' a9 ⟨a2,⟨dz,ha'⟩,hl'⟩=>{a2,{dz,J _ _ a9 ha'},hl'.move tp}) {lv,{(O),aB},S.move tp};refine {_,rfl,t q _ nq (λa o e n1 n2 n3=>J _ _ n3 (k1 _ _ e n1 n2)) {{a3,J _ _ T.symm L},?_,es ▸ pn}};rw [<- es,uQ (c':={ c with h:=g }) x rfl];exact J _ _ I.symm G
def yH (p:Int->Prop) [DecidablePred p]:V->Bool
 | .int i=>decide (p i)
 | _=>false
def lU {v:V} (h:fJ v=true):∃i,v=.int i:=by
 cases v with
 | int i=>exact {(i),rfl}
 | _=>cases h
def Mo {p:Int->Prop} [DecidablePred p] {v:V} (h:fJ v=false):yH p v=false:=by
 cases v with
 | int i=>cases h
 | _=>rfl
inductive Vf (CB CM:Addr) (vs:List V) (H:Hp) (Q:VK) (E:XK):Prop|mk (b pw sh d:Addr) (sp ev le nn nt mo:Int) (v:V) (_:vs=[.ref b,v]) (_:Hj CB H b pw sh d sp ev le nn nt mo) (_:sZ H v) (_:(yH (mo<=·) v=true->Q .non H)) (_:(yH (mo<=·) v=false->E (.ref CM) none H))
def Im (CB CM:Addr):Sp:=Vf CB CM
def uJ (W:Wd P w K mg base N c):dZ P w K mg base (jN P w) N.CB "check_moment" 2 (Im N.CB (c 1)):=W.d54.of λF=>by
 refine F.okE EM (λq H Q E h=>?_) (λl A e s H q Q E y h=>?_)
 ·let (b,o,g,d,x,t,u,z,m,p,v,rfl,_):=h
  rfl
 ·intro X D
  let (b,o,g,d,x,t,u,z,m,p,v,rfl,(r,k),j,n,f):=h
  refine {_,aH (bQ (PW.pt (eN (cC (bY (aS (dI W) y aN (aA (pv 1) aE)))) (dP (cH iJ (pv 1) (aV (pv 0) rfl) (bO _))))) (aH (fX rfl W.x1.ex rfl W.x1.mB dO (aA eP aE))) aY),?_}
  refine {_,rfl,_,rfl,j,_,rfl,?_}
  cases hv:fJ v with
  | false=>exact cW (cW {by show 1<=sizeLine;decide,f (Mo hv)})
  | true=>
   let (i,rfl):=lU hv
   refine cO {_,rfl,_,rfl,b,N.CB,r,_,_,rfl,k,W.B.cl,W.B.nM,rfl,_,_,rfl,rfl,_,rfl,?_}
   refine gQ (λa=>{by show 1<=sizeLine;decide,f (decide_eq_false ?_)}) λa=>n (decide_eq_true ?_)
   ·have:=of_decide_eq_true a
    omega
   ·have:=of_decide_eq_false (J3.mpr a)
    omega
inductive Pt (CB CP CM CN CL:Addr) (vs:List V) (H:Hp) (Q:VK) (E:XK):Prop|mk (b pw sh d:Addr) (sp ev le nn nt mo:Int) (ps:List Addr) (cs:List Pc) (v u:V) (_:vs=[.ref b,v,u]) (_:fM CB CP H b pw sh d sp ev le nn nt mo ps cs) (_:sZ H v) (_:sZ H u) (_:(yH (mo<=·) u=false->E (.ref CM) none H)) (_:(yH (mo<=·) u=true->yH (λx=>0<=x/\x<nt) v=false->E (.ref CN) none H)) (_:(yH (mo<=·) u=true->∀tk,v=.int tk->0<=tk->tk<nt->(∀c ∈ cs,c.has tk=false)->∀H',aM H H'->E (.ref CL) none H')) (_:(yH (mo<=·) u=true->∀tk,v=.int tk->0<=tk->tk<nt->∀(k:Nat) (p:Addr) (c:Pc),ps[k]?=some p->cs[k]?=some c->c.has tk=true->(∀j e,cs[j]?=some e->j<k->e.has tk=false)->∀H',aM H H'->Q (.ref p) H'))
def Bp (CB CP CM CN CL:Addr):Sp:=Pt CB CP CM CN CL
theorem xN {α:Type} (p:α->Bool):∀l:List α,(∀x ∈ l,p x=false)\/∃(k:Nat) (x:α),l[k]?=some x/\p x=true/\∀j e,l[j]?=some e->j<k->p e=false
 | []=>.inl λx h=>by cases h
 | a::l=>by
  cases e:p a with
  | true=>exact .inr {0,a,rfl,e,λj _ _ h=>absurd h (D9 _)}
  | false=>
   rcases xN p l with h|⟨k,x,g,d,i⟩
   ·exact .inl λx f=>(g8.mp f).elim (λz=>by rw [z];exact e) (h x)
   ·refine .inr {k+1,x,g,d,λj y b m=>?_}
    cases j with
    | zero=>cases b;exact e
    | succ j=>exact i j y b ∎
def wS (W:Wd P w K mg base N c):dZ P w K mg base (jN P w) N.CB "held_piece" 3 (Bp N.CB N.CP (c 1) (c 2) (c 3)):=W.d55.of λF=>by
 refine F.okE Jh (λvs H Q E h=>?_) (λa4 A a2 s H vs Q E hr h=>?_)
 ·let (b,pw,sh,d,sp,ev,le,nn,nt,mo,C,l,v,u,rfl,_):=h
  rfl
 ·intro X D
  let (b,pw,sh,d,sp,ev,le,nn,nt,mo,C,l,v,u,rfl,hb,kv,ku,q1,q2,q3,q4):=h
  refine {_,aF (cJ (bE (pv 0) W.B.cl (uJ W) hr (fA (E':=E) λ_ _ _ z=>z) (aA (pv 2) aE)))
   (aF (bQ (PW.pt (eN (cC (bY (aS (dI W) hr aN (aA (pv 1) aE)))) (dP (cC (iW fO iJ aX (pv 1) (aV (pv 0) rfl)))))) (aH (fX rfl W.x2.ex rfl W.x2.mB dO (aA eP aE))) aY)
   (aF (Kz (eJ N9 rfl (uD (nY (aV (pv 0) rfl))) (aW (i:=3) Jh.nd rfl (j5 rfl))
    (aH (bQ (bY (bE (pv 3) W.P.cl (Ti W) hr aN (aA (pv 1) aE))) (aH (bB (pv 3))) aY)))) (aH (fX rfl W.x3.ex rfl W.x3.mB dO (aA eP aE))))),?_}
  let ((dx,t),r,Z):=id hb
  let nf:∀(o:Obj) (v:HO),H d≠some (.frz o v):=λo v z=>by rw [r] at z;cases z
  refine {_,rfl,b,dx,_,rfl,t,rfl,_,rfl,b,pw,sh,d,sp,ev,le,nn,nt,mo,u,rfl,{(dx),t},ku,λY=>?_,q1}
  refine {_,rfl,_,rfl,kv,_,rfl,?_}
  let f:1<=sizeLine:=by decide
  cases hv:fJ v with
  | false=>exact cW (cW {f,q2 Y (Mo hv)})
  | true=>
  let (y,rfl):=lU hv
  refine cO ?_
  by_cases t0:0<=y
  rotate_left
  ·refine {_,rfl,_,_,rfl,rfl,_,rfl,dC (decide_eq_false t0) {_,rfl,cW {f,q2 Y (decide_eq_false λz=>t0 z.1)}}}
  refine {_,rfl,_,_,rfl,rfl,_,rfl,eT (decide_eq_true t0) {_,rfl,b,N.CB,dx,_,_,rfl,t,W.B.cl,W.B.nT,rfl,_,_,rfl,rfl,_,rfl,?_}}
  by_cases t1:y<nt
  rotate_left
  ·rw [decide_eq_false t1]
   exact cW {f,q2 Y (decide_eq_false λz=>t1 z.2)}
  rw [decide_eq_true t1]
  refine cO ?_
  refine {_,rfl,b,N.CB,dx,_,_,rfl,t,W.B.cl,W.B.nB,rfl,.inr (.inr (.inl {rfl,.inl {_,r}})),d,_,rfl,rfl,r,λv nv=>?_}
  let s1:aM H (aR H v (eL v d)):=aI nv
  let e1:(aR H v (eL v d)) v=some (eL v d):=aB
  generalize aR H v (eL v d)=H1 at s1 e1 ⊢
  let p:=s1 _ _ r
  let a3:=cQ (aM.toT s1) Z
  refine {v,d,iO C l,rfl,e1,p,λo=>?_}
  let fz:(aR H1 d (.frz o (.dK (iO C l)))) d=some (.frz o (.dK (iO C l))):=aB
  let kp:∀a u,H1 a=some u->a≠d->(aR H1 d (.frz o (.dK (iO C l)))) a=some u:=λa u e n=>by rw [aC n];exact e
  let bk:aM H (aR (aR H1 d (.frz o (.dK (iO C l)))) d (.dK (iO C l))):=s1.trans (rP p (aM.refl _))
  generalize aR H1 d (.frz o (.dK (iO C l)))=H2 at fz kp bk ⊢
  obtain⟨m,hm,g,S⟩:∃m,m<=l.length/\(∀j e,l[j]?=some e->j<m->e.has y=false)/\∀c,l[m]?=some c->c.has y=true:=by
   rcases xN (λc:Pc=>c.has y) l with h|⟨k,c,I,h2,h3⟩
   ·exact⟨l.length,c9 _,λj e he _=>h e (i6 he),λc M=>by have:=(c8.mp M).1;omega⟩
   ·exact {k,B5 (c8.mp I).1,h3,λL M=>by rw [I] at M;cases M;exact h2}
  refine Nw (a:=d) (o:=o) (kvs:=iO C l) (λi σ G=>i<=m/\G=H2/\∃x,σ=[some (.ref b),some (.int y),some u,x]) {i5 _,rfl,_,rfl} (λi σ G _ h=>by rw [h.2.1];exact fz) ?_ ?_
  ·rintro i e σ G he ⟨a0,rfl,x,rfl⟩;let (L,p',I,h2,rfl):=uR he;let (a5,U,lv,(dp,O),a1):=aQ a3 h2;rw [I] at U;cases U;let J:=kp _ _ O (aL O p (by intro z;cases z));let T:kF G lv L.o:=a1.move λq ys h=>kp _ _ h (aL h p (by intro z;cases z));refine lK ?_;refine {_,rfl,p',dp,_,rfl,J,rfl,_,rfl,p',_,_,_,_,y,lv,L.o,rfl,{(dp),J},T,_,rfl,?_};by_cases z:i=m
   ·subst z;exact eT (S L I) {_,rfl,d,o,_,fz,nf,q4 Y y rfl t0 t1 i p' L h2 I (S L I) g _ bk}
   ·exact dC (g i L I ∎) { ∎,rfl,_,rfl}
  ·rintro σ G ⟨a0,rfl,x,rfl⟩;rw [jZ Z] at a0;refine {d,o,_,fz,nf,f,q3 Y y rfl t0 t1 (λc M=>?_) _ bk};let (j,hj):=A1.mp M;exact g j c hj (by have:=(c8.mp hj).1;omega)
end
end Ls
namespace L2
open PySem PySem.W
section
variable {P:Program} {w:World} {K:Frag} {mg:Str->Option Value} {base:Heap} {N:Cn} {c:Nat->Addr} {CX:mK} {k:Nat} {f:Addr} {fd:FuncData} {ps:List Str} {sp sp':Sp}
def bK.lift (F:bK P w K mg base cX k f fd ps sp):bK P w K mg base CX k f fd ps sp:=
 ⟨F.len,λA a s H b d j Q E l i g r h=>D5 (F.run A a s H b d j Q E l i g r h) λx m q=>by
  cases x with
  | ok fl=>cases fl <;> exact q
  | error e=>exact q.elim⟩
def bK.both (a:bK P w K mg base CX k f fd ps sp) (b:bK P w K mg base CX k f fd ps sp'):bK P w K mg base CX k f fd ps (λg H Q E=>sp g H Q E\/sp' g H Q E):=
 {λg H Q E h=>h.elim (a.len g H Q E) (b.len g H Q E),λA d s H e i g Q E m l j r h=>h.elim (a.run A d s H e i g Q E m l j r) (b.run A d s H e i g Q E m l j r)}
end
end L2
namespace Ls
open PySem L2 PySem.W
inductive As (CB CM:Addr) (vs:List V) (H:Hp) (Q0_:VK) (E:XK):Prop|mk (b pw sh d:Addr) (sp ev le nn nt mo:Int) (v:V) (_:vs=[.ref b,v]) (_:Hj CB H b pw sh d sp ev le nn nt mo) (_:sZ H v) (_:yH (mo<=·) v=false) (_:E (.ref CM) none H)
def rV (CB CM:Addr):Sp:=As CB CM
section
variable {P:Program} {w:World} {K:Frag} {mg:Str->Option Value} {base:Heap} {N:Cn} {c:Nat->Addr}
def zR {f:Addr} {fd:FuncData} (F:tD K "choice" "Book.choice" gZ f fd) (W:Wd P w K mg base N c):bK P w K mg base (jN P w) 3 f fd ["self","moment"] (rV N.CB (c 1)):=by
 refine F.okE gY (λx H Q E h=>?_) (λt A a s H x Q E C h=>?_)
 ·let (b,l,g,d,sp,n,o,p,j,m,v,rfl,_):=h;rfl
 ·intro X D;let (b,l,g,d,sp,n,o,p,j,m,v,rfl,i,r,u,q):=h;refine {_,aF (cJ (bE (pv 0) W.B.cl (uJ W) C (fA (E':=E) λ_ _ _ z=>z) (aA (pv 1) aE))) cU,?_};let (y,e):=id i;exact {_,rfl,b,y,_,rfl,e,rfl,_,rfl,b,l,g,d,sp,n,o,p,j,m,v,rfl,i,r,λz=>absurd (u.symm.trans z) (by decide),λ_=>q}
def lV {H H':Hp} {T:Addr} {pos:Pos} {q:Str} (t:kC H T pos q) (k1:∀b,H T=some (.tbl b)->H' T=some (.tbl b)) (k2:∀a f,H a=some (.ext f)->H' a=some (.ext f)):kC H' T pos q:=by
 let (b,e,i,g):=t;refine {b,k1 _ e,i,?_};rcases g with z|⟨d,z,h⟩
 ·exact .inl z
 ·exact .inr {d,z,k2 _ _ h}
def FL (c:Nat):Bool:=(!decide ((⟨#[c]⟩:Str).cps.toList<("a":Str).cps.toList)) && !decide (("z":Str).cps.toList<(⟨#[c]⟩:Str).cps.toList)
def HN (x:Str):Bool:=decide (1<=x.length) && decide (x.length<=8) && x.cps.toList.all FL
def CU {x:Str} (h:HN x=true) (a:x.cps.all (·<128)=true):eH x:=by
 unfold HN at h;simp only [B4,decide_eq_true_eq,F7] at h;refine {h.1.1,h.1.2,a,λi c b=>?_};let z:=h.2 c (by
  have:x.cps.toList[i]?=some c:=by simpa using b
  exact A1.mpr {(i),this});unfold FL at z;rw [B4] at z;exact z
def Qb (cs:List Pc) (le i:Int):Prop:=(∀c ∈ cs,c.free=false)/\(∀c ∈ cs,c.late i=false)/\∀c,lQ Pc.lent cs c->c.h-c.m<2 * le
inductive Po (CB CP CM T:Addr) (vs:List V) (H:Hp) (Q:VK) (E:XK):Prop|mk (b pw sh d:Addr) (sp ev le nn nt mo i:Int) (x:Str) (ps:List Addr) (cs:List Pc) (_:vs=[.ref b,.str x,.int i]) (_:fM CB CP H b pw sh d sp ev le nn nt mo ps cs) (_:cs.length<1000) (_:(cs.map Pc.n).Nodup) (_:∀c ∈ cs,c.n<nn) (_:eH x) (_:kC H T lJ gC)
 (_:i<mo->∀H',aM H H'->E (.ref CM) none H')
 (_:mo<=i->Qb cs le i->∀H',cY T H H'->kC H' T lJ gC->Q .non H')
 (_:mo<=i->∀(k:Nat) (p:Addr) (c:Pc) (r:Addr) (H':Hp),ps[k]?=some p->cs[k]?=some c->Vz cs i c->(∀a o,H a=some o->a≠b->a≠p->a≠T->H' a=some o)->kC H' T lJ gC ->
   fM CB CP H' b pw sh d sp ev le nn (nt+1) i ps (cs.set k { c with o:=some (nt,x,i+sp) })->H' r=some (.tup [.int nt,.int c.n,.int c.m,.int c.h,.int (i+sp)])->Q (.ref r) H')
 (_:mo<=i->∀(k:Nat) (p:Addr) (c:Pc) (q r:Addr) (pl:Int) (H':Hp),(∀c ∈ cs,c.free=false)->(∀c ∈ cs,c.late i=false)->ps[k]?=some p->cs[k]?=some c->lQ Pc.lent cs c->2 * le<=c.h-c.m->pl=c.h-(c.h-c.m) / 2->(∀a o,H a=some o->a≠b->a≠d->a≠p->a≠T->H' a=some o)->kC H' T lJ gC->H q=none ->
   fM CB CP H' b pw sh d sp ev le (nn+1) (nt+1) i (ps++[q]) (cs.set k { c with h:=pl }++[⟨nn,pl,c.h,pl,some (nt,x,i+sp)⟩])->H' r=some (.tup [.int nt,.int nn,.int pl,.int c.h,.int (i+sp)])->Q (.ref r) H')
def tN (CB CP CM T:Addr):Sp:=Po CB CP CM T
def Tq {cs:List Pc} {k:Nat} {c:Pc} {pl:Int} (a:cs[k]?=some c):(cs.set k { c with h:=pl }).map Pc.n=cs.map Pc.n:=by
 rw [List.map_set];refine List.ext_getElem? λi=>?_;by_cases z:k=i
 ·subst z;rw [E5 (by rw [g7];exact(c8.mp a).1),i8,a];rfl
 ·rw [D3 z]
def EY {n l h m:Int} {e:V} {pw sh d:Addr} {sp b a nn nt mo:Int}:¬ (pf n l h m e).length=(bf pw sh d sp b a nn nt mo).length:=by show ¬ 5=9;decide
def Ft {f j g:Addr} {cdv:Value} {A:Around} {outer:List Env} {s:Shared} {H:Hp} {E:XK} (F:Bl K mg j) (TP:Pl K mg g):
  ∃t,qX (jH (jN P w) P w K mg base ["self","worker","moment","chosen","piece","token","until"] "Book.lend" (aG tV) f cdv A outer s H E) ((bV tV).drop 5) t /\
   ∀(D:eK) (b pw sh d p:Addr) (sp L J nn nt mo i:Int) (x:Str) (ps:List Addr) (cs:List Pc) (k:Nat) (c:Pc) (o3 o5 o6:Option V) (B:Hp),fM j g B b pw sh d sp L J nn nt mo ps cs->ps[k]?=some p->cs[k]?=some c->(cs.map Pc.n).Nodup ->
    (∀r H',(∀a o,B a=some o->a≠b->a≠p->H' a=some o)->fM j g H' b pw sh d sp L J nn (nt+1) i ps (cs.set k { c with o:=some (nt,x,i+sp) })->H' r=some (.tup [.int nt,.int c.n,.int c.m,.int c.h,.int (i+sp)])->D.rt (.ref r) H') ->
    t D [some (.ref b),some (.str x),some (.int i),o3,some (.ref p),o5,o6] B:=by
 refine {_,aF (eI (i:=5) lY.nd rfl (j5 rfl) (aV (pv 0) rfl))
   (aF (eI (i:=6) lY.nd rfl (j5 rfl) (cI eR (pv 2) (aV (pv 0) rfl)))
   (aF (cD (pv 4) (cE (aA (pv 5) (aA (pv 1) (aA (pv 6) aE)))) rfl)
   (aF (cD (pv 0) (cI eR (pv 5) aX) rfl)
   (aF (cD (pv 0) (pv 2) rfl)
   (aH (bB (cE (aA (pv 5) (aA (aV (pv 4) rfl) (aA (aV (pv 4) rfl) (aA (aV (pv 4) rfl) (aA (pv 6) aE)))))))))))),?_};intro D b pw sh d p sp L J nn nt mo i x ps cs k c o3 o5 o6 B hb U hk nd t;let ((v,u),O,W):=id hb;let (c',a0,lv,(y,M),a4):=aQ W U;rw [hk] at a0;cases a0;refine {_,rfl,b,j,v,_,_,rfl,u,F.cl,F.nT,rfl,_,rfl,_,rfl,b,j,v,_,_,rfl,u,F.cl,F.nS,rfl,_,_,rfl,rfl,_,rfl,_,rfl,_,rfl,by show 3<=sizeLine;decide,λq nq=>?_};let Q:aM B (aR B q (.tup [.int nt,.str x,.int (i+sp)])):=aI nq;let e3:(aR B q (.tup [.int nt,.str x,.int (i+sp)])) q=some (.tup [.int nt,.str x,.int (i+sp)]):=aB;generalize aR B q (.tup [.int nt,.str x,.int (i+sp)])=S at Q e3 ⊢;let I:=Q _ _ M;let C:=Q _ _ u;let X:∀{p' c2 a1 n l h m} {lv:V},B p'=some (.ins c2 a1 (pf n l h m lv))->p'≠b:=λz=>aL z u (by intro z;injection z with _ _ z;exact absurd (congrArg List.length z) EY);let G:=X M;refine {_,rfl,p,g,y,_,rfl,I,TP.cl,TP.nD,(by show 5<1000;decide),?_};rw [uE];refine {_,rfl,_,_,rfl,rfl,_,rfl,b,j,v,_,rfl,(by rw [aC G.symm];exact C),F.cl,F.nT,(by show 9<1000;decide),?_};rw [Ow];refine {_,rfl,_,rfl,b,j,v,_,rfl,aB,F.cl,F.nM,(by show 9<1000;decide),?_};rw [bS,sY];let k5:∀a o,S a=some o->a≠p->a≠b->(aR (aR S p (.ins g y (pf c.n c.l c.h c.m (.ref q)))) b (.ins j v (bf pw sh d sp L J nn (nt+1) i))) a=some o:=λa o e T Z=>by
  rw [aC Z,aC T];exact e
 let p5:(aR (aR S p (.ins g y (pf c.n c.l c.h c.m (.ref q)))) b (.ins j v (bf pw sh d sp L J nn (nt+1) i))) p=some (.ins g y (pf c.n c.l c.h c.m (.ref q))):=by rw [aC G,aB]
 let b5:(aR (aR S p (.ins g y (pf c.n c.l c.h c.m (.ref q)))) b (.ins j v (bf pw sh d sp L J nn (nt+1) i))) b=some (.ins j v (bf pw sh d sp L J nn (nt+1) i)):=aB;generalize aR (aR S p (.ins g y (pf c.n c.l c.h c.m (.ref q)))) b (.ins j v (bf pw sh d sp L J nn (nt+1) i))=H5 at k5 p5 b5 ⊢;refine {_,rfl,_,rfl,p,g,y,_,_,rfl,p5,TP.cl,TP.nN,rfl,_,rfl,p,g,y,_,_,rfl,p5,TP.cl,TP.nM,rfl,_,rfl,p,g,y,_,_,rfl,p5,TP.cl,TP.nH,rfl,_,rfl,by show 5<=sizeLine;decide,λr nr=>?_};let s6:∀a o,S a=some o->a≠p->a≠b->(aR H5 r (.tup [.int nt,.int c.n,.int c.m,.int c.h,.int (i+sp)])) a=some o:=λa o e T Z=>aI nr _ _ (k5 _ _ e T Z);let tp:∀a Y,S a=some (.tup Y)->(aR H5 r (.tup [.int nt,.int c.n,.int c.m,.int c.h,.int (i+sp)])) a=some (.tup Y):=λa Y e=>s6 _ _ e (aL e I (by intro z;cases z)) (aL e C (by intro z;cases z));refine t r _ (λa o e T Z=>s6 _ _ (Q _ _ e) Z T) {{v,aI nr _ _ b5},?_,?_} aB
 ·rw [uQ (c':={ c with o:=some (nt,x,i+sp) }) hk rfl];exact s6 _ _ (Q _ _ O) (aL O M (by intro z;cases z)) (aL O u (by intro z;cases z))
 ·exact kP W nd U hk (λq' e' a3 ⟨a2,⟨dz,ha'⟩,hl'⟩=>{a2,{dz,s6 _ _ (Q _ _ ha') a3 (X ha')},hl'.move λa Y z=>tp a Y (Q _ _ z)}) {.ref q,{y,aI nr _ _ p5},tp _ _ e3}
def Mj (GC:dZ P w K mg base (jN P w) N.CB "choice" 5 (λvs H Q E=>vL N.CB N.CP N.T1 vs H Q E\/rV N.CB (c 1) vs H Q E)) (W:Wd P w K mg base N c):dZ P w K mg base (jN P w) N.CB "lend" 6 (tN N.CB N.CP (c 1) N.T1):=W.d45.of λ{f _} F=>by
 refine F.okE lY (λvs H Q E h=>?_) (λcdv A outer s H vs Q E hr h=>?_)
 ·let (b,T,U,d,Y,ev,le,I,S,L,i,x,J,G,rfl,_):=h
  rfl
 intro X D
 let (b,T,U,d,Y,ev,le,I,S,L,i,x,J,G,rfl,hb,lc,nd,lt,wx,tb,qM,qN,qP,qC):=h
 let (tT,pT,hT):=Ft (P:=P) (w:=w) (base:=base) (f:=f) (cdv:=cdv) (A:=A) (outer:=outer) (s:=s) (H:=H) (E:=E) W.B W.P
 refine {_,aF (cJ (aS (wV W) hr aN (aA (pv 1) aE)))
   (aF (eI (i:=3) lY.nd rfl (j5 rfl) (bE (pv 0) W.B.cl GC hr (fA (E':=E) λ_ _ _ z=>z) (aA (pv 2) aE)))
   (aF (bQ (cH Lu (pv 3) gB (bO _)) (aH (bB gB)) aY)
   (aF (eI (i:=4) lY.nd rfl (j5 rfl) (bE (pv 0) W.B.cl (Cw W) hr aN (aA (dQ dU (pv 3) aX (λ_ _=>rfl)) aE)))
   (aF (bQ (cH wM (dQ dU (pv 3) aX (λ_ _=>rfl)) eP (bO _)) (aH (eI (i:=4) lY.nd rfl (j5 rfl) (bE (pv 0) W.B.cl (zQ W) hr aN (aA (pv 4) (aA (dQ dU (pv 3) aX (λ_ _=>rfl)) aE))))) aY)
   pT)))),?_}
 refine {_,rfl,x,rfl,wx,λH1 s1=>?_}
 let a2:=hb.sameT (aM.toT s1)
 let (dx,Z):=a2.ob
 refine {_,rfl,b,dx,_,rfl,Z,rfl,_,rfl,?_}
 by_cases hi:L<=i
 rotate_left
 ·exact .inr {b,T,U,d,Y,ev,le,I,S,L,.int i,rfl,{(dx),Z},.kn (.int _),decide_eq_false hi,qM ∎ _ s1}
 refine .inl {b,T,U,d,Y,ev,le,I,S,L,i,J,G,rfl,a2,∎,hi,tb.same s1,λv H2 kt O ch=>?_}
 let st:eB H1 H2:=by
  let (qs,e,_):=tb.same s1;exact kt.toT e
 let C:=a2.sameT st;let ((a3,u),a6,a4):=id C;let a5:∀c ∈ G,∃k p dp lv,G[k]?=some c/\J[k]?=some p/\H2 p=some (.ins N.CP dp (pf c.n c.l c.h c.m lv)):=λc hc=>by
  let (k,y):=A1.mp hc;let hl:k<J.length:=by have:=a4.length;have:=(c8.mp y).1;omega
  let (c',a7,lv,(dp,g),ac):=aQ a4 (c7 hl);rw [y] at a7;cases a7;exact {k,_,dp,lv,y,c7 hl,g}
 let M:∀a o,H a=some o->a≠N.T1->H2 a=some o:=λa o e n=>kt _ _ n (s1 _ _ e);cases ch with
 | non h1 h2 h3=>exact {_,rfl,rfl,_,rfl,cW (qN hi {(h1),h2,h3} H2 (λa o n e=>M a o e n) O)}
 | @pc c r0 bc e2=>
  let bc:Vz G i c:=bc;let (k,p,dp,lv,y,t,g):=a5 c bc.mem;refine {_,rfl,rfl,_,rfl,cO {_,rfl,b,a3,_,rfl,u,rfl,_,rfl,r0,_,_,_,rfl,rfl,cA.of e2,bW (j:=1) rfl,b,T,U,d,Y,ev,le,I,S,L,J,G,k,p,c,rfl,C,t,y,nd,_,rfl,r0,_,_,_,rfl,rfl,cA.of e2,bW (j:=0) rfl,rfl,_,rfl,dC ⋯ ?_}};refine hT _ b T U d p Y ev le I S L i x J G k c _ _ _ H2 C t y nd λr H' kp bk a1=>qP hi k p c r H' t y bc (λa o e n1 n2 n3=>kp _ _ (M a o e n3) n1 n2) (lV O (λqs e=>kp _ _ e (aL e u (by intro z;cases z)) (aL e g (by intro z;cases z))) λa f e=>kp _ _ e (aL e u (by intro z;cases z)) (aL e g (by intro z;cases z))) bk a1
 | @cut c r0 h1 h2 bc hl e2=>
  let (k,p,dp,lv,y,t,g):=a5 c bc.1;refine {_,rfl,rfl,_,rfl,cO {_,rfl,b,a3,_,rfl,u,rfl,_,rfl,r0,_,_,_,rfl,rfl,cA.of e2,bW (j:=1) rfl,b,T,U,d,Y,ev,le,I,S,L,J,G,k,p,c,rfl,C,t,y,nd,_,rfl,r0,_,_,_,rfl,rfl,cA.of e2,bW (j:=0) rfl,rfl,_,rfl,eT ⋯ ?_}};refine {_,rfl,b,a3,_,rfl,u,rfl,_,rfl,_,rfl,r0,_,_,_,rfl,rfl,cA.of e2,bW (j:=2) rfl,b,T,U,d,Y,ev,le,I,S,L,_,J,G,k,p,c,rfl,C,t,y,nd,lt,lc,λq H3 nq kc a8=>?_};let lX:(G.set k { c with h:=c.h-(c.h-c.m) / 2 }).length=J.length:=by rw [L8];exact a4.length.symm
  let a9:((G.set k { c with h:=c.h-(c.h-c.m) / 2 }++[({I,c.h-(c.h-c.m) / 2,c.h,c.h-(c.h-c.m) / 2,none}:Pc)]).map Pc.n).Nodup:=by
   rw [n6,Tq y,O0];refine {nd,by simp,λa ha b hb z=>?_};let (e,he,rfl):=w8.mp ha;simp only [r6,P4,l6] at hb;have:=lt e he;omega
  refine hT _ b T U d q Y ev le (I+1) S L i x _ _ J.length {I,c.h-(c.h-c.m) / 2,c.h,c.h-(c.h-c.m) / 2,none} _ _ _ H3 a8 (by simp) (by rw [<- lX];simp) a9 λr H' kp bk a1=>?_;rw [List.set_append_right _ _ ∎,lX,Nat.sub_self] at bk;let a0:∀a o,H2 a=some o->a≠b->a≠d->a≠p->H' a=some o:=λa o e n1 n2 n3=>kp _ _ (kc _ _ e n1 n2 n3) n1 (λz=>by rw [z,nq] at e;cases e);let aa:H q=none:=by
   cases e:H q with
   | none=>rfl
   | some o=>
    by_cases z:q=N.T1
    ·let (_,e',_):=O;rw [<- z,nq] at e';cases e'
    ·rw [M _ _ e z] at nq;cases nq
  exact qC hi k p c q r _ H' h1 h2 t y bc hl rfl (λa o e n1 n2 n3 n4=>a0 _ _ (M a o e n4) n1 n2 n3) (lV O (λqs e=>a0 _ _ e (aL e u (by intro z;cases z)) (aL e a6 (by intro z;cases z)) (aL e g (by intro z;cases z))) λa f e=>a0 _ _ e (aL e u (by intro z;cases z)) (aL e a6 (by intro z;cases z)) (aL e g (by intro z;cases z))) aa bk a1
inductive Ao (CB CP CM CN CL CT:Addr) (vs:List V) (H:Hp) (E:XK):Prop|mk (b pw sh d:Addr) (sp ev le nn nt mo:Int) (ps:List Addr) (cs:List Pc) (v pl ns u:V) (_:vs=[.ref b,v,pl,ns,u]) (_:fM CB CP H b pw sh d sp ev le nn nt mo ps cs) (_:sZ H v) (_:sZ H u) (_:sZ H pl) (_:(yH (mo<=·) u=false->E (.ref CM) none H)) (_:(yH (mo<=·) u=true->yH (λx=>0<=x/\x<nt) v=false->E (.ref CN) none H)) (_:(yH (mo<=·) u=true->∀tk,v=.int tk->0<=tk->tk<nt->(∀c ∈ cs,c.has tk=false)->∀H',aM H H'->E (.ref CL) none H')) (_:(yH (mo<=·) u=true->∀tk,v=.int tk->0<=tk->tk<nt->∀(k:Nat) (p:Addr) (c:Pc),ps[k]?=some p->cs[k]?=some c->c.has tk=true->(∀j e,cs[j]?=some e->j<k->e.has tk=false)->yH (λx=>c.l<=x/\x<=c.m) pl=false/\∀H',aM H H'->E (.ref CT) none H'))
def jR (CB CP CM CN CL CT:Addr):Sp:=λvs H _ E=>Ao CB CP CM CN CL CT vs H E
def zL (W:Wd P w K mg base N c):dZ P w K mg base (jN P w) N.CB "piece_to_tell" 4 (jR N.CB N.CP (c 1) (c 2) (c 3) (c 4)):=W.d56.of λ{f _} F=>by
 refine F.okE gX (λvs H Q E h=>?_) (λy A G s H vs Q E Z h=>?_)
 ·let (b,M,T,d,Y,ev,le,S,L,O,ps,cs,v,pl,ns,u,rfl,_):=h
  rfl
 ·intro X D
  let (b,M,T,d,Y,ev,le,S,L,O,ps,cs,v,pl,ns,u,rfl,I,kv,ku,kp,q1,q2,q3,q4):=h
  let j:Room 1 (A.deeper (PyProof.Rows.envOfC "Book.piece_to_tell" (aG oY) s.heap.objs.size f y)):=Z.mono (by decide)
  refine {_,aF (eI (i:=5) gX.nd rfl (j5 rfl) (bE (pv 0) W.B.cl (wS W) Z (fA (E':=E) λ_ _ _ z=>z) (aA (pv 1) (aA (pv 4) aE))))
   (aF (bQ (PW.pt (eN (cC (bY (aS (dI W) j aN (aA (pv 2) aE)))) (dP (cC (iW fO fO (aV (pv 5) rfl) (pv 2) (aV (pv 5) rfl)))))) (aH (fX rfl W.x4.ex rfl W.x4.mB dO (aA eP aE))) aY) cU),?_}
  let (dx,r):=I.ob
  let a:1<=sizeLine:=by decide
  refine {_,rfl,b,dx,_,rfl,r,rfl,_,rfl,_,rfl,b,M,T,d,Y,ev,le,S,L,O,ps,cs,v,u,rfl,I,kv,ku,q1,q2,q3,λhu tk hv t0 t1 k p c hp U hh hf H1 n=>?_}
  let (no,q):=q4 hu tk hv t0 t1 k p c hp U hh hf
  let q:=q H1 n
  let C:=I.sameT (aM.toT n)
  let (c',g,lv,(t,e),a0):=aQ C.pc hp
  rw [U] at g
  cases g
  refine {_,rfl,_,rfl,kp.same n,_,rfl,?_}
  cases hw:fJ pl with
  | false=>exact cW (cW {(a),q})
  | true=>
  let (x,rfl):=lU hw
  refine cO ?_
  by_cases o:c.l<=x
  rotate_left
  ·exact {_,rfl,p,N.CP,t,_,_,rfl,e,W.P.cl,W.P.nL,rfl,_,rfl,_,_,rfl,rfl,_,rfl,dC (decide_eq_false o) {_,rfl,cW {(a),q}}}
  refine {_,rfl,p,N.CP,t,_,_,rfl,e,W.P.cl,W.P.nL,rfl,_,rfl,_,_,rfl,rfl,_,rfl,eT (decide_eq_true o) {_,rfl,p,N.CP,t,_,_,rfl,e,W.P.cl,W.P.nM,rfl,_,_,rfl,rfl,_,rfl,?_}}
  by_cases J:x<=c.m
  ·exact absurd (decide_eq_true (p:=c.l<=x/\x<=c.m) {(o),J}) (by have z:decide (c.l<=x/\x<=c.m)=false:=no;rw [z];decide)
  ·rw [decide_eq_false J]
   exact cW {(a),q}
def zN {f:Addr} {m:FuncData} {sp:Sp} {n:Nat} (F:tD K "tell" "Book.tell" oZ f m) (t:∀e H Q y E,sp e H Q E->sp e H y E) (a:∀e H Q E,sp e H Q E->∃(b pw sh d:Addr) (sp g j nn nt mo:Int) (v pl ns u:V),e=[.ref b,v,pl,ns,u]/\Hj N.CB H b pw sh d sp g j nn nt mo) (q:dZ P w K mg base (jN P w) N.CB "piece_to_tell" n sp) (W:Wd P w K mg base N c):bK P w K mg base (jN P w) (n+1) f m ["self","token","place","numbers","moment"] sp:=by
 refine F.okE tS (λe H Q E h=>?_) (λp A k s H e Q E x h=>?_)
 ·let (b,pw,sh,d,sp,g,j,nn,nt,mo,v,pl,ns,u,rfl,_):=a _ _ _ _ h;rfl
 ·intro X D;let (b,pw,sh,d,o,g,j,nn,nt,mo,v,pl,ns,u,rfl,(r,l)):=a _ _ _ _ h;refine {_,aF (eI (i:=5) tS.nd rfl (j5 rfl) (bE (pv 0) W.B.cl q x (fA (E':=E) λ_ _ _ z=>z) (aA (pv 1) (aA (pv 2) (aA (pv 3) (aA (pv 4) aE)))))) cU,?_};exact {_,rfl,b,r,_,rfl,l,rfl,_,rfl,_,rfl,_,rfl,_,rfl,t _ _ _ _ _ h}
def Lx {f:Addr} {a:FuncData} (F:tD K "tell" "Book.tell" oZ f a) (W:Wd P w K mg base N c):bK P w K mg base (jN P w) 5 f a ["self","token","place","numbers","moment"] (jR N.CB N.CP (c 1) (c 2) (c 3) (c 4)):=
 zN F (λ_ _ _ _ _ h=>h) (λr H Q E h=>by
  let (b,k,e,d,o,m,n,q,j,l,s,t,v,i,p,u,rfl,g,_):=h
  exact {(b),k,e,d,o,m,n,q,j,l,v,i,p,u,rfl,g.ob}) (zL W) W
inductive Ap (CB CS CP CT CO:Addr) (vs:List V) (H:Hp) (Q:VK) (E:XK):Prop|mk (b pw sh d pw' d' nr:Addr) (sp ev le nn nt mo tk i pl:Int) (ps:List Addr) (cs:List Pc) (k:Nat) (p:Addr) (c:Pc) (ws:Lm.Ps) (kvs:List (bZ × V)) (ns:List Int) (_:vs=[.ref b,.int tk,.int pl,.ref nr,.int i]) (_:fM CB CP H b pw sh d sp ev le nn nt mo ps cs) (_:cM CS H sh pw' d' ws kvs) (_:mo<=i) (_:0<=tk) (_:tk<nt) (_:ps[k]?=some p) (_:cs[k]?=some c) (_:c.has tk=true) (_:(∀j e,cs[j]?=some e->j<k->e.has tk=false)) (_:H nr=some (.tup (ns.map V.int))) (_:ns.length<=1000) (_:c.l<=pl) (_:pl<=c.m) (_:-(2 ^ 61)<=pl) (_:pl<=2 ^ 61) (_:(∀(j:Nat) n,ns[j]?=some n->pl+(j:Int)<c.m->∃x,cZ kvs (Sum.inl (pl+(j:Int)):bZ)=some (.int x))) (_:(c.m+ev<pl+ns.length->∀H',aM H H'->E (.ref CT) none H')) (_:(pl+ns.length<=c.m+ev->(∃(j:Nat) (n x:Int),ns[j]?=some n/\pl+(j:Int)<c.m/\cZ kvs (Sum.inl (pl+(j:Int)):bZ)=some (.int x)/\n≠x)->∀H',aM H H'->E (.ref CO) none H')) (_:(pl+ns.length<=c.m+ev->(∀(j:Nat) n,ns[j]?=some n->pl+(j:Int)<c.m->cZ kvs (Sum.inl (pl+(j:Int)):bZ)=some (.int n))->∀H',aM H H'->Q (.ref p) H'))
def rT (CB CS CP CT CO:Addr):Sp:=Ap CB CS CP CT CO
def zM (GH:dZ P w K mg base cX N.CB "held_piece" 3 (yR N.CB N.CP)) (W:Wd P w K mg base N c):dZ P w K mg base (jN P w) N.CB "piece_to_tell" 4 (rT N.CB N.CS N.CP (c 4) (c 5)):=W.d56.of λF=>by
 refine F.okE gX (λvs H Q E h=>?_) (λa7 A a2 s H vs Q E hr h=>?_)
 ·let (b,pw,sh,d,a0,d',O,sp,ev,le,nn,nt,mo,tk,i,f,ps,cs,k,p,c,ws,o,t,rfl,_):=h
  rfl
 ·intro X D
  let (b,pw,sh,d,a0,d',O,sp,ev,le,nn,nt,mo,tk,i,f,ps,cs,k,p,c,ws,o,t,rfl,hb,hs,hi,t0,t1,hp,r,ht,a4,hn,ln,p1,p2,p4,p5,kn,qT,qO,qR):=h
  let sl:sizeLine=16777216:=sizeLine_eq
  let ((dx,L),a8,a3):=id hb
  let (c',T,lv,(dp,J),a5):=aQ a3 hp
  rw [r] at T
  cases T
  refine Wp.ex {_,aF (eI (i:=5) gX.nd rfl (j5 rfl) (bE (pv 0) W.B.cl GH hr aN (aA (pv 1) (aA (pv 4) aE)))) aU,?_}
  refine {_,rfl,b,dx,_,rfl,L,rfl,_,rfl,_,rfl,b,pw,sh,d,sp,ev,le,nn,nt,mo,tk,i,ps,cs,k,p,c,rfl,hb,hi,t0,t1,hp,r,ht,a4,λH1 s1=>?_}
  let I:=s1 _ _ J
  refine {_,aF (bQ (PW.pt (eN (cC (bY (aS (dI W) hr aN (aA (pv 2) aE)))) (dP (cC (iW fO fO (aV (pv 5) rfl) (pv 2) (aV (pv 5) rfl)))))) cU aY) aU,?_}
  refine {_,rfl,_,rfl,.kn (.int _),_,rfl,cO ?_}
  refine {_,rfl,p,N.CP,dp,_,_,rfl,I,W.P.cl,W.P.nL,rfl,_,rfl,_,_,rfl,rfl,_,rfl,eT (decide_eq_true p1) {_,rfl,p,N.CP,dp,_,_,rfl,I,W.P.cl,W.P.nM,rfl,_,_,rfl,rfl,_,rfl,dC (by rw [decide_eq_true p2];rfl) ?_}}
  refine {_,aF (bQ (cC (bY (aS (pM W) hr aN (aA (pv 3) aE)))) cU aY) aU,?_}
  refine {_,rfl,O,t,rfl,s1 _ _ hn,ln,λH2 s2=>{_,rfl,cO ?_}}
  let C:=s1.trans s2
  let a1:=C _ _ J
  let Y:=C _ _ L
  refine {_,aF (bQ (cH Lv (cI eR (pv 2) (bF cG (by rfl) W.G.len PySem.boot_len (aA (pv 3) aE))) (cI eR (aV (pv 5) rfl) (aV (pv 0) rfl)) (bO _)) (aH (fX rfl W.x4.ex rfl W.x4.mB dO (aA eP aE))) aY) aU,?_}
  refine {_,rfl,_,rfl,O,_,rfl,.inr (cA.of (C _ _ hn)),_,_,rfl,rfl,_,rfl,p,N.CP,dp,_,_,rfl,a1,W.P.cl,W.P.nM,rfl,_,rfl,b,N.CB,dx,_,_,rfl,Y,W.B.cl,W.B.nE,rfl,_,_,rfl,rfl,_,_,rfl,rfl,_,rfl,?_}
  rw [g7]
  refine gQ (λr=>?_) λr=>?_
  ·let r:=of_decide_eq_true r
   exact {by show 1<=sizeLine;decide,qT ∎ _ C}
  let p3:f+t.length<=c.m+ev:=by
   have:¬ (c.m+ev<f+(t.length:Int)):=λz=>r (decide_eq_true z);omega
  refine {_,aF (eJ N9 rfl (Cr (by rfl) W.G.enum sR (aA (pv 3) aE) (nV (pv 2) uC)) (fZ (n:=2) rfl (bH (aW (i:=6) gX.nd rfl (j5 rfl)) (bH (aW (i:=7) gX.nd rfl (j5 rfl)) eO))) aU) aU,?_};refine {_,rfl,_,rfl,O,f,rfl,rfl,Dp p4 p5,{_,cA.of (C _ _ hn)},xK (K:=K) (a:=O) (d:=f) (xs:=t.map V.int) (λj σ G=>aM H2 G/\(∀(g:Nat) n,g<j->t[g]?=some n->f+(g:Int)<c.m->cZ o (Sum.inl (f+(g:Int)):bZ)=some (.int n))/\∃u v,σ=[some (.ref b),some (.int tk),some (.int f),some (.ref O),some (.int i),some (.ref p),u,v]) {aM.refl _,λg n h=>absurd h (D9 _),_,_,rfl} (λj σ G _ h=>cA.of (h.1 _ _ (C _ _ hn))) ?_ ?_}
  ·rintro j y σ G q hj ⟨Z,al,u,v,rfl⟩ nq;let s3:aM G (aR G q (.tup [.int (f+(j:Int)),y])):=aI nq;let e3:(aR G q (.tup [.int (f+(j:Int)),y])) q=some (.tup [.int (f+(j:Int)),y]):=aB;generalize aR G q (.tup [.int (f+(j:Int)),y])=G3 at s3 e3 ⊢;let t3:=C.trans (Z.trans s3);obtain⟨n,M,rfl⟩:∃n,t[j]?=some n/\y=.int n:=by
    rw [i8] at hj;cases z:t[j]? with
    | none=>rw [z] at hj;cases hj
    | some n=>rw [z] at hj;exact {n,rfl,(Option.some.inj hj).symm}
   let up:(f+(j:Int)<c.m->cZ o (Sum.inl (f+(j:Int)):bZ)=some (.int n))->∀(g:Nat) n,g<j+1->t[g]?=some n->f+(g:Int)<c.m->cZ o (Sum.inl (f+(g:Int)):bZ)=some (.int n):=λh g n' a6 e l=>by
    by_cases z:g<j
    ·exact al g n' z e l
    ·have:g=j:=∎;subst this;rw [M] at e;cases e;exact h l
   refine {q,_,rfl,cA.of e3,rfl,_,_,rfl,_,_,rfl,rfl,?_};refine {_,aH (bQ (PW.pt (iV (cH iJ (pv 6) (aV (pv 5) rfl) (bO _)) (gE (cH sC (pv 7) (bE (aV (pv 0) rfl) W.S.cl (AC W) hr aN (aA (pv 6) aE)) (bO _))))) (aH (fX rfl W.x5.ex rfl W.x5.mB dO (aA eP aE))) aY),?_};refine {_,rfl,_,rfl,p,N.CP,dp,_,_,rfl,t3 _ _ J,W.P.cl,W.P.nM,rfl,_,_,rfl,rfl,_,rfl,?_};refine gQ (λr=>?_) λr=>cO {Z.trans s3,up λz=>absurd (decide_eq_true z) r,_,_,rfl};let U:f+(j:Int)<c.m:=by simpa using r
   let S3:=hs.same t3;let (dz,hz):=S3.ob;let (x,hx):=kn j n M U;refine {_,rfl,_,rfl,b,N.CB,dx,_,_,rfl,t3 _ _ L,W.B.cl,W.B.nH,rfl,sh,dz,_,rfl,hz,gK _ _ ⋯ ⋯,_,rfl,sh,a0,d',ws,o,.int (f+(j:Int)),rfl,S3,.kn (.int _),(λz=>nomatch z),λi' e=>?_};cases e;rw [hx];refine {rfl,_,rfl,?_};by_cases z:n=x
   ·subst z;exact FP rfl {Z.trans s3,up λ_=>hx,_,_,rfl}
   ·refine eT ?_ {by show 1<=sizeLine;decide,qO p3 {(j),n,x,M,U,hx,z} _ t3};show (!decide (V.int n=V.int x))=true;rw [decide_eq_false λy=>z (V.int.inj y)];rfl
  ·rintro σ G ⟨Z,al,u,v,rfl⟩;refine {_,aH (bB (pv 5)),?_};exact {_,rfl,qR p3 (λj n e l=>al j n (by rw [g7];exact(c8.mp e).1) e l) _ (C.trans Z)}
end
end Ls
namespace L2
open PySem PySem.W
def bK.calm {P:Program} {w:World} {K:Frag} {mg:Str->Option Value} {base:Heap} {k:Nat} {f:Addr} {fd:FuncData} {ps:List Str} {sp:Sp} (F:bK P w K mg base (jN P w) k f fd ps sp):bK P w K mg base cX k f fd ps (λd H Q _=>sp d H Q E0):=
 ⟨λd H Q E h=>F.len d H Q E0 h,λA a s H b g d Q E l j i r h=>D5 (F.run A a s H b g d Q E0 l j i r h) λx m q=>by
  cases x with
  | ok fl=>cases fl <;> exact q
  | error e=>
   let (_,_,_,_,_,_,_,_,_,z):=q
   exact z.elim⟩
end L2
namespace Ls
open PySem L2 PySem.W
section
variable {P:Program} {w:World} {K:Frag} {mg:Str->Option Value} {base:Heap} {N:Cn} {c:Nat->Addr} {f CB CS CP CM CN CL CT CO:Addr} {fd:FuncData} {k:Nat} {xs:List Str}
def lG {p:Int->Prop} [DecidablePred p] {i:Int} {A:Prop} (h:p i) (z:yH p (.int i)=false):A:=absurd h (of_decide_eq_false z)
def Mp (G:bK P w K mg base (jN P w) k f fd xs (Im CB CM)):bK P w K mg base cX k f fd xs (tM CB):=G.calm.imp λs H Q E h=>by
 let (b,j,a,d,o,m,n,r,g,l,i,rfl,e,p,q):=h
 exact {b,j,a,d,o,m,n,r,g,l,.int i,rfl,e,.kn (.int _),λ_=>q,λz=>lG p z}
def Ud (G:bK P w K mg base (jN P w) k f fd xs (Bp CB CP CM CN CL)):bK P w K mg base cX k f fd xs (yR CB CP):=G.calm.imp λvs H Q E h=>by
 let (b,y,C,d,D,U,I,B,s,A,F,i,X,Y,j,p,c,rfl,O,Z,J,S,hp,t,l,m,q):=h
 refine {b,y,C,d,D,U,I,B,s,A,X,Y,.int F,.int i,rfl,O,.kn (.int _),.kn (.int _),λz=>lG Z z,λ_ z=>lG (p:=λx=>0<=x/\x<s) {(J),S} z,λ_ r e _ _ L=>?_,λ_ r e _ _ u p' M a n g o T v=>?_}
 ·cases e
  rw [L c (i6 t)] at l
  cases l
 ·cases e
  rcases J5 j u with z|z|z
  ·rw [o j c t z] at l
   cases l
  ·subst z
   rw [hp] at a
   cases a
   exact q T v
  ·rw [m u M n z] at g
   cases g
def Em (G:bK P w K mg base (jN P w) k f fd xs (rT CB CS CP CT CO)):bK P w K mg base cX k f fd xs (vK CB CS CP):=G.calm.imp λvs H Q E h=>by
 let (b,s,B,d,g,U,L,F,ev,S,u,r,t,M,i,pl,ps,cs,j,p,c,O,m,T,rfl,hb,C,hi,X,t1,hp,D,ht,a,I,Z,y,A,p3,Y,p5,o,q):=h
 refine {b,s,B,d,g,U,L,F,ev,S,u,r,t,M,i,pl,ps,cs,j,p,c,O,m,T,rfl,hb,C,hi,X,t1,hp,D,ht,a,I,Z,y,A,Y,p5,λj n e l=>{n,o j n e l},λz=>absurd z ∎,?_,λ_ _=>q}
 rintro _ ⟨j,n,x,e,l,v,J⟩
 rw [o j n e l] at v
 cases v
 exact absurd rfl J
end
section
variable {P:Program} {w:World} {K:Frag} {mg:Str->Option Value} {base:Heap} {N:Cn} {c:Nat->Addr} (W:Wd P w K mg base N c)
include W
def wO:dZ P w K mg base cX N.CB "check_moment" 2 (tM N.CB):=(uJ W).to Mp
def Th:dZ P w K mg base cX N.CB "held_piece" 3 (yR N.CB N.CP):=(wS W).to Ud
def Mi:dZ P w K mg base (jN P w) N.CB "lend" 6 (tN N.CB N.CP (c 1) N.T1):=Mj (W.d44.of λF=>(bK.lift (sE F (wO W) W)).both ((zR F W).mono (by decide))) W
def Fg:dZ P w K mg base (jN P w) N.CB "tell" 5 (λa H Q E=>yP N.CB N.CS N.CP a H Q E\/jR N.CB N.CP (c 1) (c 2) (c 3) (c 4) a H Q E):=W.d46.of λF=>(bK.lift (Sv F ((zM (Th W) W).to Em) W)).both (Lx F W)
end
inductive Vt (K:Frag) (vs:List V) (H:Hp) (Q:VK) (E0_:XK):Prop|mk (a:Addr) (ns:List Int) (k:Nat) (_:vs=[.ref a,.int k]) (_:dD K H a (ns.map V.int)) (_:ns.length<=63) (_:∀c,Q (.int c) H)
def Yu (K:Frag):Sp:=Vt K
def qG:Int:=10 ^ 18+9
inductive Pw (vs:List V) (H:Hp) (Q:VK) (E0_:XK):Prop|mk (c:Int) (m:Nat) (_:vs=[.int c,.int m]) (_:m<=50) (_:∀(l:Addr) (xs:List Int) (H':Hp),aM H H'->xs.length=m->(∀x ∈ xs,0<=x/\x<qG)->H' l=some (.lst (xs.map V.int))->Q (.ref l) H')
def Rb:Sp:=Pw
section
variable {P:Program} {w:World} {K:Frag} {mg:Str->Option Value} {base:Heap} {N:Cn} {c:Nat->Addr}
def Zl:aJ ["_law_script","_law_k"] ["_law_script","_law_k"] (aG Wy):={rfl,rfl,rfl,⋯,rfl,⋯,⋯}
def uL (W:Wd P w K mg base N c):jM P w K mg base cX "_law_cell_at" 1 (Yu K):=W.d13.of λF=>by
 refine F.ok Zl (λi H Q E h=>?_) (λg A d s H i Q E m h=>?_)
 ·let (a,b,k,rfl,_):=h
  rfl
 ·intro X D
  let (a,b,k,rfl,e,n,q):=h
  refine {_,aF (bQ (cH iJ (pv 1) (bF cG (by rfl) W.G.len PySem.boot_len (aA (pv 0) aE)) (bO _)) (aH (bB (dQ jV (pv 0) (pv 1) (λ_ _=>rfl)))) aY)
   (aH (bB aX)),?_}
  refine {_,rfl,_,rfl,a,_,rfl,.inl e,_,_,rfl,rfl,_,rfl,?_}
  refine gQ (λf=>?_) (λf=>q 0)
  let l:k<b.length:=by
   have:=of_decide_eq_true f;rw [g7] at this;omega
  refine {_,rfl,_,rfl,a,_,_,_,rfl,rfl,e,bW (j:=k) (v:=V.int b[k]) (by rw [i8,c7 l];rfl),q _}
def By:aJ ["_law_cell","_law_many","_law_found","_law_rest","_law_number","_law_k"] ["_law_cell","_law_many"] (aG tW):={rfl,rfl,rfl,⋯,rfl,⋯,⋯}
def pN (W:Wd P w K mg base N c):jM P w K mg base cX "_law_draws" 1 Rb:=W.d14.of λ{f _} F=>by
 refine F.ok By (λvs H Q E h=>?_) (λa4 A Y s H vs Q E hr h=>?_)
 ·let (c,m,rfl,_):=h
  rfl
 ·intro X D
  let (c,m,rfl,hm,q):=h
  let nd:=By.nd
  let G1:=W.G.len
  let S:(0:Int)<10 ^ (15:Int).toNat/\(10:Int) ^ (15:Int).toNat<2 ^ 64:=by decide
  let Z:=S.1
  let a2:(0:Int)<10 ^ (18:Int).toNat+9:=by decide
  let d:(10:Int) ^ (18:Int).toNat+9=qG:=by decide
  let k:(10:Int) ^ (15:Int).toNat=1000000000000000:=by decide
  let O:qG=1000000000000000009:=by decide
  refine Wp.ex (lT (n:=2) nd rfl mU (i5 _) λl H1 hl s1 e1=>?_)
  let B:∀{U:Hp} {o:HO},aM H U->aM H (aR U l o):=λ{U o} e b u z=>by
   rw [aC (aD z hl)]
   exact e b u z
  let sz:∀{n:Nat},n<=1000->n<sizeLine:=λh=>gU h
  show 3
  let k3:∀r:Int,0<=r->Wp (jH cX P w K mg base ["_law_cell","_law_many","_law_found","_law_rest","_law_number","_law_k"] "_law_draws" (aG tW) f a4 A Y s H E).nox ((bV tW).drop 3) {λ_ H'=>Q .non H',Q,λ_ _=>False,λ_ _=>False} [some (.int c),some (.int m),some (.ref l),some (.int r),none,none] H1:=λr hr=>by
   refine iQ v4 (λt σ U=>∃(L:List Int) (r:Int),t=m-L.length/\σ=[some (.int c),some (.int m),some (.ref l),some (.int r),none,none]/\U l=some (.lst (L.map V.int))/\aM H U/\L.length<=m/\(∀x ∈ L,0<=x/\x<qG)/\0<=r) _
    {[],r,rfl,rfl,e1,s1,i5 _,(λx hx=>absurd hx (by simp)),hr} λt σ U h=>?_
   let (L,r,rfl,rfl,hL,hs,hy,hb,a8):=h
   by_cases h1:1<r/\L.length<m
   ·refine .inl {?_,λD' T=>?_}
    ·apply Tv.is;apply fG;symm;intro _;symm
     rw [g7,decide_eq_true h1.1,decide_eq_true ∎]
     rfl
    ·apply rH;symm;symm;exact hL;(rw [g7];exact sz ∎);rotate_left;rfl;exact iX PySem.F.plainAttrs_list PySem.F.slot_list_append PySem.F.type_list_append cV aP (aA aP aE)
     show 3
     refine bX (T.nx _ _ {m-(L.length+1),∎,L++[r % 10 ^ (15:Int).toNat],_,by rw [i7];rfl,rfl,by rw [aB,n6];rfl,B hs,by rw [i7];exact h1.2,λx hx=>?_,?_})
     ·rcases j1.mp hx with hx|hx
      ·exact hb x hx
      ·have:x=r % 10 ^ (15:Int).toNat:=by simpa using hx
       rw [this,k,O]
       omega
     ·rw [k]
      omega
   refine .inr {?_,?_}
   ·apply Tv.is;apply fG;symm;intro _;symm
    rw [g7,Bool.and_eq_false_iff]
    by_cases h2:1<r
    ·exact .inr (decide_eq_false ∎)
    ·exact .inl (decide_eq_false h2)
   show 4
   refine Hn (n:=5) (j:=(m:Int)+3) v4 W.G.range nd rfl (by symm) ∎ (λi σ H3=>∃(g:List Int) (a:Int) (v:Option V) (r:Int),σ=[some (.int c),some (.int m),some (.ref l),some (.int r),some (.int a),v]/\H3 l=some (.lst (g.map V.int))/\aM H H3/\g.length<=50+i/\i<=g.length+3/\(∀x ∈ g,0<=x/\x<qG)/\0<=a/\a<qG+48271)
    {L,_,none,_,rfl,hL,hs,∎,∎,hb,by rw [d,O];omega,by rw [d,O];omega} (λi σ H3 D' hi h T=>?_) λσ H3 h=>?_
   ·let (g,a,v,r2,rfl,I,C,a0,a6,J,a1,M):=h
    let cm:Hi a a:=.inl {by rw [O] at M;omega,by rw [O] at M;omega}
    let nn:∀z:Int,0<=z % (10 ^ (18:Int).toNat+9)/\z % (10 ^ (18:Int).toNat+9)<qG:=λz=>by
     rw [d,O]
     omega
    let nx:=nn (a * a+48271 * a+(0+(i:Int)))
    show 4
    apply oM;symm
    ·intro h3
     let a5:∀y:Int,Hi ((a * a+48271 * a+(0+(i:Int))) % (10 ^ (18:Int).toNat+9)) y:=λy=>.inl ⟨∎,by have:=nx.2;rw [O] at this;omega⟩
     let a7:=a5 ((a * a+48271 * a+(0+(i:Int))) % (10 ^ (18:Int).toNat+9) / 1009+69621)
     apply rH;symm;symm;exact I;(rw [g7];exact sz ∎);rotate_left;rfl;exact iX PySem.F.plainAttrs_list PySem.F.slot_list_append PySem.F.type_list_append cV aP (aA aP aE)
     refine bX (bX (T.nx _ _ {g++[_],_,_,_,rfl,by rw [aB,n6];rfl,B C,by rw [i7];show g.length+1<=_;omega,by rw [i7];show _<=g.length+1+3;omega,λx hx=>?_,nx.1,∎}))
     rcases j1.mp hx with hx|hx
     ·exact J x hx
     ·have:=l6.mp hx
      rw [this]
      exact nn _
    ·intro h3
     let a9:¬ (2:Int)<0+(i:Int):=by simpa using h3
     exact bX (bX (T.nx _ _ {g,_,_,_,rfl,I,C,∎,∎,J,nx.1,∎}))
   ·let (g,a,v,r2,rfl,I,C,a0,a6,J,a1,M):=h
    refine fI {_,hU Bq (pv 2) nK (gF (pv 1)),?_}
    refine {_,rfl,_,rfl,_,rfl,l,_,rfl,dD.of I,λp hp=>?_}
    let a3:m<=g.length:=∎
    refine q p (g.take m) _ (λb o z=>by rw [aC (aD (C b o z) hp)];exact C b o z) (by rw [l0];omega) (λx hx=>J x (A5 hx)) ?_
    rw [aB]
    have:gR (g.map V.int) none (some (m:Int))=(g.take m).map V.int:=by
     unfold gR;rw [HT.sIx_none,HT.sIx_nat,g7,K0,List.map_take,y0 a3,Nat.sub_zero]
    rw [this]
  apply oM;symm
  ·intro h;let h:=of_decide_eq_true h;show 3;exact bX (k3 _ ∎)
  ·exact λ_=>bX (k3 0 (j0 0))
def jK.same {H H':Hp} {v:V} {p:Int × Int} (e:aM H H') (h:jK H v p):jK H' v p:=by
 let (b,z,q):=h;exact {b,z,e _ _ q}
structure lO (ps:List (Int × Int)):Prop where
 lt:∀(k:Nat) (l h:Int),ps[k]?=some (l,h)->l<h
 up:∀(k:Nat) (l h l' h':Int),ps[k]?=some (l,h)->ps[k+1]?=some (l',h')->h<=l'
 lo:∀(k:Nat) (l h:Int),ps[k]?=some (l,h)->-1000000000000000000<l/\h<1000000000000000000/\h-l<=30
 few:ps.length<=4
def uT (H:Hp) (p:Addr) (ps:List (Int × Int)):Prop:=∃xs,H p=some (.tup xs)/\Paired (jK H) xs ps/\lO ps
theorem uT.same {H H':Hp} {p:Addr} {ps:List (Int × Int)} (e:aM H H') (h:uT H p ps):uT H' p ps:=by
 let (d,b,a,f):=h;exact {d,e _ _ b,aK (λ_ _=>jK.same e) a,f}
inductive Vg (vs:List V) (H:Hp) (Q:VK) (E0_:XK):Prop|mk (c:Int) (_:vs=[.int c]) (_:∀(p:Addr) (ps:List (Int × Int)) (H':Hp),aM H H'->uT H' p ps->Q (.ref p) H')
def Yk:Sp:=Vg
def pF {ns:List Int} {i:Int} (b:0<=i) (d:i<ns.length):∃z,z ∈ ns/\kB (ns.map V.int) i=some (.int z):=by
 let (k,rfl):=F9 b;let a:k<ns.length:=∎;exact {ns[k],List.getElem_mem a,bW (by rw [i8,c7 a];rfl)}
def wF {ns:List Int} {k:Nat} (a:k<ns.length):kB (ns.map V.int) (k:Int)=some (.int ns[k]):=bW (by rw [i8,c7 a];rfl)
def lO.nil:lO []:={λk l h z=>by simp at z,λk l h b a z=>by simp at z,λk l h z=>by simp at z,i5 _}
def lO.snoc {ps:List (Int × Int)} {g l h:Int} (r:lO ps) (f:∀(k:Nat) (a b:Int),ps[k]?=some (a,b)->b<=g) (s:g<=l) (h2:l<h) (p:-1000000000000000000<l/\h<1000000000000000000/\h-l<=30) (t:ps.length<4):lO (ps++[(l,h)]):=by
 let d:∀(k:Nat) (a b:Int),(ps++[(l,h)])[k]?=some (a,b)->ps[k]?=some (a,b)\/(k=ps.length/\a=l/\b=h):=λk a b z=>by
  rcases J5 k ps.length with c|c|c
  ·exact .inl (by rwa [w5 c] at z)
  ·subst c;simp at z;exact .inr {(rfl),z.1.symm,z.2.symm}
  ·rw [A0 (by rw [i7,F0];omega)] at z;cases z
 refine {λk a b z=>?_,λk a b n m z o=>?_,λk a b z=>?_,by rw [i7,F0];omega}
 ·rcases d k a b z with z|⟨_,rfl,rfl⟩
  ·exact r.lt k a b z
  ·exact h2
 ·rcases d (k+1) n m o with j|⟨e,rfl,rfl⟩
  ·let u:k+1<ps.length:=(c8.mp j).1;rcases d k a b z with i|⟨e,_,_⟩
   ·exact r.up k a b n m i j
   ·omega
  ·rcases d k a b z with i|⟨q,_,_⟩
   ·have:=f k a b i;omega
   ·omega
 ·rcases d k a b z with z|⟨_,rfl,rfl⟩
  ·exact r.lo k a b z
  ·exact p
def Jf:aJ ["_law_cell","_law_xs","_law_low","_law_found","_law_k","_law_high"] ["_law_cell"] (aG Wv):={rfl,rfl,rfl,⋯,rfl,⋯,⋯}
def Sz (W:Wd P w K mg base N c):jM P w K mg base cX "_law_work" 2 Yk:=W.d15.of λF=>by
 refine F.ok Jf (λvs H Q E h=>?_) (λa7 A a2 s H vs Q E hr h=>?_)
 ·let (c,rfl,_):=h
  rfl
 ·intro X D
  let (c,rfl,q):=h
  let L:=Jf.nd
  let a1:(10:Int) ^ (17:Int).toNat=100000000000000000:=by decide
  refine Wp.ex (cF (n:=1) L rfl (fH (vs:=[.int c,.int 10]) (pN W) hr aN (by symm) {c,10,rfl,by decide,λlx e H1 s1 hx a9 Y=>?_}))
  let Z:∀k:Nat,(hk:k<10)->kB (e.map V.int) (k:Int)=some (.int (e[k]'∎)):=λk hk=>wF ∎
  let p0:kB (e.map V.int) 0=some (.int e[0]):=Z 0 (by decide)
  let p1:kB (e.map V.int) 1=some (.int e[1]):=Z 1 (by decide)
  let (z0,m0,e0):=pF (ns:=[0,-7,5,10 ^ (17:Int).toNat,3-10 ^ (17:Int).toNat,-1]) (i:=e[0] % 6) (y4 _ (by decide)) (x8 _ (by decide))
  refine cF (n:=2) L rfl (eF (vs:=[.int 0,.int (-7),.int 5,.int (10 ^ (17:Int).toNat),.int (3-10 ^ (17:Int).toNat),.int (-1)]) (by symm) (by show 6<=1000;decide) (λH' I=>?_) e0 λH2 U=>?_)
  ·have:=I _ _ Y
   symm
  let b0:-100000000000000000<=z0/\z0<=100000000000000000:=by
   rw [a1] at m0;simp only [g8,O9,or_false] at m0;omega
  refine lT (n:=3) L rfl mU (i5 _) λO H3 hf s3 ef=>?_;let a5:lx≠O:=aD (U _ _ Y) hf;let Hf:H O=none:=s1.free (U.free hf);let (z1,m1,e1):=pF (ns:=[1,2,3,4,1,0]) (i:=e[1] % 6) (y4 _ (by decide)) (x8 _ (by decide));let b1:0<=z1/\z1<=4:=(by decide:∀z ∈ ([1,2,3,4,1,0]:List Int),0<=z/\z<=4) z1 m1;refine lS (n:=4) v4 W.G.range L rfl (eF (vs:=[.int 1,.int 2,.int 3,.int 4,.int 1,.int 0]) (by symm) (by show 6<=1000;decide) (λH' I=>?_) e1 λH4 s4=>{z1,λi σ M=>∃(d:Int) (vs:List V) (l:List (Int × Int)) (u v:Option V),σ=[some (.int c),some (.ref lx),some (.int d),some (.ref O),u,v]/\M lx=some (.lst (e.map V.int))/\aM H M/\M O=some (.lst vs)/\Paired (jK M) vs l/\lO l/\l.length=i /\
   (∀(k:Nat) (a b:Int),l[k]?=some (a,b)->b<=d)/\-100000000000000000<=d/\d<=100000000000000000+40 * (i:Int),rfl,∎,{z0,[],[],none,none,rfl,s4 _ _ (s3 _ _ (U _ _ Y)),s1.trans (U.trans (s3.trans s4)),s4 _ _ ef,.nil,lO.nil,rfl,(λk a b z=>by simp at z),b0.1,∎},λi σ M D' hi h T=>?_,λσ M h=>?_})
  ·have:=I _ _ (s3 _ _ (U _ _ Y));symm
  ·let (d,vs,l,u,v,rfl,y,s5,J,pr,g,C,f,a3,a0):=h;let a8:i<4:=∎;let (j,m2,e2):=pF (ns:=[0,0,1,3]) (i:=e[2+2 * i] % 4) (y4 _ (by decide)) (x8 _ (by decide));let b2:0<=j/\j<=3:=(by decide:∀z ∈ ([0,0,1,3]:List Int),0<=z/\z<=3) j m2;let p2:kB (e.map V.int) ((2:Int)+2 * (0+(i:Int)))=some (.int e[2+2 * i]):=by rw [show (2:Int)+2 * (0+(i:Int))=((2+2 * i:Nat):Int) by omega];exact Z _ ∎
   let p3:kB (e.map V.int) ((3:Int)+2 * (0+(i:Int)))=some (.int e[3+2 * i]):=by rw [show (3:Int)+2 * (0+(i:Int))=((3+2 * i:Nat):Int) by omega];exact Z _ ∎
   refine cF (n:=2) L rfl (Nz (Vl.ex (v:=.int d) (by symm) {d,rfl,eF (vs:=[.int 0,.int 0,.int 1,.int 3]) (by symm) (by show 4<=1000;decide) (λH' I=>?_) e2 λH6 t1=>{j,rfl,?_}}))
   ·have:=I _ _ y;symm
   let a4:=t1 _ _ y;let (B,m3,e3):=pF (ns:=[3,9,9,30]) (i:=e[2+2 * i] / 4 % 4) (y4 _ (by decide)) (x8 _ (by decide));let b3:3<=B/\B<=30:=(by decide:∀z ∈ ([3,9,9,30]:List Int),3<=z/\z<=30) B m3;let r0:0<=e[3+2 * i] % B/\e[3+2 * i] % B<30:=⟨y4 _ ∎,by have:=x8 e[3+2 * i] (show (0:Int)<B by omega);omega⟩;refine cF (n:=5) L rfl (Nz (Vl.ex (v:=.int (d+j+1)) (by symm) {_,rfl,BA (i:=e[3+2 * i]) (by symm) (eF (vs:=[.int 3,.int 9,.int 9,.int 30]) (by symm) (by show 4<=1000;decide) (λH' I=>?_) e3 λH7 t2=>{B,rfl,∎,_,rfl,?_})}))
   ·have:=I _ _ a4;symm
   let m:=t1.trans t2;generalize e[3+2 * i] % B=r at r0 ⊢;let a6:vs.length<=4:=by rw [pr.length];exact g.few
   let S:=m _ _ J;refine gD (vs:=[.int (d+j),.int (d+j+1+r)]) (by symm) (by symm) S ∎ (by show 2<=1000;decide) (λt H8 nt k8 l8 t8=>?_) rfl (iX PySem.F.plainAttrs_list PySem.F.slot_list_append PySem.F.type_list_append cV aP (aA (cE dE) aE));show 2;refine bX (T.nx _ _ {d+j+1+r,vs++[.ref t],l++[(d+j,d+j+1+r)],_,_,rfl,k8 _ _ (m _ _ y) a5,λb o z=>k8 _ _ (m _ _ (s5 b o z)) (aD z Hf),l8,?_,g.snoc f ∎ ∎ { ∎,∎,∎} ∎,?_,λk a b z=>?_,∎,∎})
   ·refine Paired.snoc (aK (λx p hp=>?_) pr) {(t),rfl,t8};let (b,z,hb):=hp;let hb:=m _ _ hb;exact {b,z,k8 _ _ hb (aL hb S (by intro w;cases w))}
   ·rw [i7,C];rfl
   ·rcases J5 k l.length with cc|cc|cc
    ·rw [w5 cc] at z;have:=f k a b z;omega
    ·subst cc;simp at z;omega
    ·rw [A0 (by rw [i7,F0];omega)] at z;cases z
  ·let (d,vs,l,u,v,rfl,y,s5,J,pr,g,C,f,a3,a0):=h;refine fI {_,dH cT (by rfl) W.G.tuple eV (aA (pv 3) aE),?_};refine {_,rfl,O,vs,rfl,.inl {dD.of J,λp hp=>?_}};exact q p l _ (s5.trans (aI hp)) {vs,aB,aK (λ_ _=>jK.same (aI hp)) pr,g}
def Ut {H:Hp} {l:Addr} (n:H l=none) (o:HO):∃a,aR H l o=a/\aM H a/\a l=some o:={_,rfl,aI n,aB}
inductive BU (vs:List V) (H:Hp) (Q:VK) (E0_:XK):Prop|mk (c:Int) (_:vs=[.int c]) (_:∀(p:Addr) (sp ev le:Int) (H':Hp),aM H H'->H' p=some (.tup [.int sp,.int ev,.int le])->1<=sp->sp<=5->1<=ev->ev<=4->ev<=le->le<=7->Q (.ref p) H')
def EG:Sp:=BU
def Sa (x:Int):Int:=x * x % 13-6
inductive Vc (vs:List V) (H:Hp) (Q:VK) (E0_:XK):Prop|mk (x:Int) (_:vs=[.int x]) (_:-2000000000000000000<=x) (_:x<=2000000000000000000) (_:Q (.int (Sa x)) H)
def Yi:Sp:=Vc
def Jj:aJ ["_law_cell","_law_xs","_law_every"] ["_law_cell"] (aG vW):={rfl,rfl,rfl,⋯,rfl,⋯,⋯}
def AG (W:Wd P w K mg base N c):jM P w K mg base cX "_law_bounds" 2 EG:=W.d16.of λF=>by
 refine F.ok Jj (λm H Q E h=>?_) (λr A b s H m Q E p h=>?_)
 ·let (c,rfl,_):=h
  rfl
 ·intro X D
  let (c,rfl,q):=h
  refine {_,aF (eI (i:=1) Jj.nd rfl (j5 rfl) (aS (pN W) p aN (aA (pv 0) (aA aX aE))))
   (aF (eI (i:=2) Jj.nd rfl (j5 rfl) (cI eR aX (cI iY (dQ jV (pv 1) aX (λ_ _=>rfl)) aX)))
   (aH (bB (cE (aA (cI eR aX (cI iY (dQ jV (pv 1) aX (λ_ _=>rfl)) aX)) (aA (pv 2) (aA (cI eR (pv 2) (cI iY (dQ jV (pv 1) aX (λ_ _=>rfl)) aX)) aE))))))),?_}
  refine {_,rfl,c,3,rfl,by decide,λe a C l G x d=>?_}
  have g:kB (a.map V.int) ((0:Nat):Int)=some (.int a[0]):=wF (k:=0) ∎
  have u:kB (a.map V.int) ((1:Nat):Int)=some (.int a[1]):=wF (k:=1) ∎
  have f:kB (a.map V.int) ((2:Nat):Int)=some (.int a[2]):=wF (k:=2) ∎
  have y:=y4 a[0] (show (5:Int)≠0 by decide)
  have n:=x8 a[0] (show (0:Int)<5 by decide)
  have B:=y4 a[1] (show (4:Int)≠0 by decide)
  have v:=x8 a[1] (show (0:Int)<4 by decide)
  have z:=y4 a[2] (show (4:Int)≠0 by decide)
  have o:=x8 a[2] (show (0:Int)<4 by decide)
  refine {_,rfl,e,_,_,_,rfl,rfl,dD.of d,u,_,_,rfl,rfl,(by show (0:Int)<4;decide),_,_,rfl,rfl,?_}
  refine {_,rfl,e,_,_,_,rfl,rfl,dD.of d,g,_,_,rfl,rfl,(by show (0:Int)<5;decide),_,_,rfl,rfl,_,rfl,_,rfl,_,rfl,e,_,_,_,rfl,rfl,dD.of d,f,_,_,rfl,rfl,(by show (0:Int)<4;decide),_,_,rfl,rfl,by show 3<=sizeLine;decide,λt j=>?_}
  exact q t _ _ _ _ (l.trans (aI j)) aB ∎ ∎ ∎ ∎ ∎ ∎
def Za:aJ ["_law_place"] ["_law_place"] (aG Cd):={rfl,rfl,rfl,⋯,rfl,⋯,⋯}
def Sx (W:Wd P w K mg base N c):jM P w K mg base cX "_law_result" 1 Yi:=W.d19.of λF=>by
 refine F.ok Za (λd H Q E h=>?_) (λb A a s H d Q E g h=>?_)
 ·let (x,rfl,_):=h
  rfl
 ·intro X D
  let (x,rfl,f,e,q):=h
  refine {_,aH (bB (cI mD (cI iY (cI zJ (pv 0) (pv 0)) aX) aX)),?_}
  refine {_,rfl,_,rfl,_,_,rfl,rfl,?_,_,_,rfl,rfl,(by show (0:Int)<13;decide),_,_,rfl,rfl,q}
  exact .inl { ∎,∎}
structure S8 where
 nn:Int
 nt:Int
 mo:Int
 cs:List Pc
 kv:List (bZ × V)
 ns:List Int
 vf:Int->Int
structure Wg (ws:Lm.Ps):Prop where
 sh:Lm.Sh ws
 bd:∀x,Lm.mem ws x->-(2 ^ 60)<=x/\x<2 ^ 60
 sz:∀l:List Int,l.Nodup->(∀x ∈ l,Lm.mem ws x)->l.length<128
 ln:ws.length<=10
structure Iv (ws:Lm.Ps) (sp:Int) (s:S8):Prop where
 lm:∀c ∈ s.cs,c.l<=c.m/\c.m<=c.h/\c.l<c.h
 ap:s.cs.Pairwise (λc e=>c.h<=e.l\/e.h<=c.l)
 cv:∀x,Lm.mem ws x↔∃c ∈ s.cs,c.l<=x/\x<c.h
 op:∀c ∈ s.cs,∀t,c.o=some t->0<=t.1/\t.1<s.nt/\c.m<c.h/\t.2.2<=s.mo+sp/\PyData.strOk t.2.1=true
 tk:s.cs.Pairwise (λc e=>∀t u,c.o=some t->e.o=some u->t.1≠u.1)
 nx:∀x,x ∈ s.ns↔∃c ∈ s.cs,c.l<=x/\x<c.m
 nm:(s.cs.map Pc.n).Nodup
 nl:∀c ∈ s.cs,0<=c.n/\c.n<s.nn
 hd:Holds s.vf s.kv s.ns
 n0:0<=s.nt
theorem qE {α:Type}:∀{l:List α} {k:Nat} {c:α},l[k]?=some c->l.Perm (c::l.eraseIdx k)
 | x::l,0,c,h=>by cases h;exact List.Perm.refl _
 | x::l,k+1,c,h=>((qE (l:=l) (k:=k) (by simpa using h)).cons x).trans (List.Perm.swap ..)
theorem lC {α:Type}:∀{l:List α} {k:Nat} {c c':α},l[k]?=some c->(l.set k c').Perm (c'::l.eraseIdx k)
 | x::l,0,c,c',h=>List.Perm.refl _
 | x::l,k+1,c,c',h=>((lC (l:=l) (k:=k) (c':=c') (by simpa using h)).cons x).trans (List.Perm.swap ..)
section
variable {ws:Lm.Ps} {sp:Int} {s:S8}
def Iv.perm {e:List Pc} (h:Iv ws sp s) (p:s.cs.Perm e):Iv ws sp { s with cs:=e } where
 lm:=λc d=>h.lm c (p.mem_iff.mpr d)
 ap:=(p.pairwise_iff (λ{a b} z=>z.symm)).mp h.ap
 cv:=λx=>(h.cv x).trans {λ⟨c,d,z⟩=>{c,p.mem_iff.mp d,z},λ⟨c,d,z⟩=>{c,p.mem_iff.mpr d,z}}
 op:=λc d=>h.op c (p.mem_iff.mpr d)
 tk:=(p.pairwise_iff (λ{a b} z t u g f=>(z u t f g).symm)).mp h.tk
 nx:=λx=>(h.nx x).trans {λ⟨c,d,z⟩=>{c,p.mem_iff.mp d,z},λ⟨c,d,z⟩=>{c,p.mem_iff.mpr d,z}}
 nm:=((p.map Pc.n).nodup_iff).mp h.nm
 nl:=λc d=>h.nl c (p.mem_iff.mpr d)
 hd:=h.hd
 n0:=h.n0
def Iv.re {c c':Pc} {R:List Pc} {nt' mo':Int} {kv':List (bZ × V)} {ns':List Int} {vf':Int->Int} (h:Iv ws sp { s with cs:=c::R }) (e1:c'.n=c.n) (a:c'.l=c.l) (b:c'.h=c.h) (F:c.m<=c'.m) (E:c'.m<=c.h)
  (A:∀u,c'.o=some u->0<=u.1/\u.1<nt'/\c'.m<c'.h/\u.2.2<=mo' + sp/\PyData.strOk u.2.1=true) (t:∀u,c'.o=some u->(∃v,c.o=some v/\v.1=u.1)\/s.nt<=u.1) (D:s.nt<=nt') (I:s.mo<=mo')
  (f:∀x,x ∈ ns'↔x ∈ s.ns\/(c.m<=x/\x<c'.m)) (d:Holds vf' kv' ns'):Iv ws sp { s with nt:=nt',mo:=mo',cs:=c'::R,kv:=kv',ns:=ns',vf:=vf' }:=by
 let j:=v9.mp h.ap;let k:=v9.mp h.tk;let i:=h.nm;simp only [r6] at i;let G:=h.lm c (i0 ..);refine {λx hx=>?_,v9.mpr {λx hx=>?_,j.2},λx=>(h.cv x).trans ?_,λx hx u e=>?_,v9.mpr {λx hx u v B p=>?_,k.2},λx=>?_,?_,λx hx=>?_,d,?_}
 ·rcases g8.mp hx with rfl|hx
  ·exact { ∎,∎,∎}
  ·exact h.lm x (d0 _ hx)
 ·have:=j.1 x hx;rw [a,b];exact this
 ·constructor
  ·rintro⟨y,hy,z⟩;rcases g8.mp hy with rfl|hy
   ·exact {c',i0 ..,by rw [a,b];exact z}
   ·exact {y,d0 _ hy,z}
  ·rintro⟨y,hy,z⟩;rcases g8.mp hy with rfl|hy
   ·exact {c,i0 ..,by rw [<- a,<- b];exact z}
   ·exact {y,d0 _ hy,z}
 ·rcases g8.mp hx with rfl|hx
  ·exact A u e
  ·have:=h.op x (d0 _ hx) u e;let C:u.1<s.nt:=this.2.1;let H:u.2.2<=s.mo+sp:=this.2.2.2.1;exact {this.1,by show u.1<nt';omega,this.2.2.1,by show u.2.2<=mo' + sp;omega,this.2.2.2.2}
 ·let g:=(h.op x (d0 _ hx) v p).2.1;let g:v.1<s.nt:=g;rcases t u B with ⟨w,r,e⟩|e
  ·rw [<- e];exact k.1 x hx w v r p
  ·omega
 ·rw [show x ∈ ({ s with nt:=nt',mo:=mo',cs:=c'::R,kv:=kv',ns:=ns',vf:=vf' }:S8).ns↔_ from f x,show x ∈ s.ns↔_ from h.nx x];constructor
  ·rintro(⟨y,hy,z⟩|z)
   ·rcases g8.mp hy with rfl|hy
    ·exact {c',i0 ..,∎,∎}
    ·exact {y,d0 _ hy,z}
   ·exact {c',i0 ..,∎,∎}
  ·rintro⟨y,hy,z⟩;rcases g8.mp hy with rfl|hy
   ·by_cases q:x<c.m
    ·exact .inl {c,i0 ..,∎,q}
    ·exact .inr { ∎,z.2}
   ·exact .inl {y,d0 _ hy,z}
 ·show (c'.n::R.map Pc.n).Nodup;rw [e1];exact i
 ·rcases g8.mp hx with rfl|hx
  ·rw [e1];exact h.nl c (i0 ..)
  ·exact h.nl x (d0 _ hx)
 ·have:=h.n0;show 0<=nt';have:0<=s.nt:=this;omega
def Iv.cut {c:Pc} {R:List Pc} {nt' mo' pl:Int} {o:Option (Int × Str × Int)} (h:Iv ws sp { s with cs:=c::R }) (k:c.m<pl) (p:pl<c.h) (b:0<=s.nn)
  (f:∀u,o=some u->s.nt<=u.1/\u.1<nt'/\u.2.2<=mo' + sp/\PyData.strOk u.2.1=true) (C:s.nt<=nt') (I:s.mo<=mo'):Iv ws sp { s with nn:=s.nn+1,nt:=nt',mo:=mo',cs:={(s.nn),pl,c.h,pl,o}::{ c with h:=pl }::R }:=by
 let d:=v9.mp h.ap;let g:=v9.mp h.tk;let r:(c.n::R.map Pc.n).Nodup:=h.nm;let w:=h.lm c (i0 ..);let A:=h.nl c (i0 ..);let F:0<=s.nt:=h.n0;refine {λx hx=>?_,v9.mpr {λx hx=>?_,v9.mpr {λx hx=>?_,d.2}},λx=>(h.cv x).trans ?_,λx hx u e=>?_,v9.mpr {λx hx u v t i=>?_,v9.mpr {λx hx=>g.1 x hx,g.2}},λx=>(h.nx x).trans ?_,?_,λx hx=>?_,h.hd,?_}
 ·rcases g8.mp hx with rfl|hx
  ·exact {by show pl<=pl;omega,by show pl<=c.h;omega,by show pl<c.h;omega}
  rcases g8.mp hx with rfl|hx
  ·exact {w.1,by show c.m<=pl;omega,by show c.l<pl;omega}
  ·exact h.lm x (d0 _ hx)
 ·rcases g8.mp hx with rfl|hx
  ·exact .inr (by show pl<=pl;omega)
  ·have:=d.1 x hx;show c.h<=x.l\/x.h<=pl;omega
 ·have:=d.1 x hx;show pl<=x.l\/x.h<=c.l;omega
 ·constructor
  ·rintro⟨y,hy,z⟩;rcases g8.mp hy with rfl|hy
   ·by_cases q:x<pl
    ·exact {_,d0 _ (i0 ..),z.1,q}
    ·exact {_,i0 ..,by show pl<=x;omega,z.2}
   ·exact {y,d0 _ (d0 _ hy),z}
  ·rintro⟨y,hy,z⟩;rcases g8.mp hy with rfl|hy
   ·let B:pl<=x:=z.1;exact {c,i0 ..,∎,z.2}
   rcases g8.mp hy with rfl|hy
   ·let E:x<pl:=z.2;exact {c,i0 ..,z.1,∎}
   ·exact {y,d0 _ hy,z}
 ·let a:∀y ∈ c::R,y.o=some u->0<=u.1/\u.1<nt'/\y.m<y.h/\u.2.2<=mo' + sp/\PyData.strOk u.2.1=true:=λy hy e=>by
   have:=h.op y hy u e;let j:u.1<s.nt:=this.2.1;let H:u.2.2<=s.mo+sp:=this.2.2.2.1;exact {this.1,∎,this.2.2.1,∎,this.2.2.2.2}
  rcases g8.mp hx with rfl|hx
  ·have:=f u e;exact { ∎,this.2.1,p,this.2.2}
  rcases g8.mp hx with rfl|hx
  ·have:=a c (i0 ..) e;exact {(this.1),this.2.1,k,this.2.2.2}
  ·exact a x (d0 _ hx) e
 ·let G:=(f u t).1;let D:v.1<s.nt:=by
   rcases g8.mp hx with rfl|hx
   ·exact(h.op c (i0 ..) v i).2.1
   ·exact(h.op x (d0 _ hx) v i).2.1
  omega
 ·constructor
  ·rintro⟨y,hy,z⟩;rcases g8.mp hy with rfl|hy
   ·exact {_,d0 _ (i0 ..),z}
   ·exact {y,d0 _ (d0 _ hy),z}
  ·rintro⟨y,hy,z⟩;rcases g8.mp hy with rfl|hy
   ·exact absurd z (by show ¬ (pl<=x/\x<pl);omega)
   rcases g8.mp hy with rfl|hy
   ·exact {c,i0 ..,z}
   ·exact {y,d0 _ hy,z}
 ·show (s.nn::c.n::R.map Pc.n).Nodup;refine C0.mpr {λz=>?_,r};let (y,hy,e):=w8.mp (show s.nn ∈ (c::R).map Pc.n from z);have:=(h.nl y hy).2;have:y.n<s.nn:=this;omega
 ·rcases g8.mp hx with rfl|hx
  ·exact {b,by show s.nn<s.nn+1;omega}
  let a:∀y ∈ c::R,0<=y.n/\y.n<s.nn+1:=λy hy=>by
   have:=h.nl y hy;let j:y.n<s.nn:=this.2;exact {this.1,∎}
  rcases g8.mp hx with rfl|hx
  ·exact a c (i0 ..)
  ·exact a x (d0 _ hx)
 ·show 0<=nt';omega
end
section
variable {ws:Lm.Ps} {sp:Int} {s:S8}
def Iv.cons {k:Nat} {c:Pc} (h:Iv ws sp s) (a:s.cs[k]?=some c):Iv ws sp { s with cs:=c::s.cs.eraseIdx k }:=h.perm (qE a)
def AJ {c:Pc} (h:Iv ws sp s) (a:c ∈ s.cs):0<=s.nn:=by have:=h.nl c a;omega
def Iv.lendK {k:Nat} {c:Pc} {w:Str} {i:Int} (h:Iv ws sp s) (a:s.cs[k]?=some c) (op:c.m<c.h) (hi:s.mo<=i) (b:PyData.strOk w=true):
  Iv ws sp { s with nt:=s.nt+1,mo:=i,cs:=s.cs.set k { c with o:=some (s.nt,w,i+sp) } }:=by
 let g:=(h.cons a).re (c':={ c with o:=some (s.nt,w,i+sp) }) (nt':=s.nt+1) (mo':=i) rfl rfl rfl (j0 _) (v7 op) (λu e=>by cases e;exact {h.n0,by show s.nt<s.nt+1;omega,op,j0 _,b}) (λu e=>by cases e;exact .inr (j0 _)) ∎ hi
  (λx=>{.inl,λz=>z.elim id λz=>absurd z (by show ¬ (c.m<=x/\x<c.m);omega)}) h.hd
 exact g.perm (lC a).symm
def Iv.cutK {k:Nat} {c:Pc} {nt' mo' pl:Int} {o:Option (Int × Str × Int)} (h:Iv ws sp s) (a:s.cs[k]?=some c) (i:c.m<pl) (b:pl<c.h)
  (e:∀u,o=some u->s.nt<=u.1/\u.1<nt'/\u.2.2<=mo' + sp/\PyData.strOk u.2.1=true) (d:s.nt<=nt') (f:s.mo<=mo'):Iv ws sp { s with nn:=s.nn+1,nt:=nt',mo:=mo',cs:=s.cs.set k { c with h:=pl }++[{(s.nn),pl,c.h,pl,o}] }:=by
 let g:=(h.cons a).cut i b (AJ h (i6 a)) e d f;exact g.perm (((lC a).symm.cons _).trans (List.perm_append_comm (l₁:=[_])))
theorem Bg {kv:List (bZ × V)} {m:Int} {fr:List Int} (a:∀j:Nat,j<fr.length->cZ kv (Sum.inl (m+(j:Int)):bZ)=none):∀i,i<=fr.length->∀x:Int,cZ (kv++jG m fr i) (Sum.inl x:bZ)=if m<=x/\x<m+(i:Int) then some (.int (fr.getD (x-m).toNat 0)) else cZ kv (Sum.inl x:bZ)
 | 0,_,x=>by rw [if_neg ∎];show cZ (kv++[]) _=_;rw [x9]
 | i+1,hi,x=>by
  rw [sP,<- p9,rN _ _ _ _ (xR (a i ∎))]
  by_cases z:x=m+(i:Int)
  ·subst z
   rw [if_pos rfl,if_pos ∎,show (m+(i:Int)-m).toNat=i by omega]
  ·rw [if_neg λy=>z (Sum.inl.inj y),Bg a i ∎ x]
   by_cases q:m<=x/\x<m+(i:Int)
   ·rw [if_pos q,if_pos ∎]
   ·rw [if_neg q,if_neg ∎]
def FX (vf:Int->Int) (m:Int) (fr:List Int):Int->Int:=λx=>if m<=x/\x<m+(fr.length:Int) then fr.getD (x-m).toNat 0 else vf x
def eZ (m:Int) (n:Nat):List Int:=(List.range n).map λ(k:Nat)=>m+(k:Int)
def eS {m x:Int} {n:Nat}:x ∈ eZ m n↔m<=x/\x<m+(n:Int):=by
 unfold eZ;rw [w8];constructor
 ·rintro⟨k,a,rfl⟩;have:=C7.mp a;omega
 ·intro h;exact {(x-m).toNat,C7.mpr ∎,∎}
def pQ (m:Int) (n:Nat):(eZ m n).Nodup:=List.Pairwise.map _ (λa b z e=>z ∎) List.nodup_range
def zZ {vf:Int->Int} {kv:List (bZ × V)} {ns:List Int} {m:Int} {fr:List Int} (h:Holds vf kv ns) (c:∀j:Nat,j<fr.length->m+(j:Int) ∉ ns) (d:(ns++eZ m fr.length).length<128) (l:-(2 ^ 61)<=m) (k:m+(fr.length:Int)<=2 ^ 61):
  Holds (FX vf m fr) (kv++jG m fr fr.length) (ns++eZ m fr.length):=by
 let g:∀x,x ∉ ns->cZ kv (Sum.inl x:bZ)=none:=λx hx=>jO.mpr λe f z=>hx (by
  have:(Sum.inl x:bZ) ∈ kv.map (·.1):=w8.mpr {(e),f,z}
  rw [h.key] at this
  let (y,a,q):=w8.mp this
  cases q
  exact a);let b:∀x,x ∈ eZ m fr.length->x ∉ ns:=λx hx=>by
  have:=eS.mp hx;let e:x=m+((x-m).toNat:Int):=∎;rw [e];exact c _ ∎
 refine {?_,?_,d,λx hx=>?_,λx hx=>?_}
 ·rw [n6,n6,h.key];congr 1;unfold jG eZ;rw [B0,B0];rfl
 ·rw [O0];exact {h.nd,pQ _ _,λx hx y a z=>by subst z;exact b x a hx}
 ·rw [Bg (λj i=>g _ (c j i)) _ (c9 _)];unfold FX;by_cases q:m<=x/\x<m+(fr.length:Int)
  ·rw [if_pos q,if_pos q]
  ·rw [if_neg q,if_neg q];rcases j1.mp hx with hx|hx
   ·exact h.val x hx
   ·exact absurd (eS.mp hx) q
 ·rcases j1.mp hx with hx|hx
  ·exact h.lo x hx
  ·have:=eS.mp hx;omega
def Iv.fresh {k:Nat} {c:Pc} (h:Iv ws sp s) (a:s.cs[k]?=some c) {x:Int} (g:c.m<=x) (h2:x<c.h):x ∉ s.ns:=λz=>by
 let (y,hy,d,f):=((h.cons a).nx x).mp z
 have e:=h.lm c (i6 a)
 have b:=v9.mp (h.cons a).ap
 rcases g8.mp hy with rfl|hy
 ·omega
 ·have:=b.1 y hy
  have:=(h.cons a).lm y (d0 _ hy)
  omega
theorem Iv.told {k:Nat} {c:Pc} {fr:List Int} {i:Int} (g:Wg ws) (h:Iv ws sp s) (f:s.cs[k]?=some c) (B:c.m+(fr.length:Int)<=c.h) (hi:s.mo<=i):
  Iv ws sp { s with mo:=i,cs:=s.cs.set k (c.told fr.length (i+sp)),kv:=s.kv++jG c.m fr fr.length,ns:=s.ns++eZ c.m fr.length,vf:=FX s.vf c.m fr }:=by
 let r:=i6 f;let D:=h.lm c r;let a:∀x,c.l<=x->x<c.h->Lm.mem ws x:=λx p w=>(h.cv x).mpr {(c),r,p,w};let q:∀x ∈ s.ns,Lm.mem ws x:=λx hx=>by
  let (y,n,p,w):=(h.nx x).mp hx;have:=h.lm y n;exact(h.cv x).mpr {y,n,p,∎}
 let E:∀j:Nat,j<fr.length->c.m+(j:Int) ∉ s.ns:=λj G=>h.fresh f ∎ ∎;let C:(s.ns++eZ c.m fr.length).Nodup:=by
  rw [O0];refine {h.hd.nd,pQ _ _,λx hx y n z=>?_};subst z;have:=eS.mp n;exact h.fresh f ∎ ∎ hx
 let F:=g.sz _ C λx hx=>by
  rcases j1.mp hx with hx|hx
  ·exact q x hx
  ·have:=eS.mp hx;exact a x ∎ ∎
 let I:=g.bd c.l (a _ (j0 _) D.2.2);let H:=g.bd (c.h-1) (a _ ∎ ∎);let d:∀u,(c.told fr.length (i+sp)).o=some u->c.m+(fr.length:Int)<c.h/\∃v,c.o=some v/\u=(v.1,v.2.1,i+sp):=λu e=>by
  let e:(if c.m+(fr.length:Int)=c.h then none else c.o.map λt=>(t.1,t.2.1,i+sp))=some u:=e;by_cases z:c.m+(fr.length:Int)=c.h
  ·rw [if_pos z] at e;cases e
  rw [if_neg z] at e;cases b:c.o with
  | none=>rw [b] at e;cases e
  | some v=>
   rw [b] at e;exact { ∎,v,rfl,(Option.some.inj e).symm}
 let A:=(h.cons f).re (c':=c.told fr.length (i+sp)) (nt':=s.nt) (mo':=i) (ns':=s.ns++eZ c.m fr.length) (kv':=s.kv++jG c.m fr fr.length) (vf':=FX s.vf c.m fr) rfl rfl rfl (by show c.m<=c.m+(fr.length:Int);omega) B (λu e=>by
   let (l,v,b,rfl):=d u e
   have:=h.op c r v b
   exact {this.1,this.2.1,l,j0 _,this.2.2.2.2}) (λu e=>by
   let (l,v,b,rfl):=d u e
   exact .inl {(v),b,rfl}) (j0 _) hi
  (λx=>by rw [j1,eS];rfl) (zZ h.hd E ∎ ∎ ∎)
 exact A.perm (lC f).symm
def Iv.oneLow {i j:Nat} {x y:Pc} (h:Iv ws sp s) (b:s.cs[i]?=some x) (a:s.cs[j]?=some y) (e:x.l=y.l):i=j:=by
 rcases J5 i j with z|z|z
 ·let (d,f):=c8.mp b;let (g,c):=c8.mp a;have:=t4.mp h.ap i j d g z;rw [f,c] at this;have:=h.lm x (i6 b);have:=h.lm y (i6 a);omega
 ·exact z
 ·let (d,f):=c8.mp b;let (g,c):=c8.mp a;have:=t4.mp h.ap j i g d z;rw [f,c] at this;have:=h.lm x (i6 b);have:=h.lm y (i6 a);omega
def eU {c:Pc} {tk:Int} (h:c.has tk=true):∃u,c.o=some u/\u.1=tk:=by
 unfold Pc.has at h;cases e:c.o with
 | none=>rw [e] at h;cases h
 | some u=>rw [e] at h;exact {u,rfl,of_decide_eq_true h}
def Iv.oneTk {i j:Nat} {x y:Pc} {tk:Int} (h:Iv ws sp s) (n:s.cs[i]?=some x) (l:s.cs[j]?=some y) (e1:x.has tk=true) (m:y.has tk=true):i=j:=by
 let (u,k,f):=eU e1;let (v,g,e):=eU m;let (b,c):=c8.mp n;let (d,a):=c8.mp l;rcases J5 i j with z|z|z
 ·have:=t4.mp h.tk i j b d z;rw [c,a] at this;exact absurd (f.trans e.symm) (this u v k g)
 ·exact z
 ·have:=t4.mp h.tk j i d b z;rw [c,a] at this;exact absurd (e.trans f.symm) (this v u g k)
def Iv.oneTk' {k:Nat} {c:Pc} {tk:Int} (h:Iv ws sp s) (a:s.cs[k]?=some c) (e1:c.has tk=true) (j:Nat) (e:Pc) (b:s.cs[j]?=some e) (d:j<k):e.has tk=false:=J3.mpr λz=>by
 have:=h.oneTk a b e1 z
 omega
theorem Iw:∀{ws:Lm.Ps} {q r:Int × Int},Lm.Sh ws->q ∈ ws->r ∈ ws->q=r\/q.2<r.1\/r.2<q.1
 | s::ws,q,r,w,hq,hr=>by
  rcases g8.mp hq with rfl|hq' <;> rcases g8.mp hr with rfl|hr'
  ·exact .inl rfl
  ·exact .inr (.inl (w.2.1 r hr'))
  ·exact .inr (.inr (w.2.1 q hq'))
  ·exact Iw w.2.2 hq' hr'
def EI {ws:Lm.Ps} {l h:Int} (w:Lm.Sh ws) (f:l<h) (c:∀x,l<=x->x<h->Lm.mem ws x):∃q ∈ ws,q.1<=l/\h<=q.2:=by
 let (q,a,d,j):=c l (j0 _) f;refine {q,a,d,M9.mp λz=>?_};let (r,b,i,g):=c q.2 ∎ z;have:=Lm.Sh.lt w q a;have:=Lm.Sh.lt w r b;rcases Iw w a b with e|e|e
 ·subst e;omega
 ·omega
 ·omega
def Iv.inw {c:Pc} (g:Wg ws) (h:Iv ws sp s) (a:c ∈ s.cs):∃q ∈ ws,q.1<=c.l/\c.h<=q.2:=
 EI g.sh (h.lm c a).2.2 λx d b=>(h.cv x).mpr {(c),a,d,b}
def Iv.bnd {c:Pc} (g:Wg ws) (h:Iv ws sp s) (a:c ∈ s.cs):-(2 ^ 60)<=c.l/\c.h<=2 ^ 60:=by
 let b:=h.lm c a;let d:=g.bd c.l ((h.cv _).mpr {c,a,j0 _,b.2.2});let e:=g.bd (c.h-1) ((h.cv _).mpr {c,a,∎,∎});omega
def Holds.noV {vf:Int->Int} {kv:List (bZ × V)} {ns:List Int} (h:Holds vf kv ns) {x:Int} (b:x ∉ ns):cZ kv (Sum.inl x:bZ)=none:=jO.mpr λe c z=>b (by
  have:(Sum.inl x:bZ) ∈ kv.map (·.1):=w8.mpr {(e),c,z}
  rw [h.key] at this
  let (y,a,q):=w8.mp this
  cases q
  exact a)
def Iv.kvl (h:Iv ws sp s):s.kv.length<128:=by
 have:=h.hd.len;let e:=congrArg List.length h.hd.key;rw [g7,g7] at e;omega
def Iv.low {c:Pc} {i:Int} (h:Iv ws sp s) (e:Vz s.cs i c):c ∈ s.cs/\c.m<c.h:=by
 rcases e with b|⟨_,b⟩
 ·have:=h.lm c b.1;let f:=b.2.1;unfold Pc.free at f;rw [B4,J0] at f;have:=of_decide_eq_false f.2;exact {b.1,∎}
 ·let f:=b.2.1;unfold Pc.late at f;cases e:c.o with
  | none=>rw [e] at f;cases f
  | some u=>exact {b.1,(h.op c b.1 u e).2.2.1}
end
structure Ad where
 b:Addr
 pw:Addr
 sh:Addr
 d:Addr
 pw':Addr
 d':Addr
 ps:List Addr
structure Bv (CB CS CP T1 T2:Addr) (sp ev le:Int) (ws:Lm.Ps) (H:Hp) (A:Ad) (s:S8):Prop where
 bk:fM CB CP H A.b A.pw A.sh A.d sp ev le s.nn s.nt s.mo A.ps s.cs
 st:cM CS H A.sh A.pw' A.d' ws s.kv
 t1:kC H T1 lJ gC
 t2:kC H T2 uG kK
 dd:A.d≠A.d'
 tt:T1≠T2
def LC:HO->Bool
 | .tup _=>true
 | .lst _=>true
 | _=>false
def Qc (d d':Addr) (H H':Hp):Prop:=∀a o,H a=some o->(LC o=true\/(∃kv,o=.dK kv)/\a≠d/\a≠d')->H' a=some o
theorem Qc.tup {d d':Addr} {H H':Hp} {a:Addr} {xs:List V} (x:Qc d d' H H') (e:H a=some (.tup xs)):H' a=some (.tup xs):=x _ _ e (.inl rfl)
def bP.kpl {d d':Addr} {H H':Hp} (k:Qc d d' H H') {xs:List V} {ps:Lm.Ps} (h:bP H xs ps):bP H' xs ps:=aK (λ_ _ ⟨b,e,x⟩=>{b,e,k.tup x}) h
theorem bN.kpl {d d':Addr} {H H':Hp} (k:Qc d d' H H') {p:Addr} {ps:Lm.Ps} (h:bN H p ps):bN H' p ps:=by
 let (c,b,a):=h;exact {c,k.tup b,bP.kpl k a}
def xM {pw d:Addr}:(qD pw d).length=2:=rfl
def AZ {pw d pw' sh d':Addr} {sp ev le nn nt mo:Int}:¬ (qD pw d).length=(bf pw' sh d' sp ev le nn nt mo).length:=by rw [xM];show ¬ 2=9;decide
def AY {pw d:Addr} {n l h m:Int} {a:V}:¬ (qD pw d).length=(pf n l h m a).length:=by rw [xM];show ¬ 2=5;decide
section
variable {CB CS CP T1 T2:Addr} {sp ev le:Int} {ws:Lm.Ps} {H H':Hp} {A:Ad} {s:S8}
theorem Bv.same (e:aM H H') (h:Bv CB CS CP T1 T2 sp ev le ws H A s):Bv CB CS CP T1 T2 sp ev le ws H' A s:=
 {h.bk.sameT (aM.toT e),h.st.same e,h.t1.same e,h.t2.same e,h.dd,h.tt}
def Bv.step {k:Nat} {p:Addr} (h:Bv CB CS CP T1 T2 sp ev le ws H A s) (y:A.ps[k]?=some p) (fr:∀a o,H a=some o->a≠A.b->a≠A.d->a≠p->a≠T1->a≠A.d'->H' a=some o):
  Qc A.d A.d' H H'/\kC H' T2 uG kK/\bN H' A.pw' ws/\∃t,H' A.sh=some (.ins CS t (qD A.pw' A.d')):=by
 let ((t,n),m,q):=h.bk;let ((w,l),x,i):=h.st;let (c,D,C,(B,g),v):=aQ q y;let (u,j,_):=h.t1;let r:Qc A.d A.d' H H':=λa o e k=>by
  refine fr a o e (λz=>?_) (λz=>?_) (λz=>?_) (λz=>?_) (λz=>?_) <;> subst z
  ·rw [n] at e;cases e;rcases k with k|⟨⟨_,k⟩,_⟩ <;> cases k
  ·rw [m] at e;cases e;rcases k with k|⟨_,k,_⟩
   ·cases k
   ·exact k rfl
  ·rw [g] at e;cases e;rcases k with k|⟨⟨_,k⟩,_⟩ <;> cases k
  ·rw [j] at e;cases e;rcases k with k|⟨⟨_,k⟩,_⟩ <;> cases k
  ·rw [i] at e;cases e;rcases k with k|⟨_,_,k⟩
   ·cases k
   ·exact k rfl
 refine {r,lV h.t2 (λu e=>fr _ _ e (aL e n (by intro z;cases z)) (aL e m (by intro z;cases z)) (aL e g (by intro z;cases z)) h.tt.symm (aL e i (by intro z;cases z)))
  (λa f e=>fr _ _ e (aL e n (by intro z;cases z)) (aL e m (by intro z;cases z)) (aL e g (by intro z;cases z)) (aL e j (by intro z;cases z)) (aL e i (by intro z;cases z))),bN.kpl r x,w,?_};exact fr _ _ l (aL l n (by intro z;injection z with _ _ z;exact absurd (congrArg List.length z) AZ)) (aL l m (by intro z;cases z)) (aL l g (by intro z;injection z with _ _ z;exact absurd (congrArg List.length z) AY)) (aL l j (by intro z;cases z)) (aL l i (by intro z;cases z))
def Bv.stepS {k:Nat} {p:Addr} (h:Bv CB CS CP T1 T2 sp ev le ws H A s) (l:A.ps[k]?=some p) (fr:∀a o,H a=some o->a≠A.b->a≠A.d->a≠p->a≠T1->H' a=some o):
  Qc A.d A.d' H H'/\kC H' T2 uG kK/\cM CS H' A.sh A.pw' A.d' ws s.kv:=by
 let ((I,x),E,j):=h.bk;let ((C,D),K,f):=h.st;let (c,G,F,(J,g),n):=aQ j l;let (B,i,_):=h.t1;let (t,y,v,u):=h.step l λa o e m w r q _=>fr a o e m w r q;exact {t,y,u,v,fr _ _ f (aL f x (by intro z;cases z)) h.dd.symm (aL f g (by intro z;cases z)) (aL f i (by intro z;cases z))}
def Bv.stepT {k:Nat} {p:Addr} (h:Bv CB CS CP T1 T2 sp ev le ws H A s) (q:A.ps[k]?=some p) (fr:∀a o,H a=some o->a≠A.b->a≠A.d->a≠p->a≠A.d'->H' a=some o):kC H' T1 lJ gC:=by
 let ((w,l),m,j):=h.bk;let (_,_,i):=h.st;let (c,v,u,(t,g),n):=aQ j q;exact lV h.t1 (λr e=>fr _ _ e (aL e l (by intro z;cases z)) (aL e m (by intro z;cases z)) (aL e g (by intro z;cases z)) (aL e i (by intro z;cases z)))
  (λa f e=>fr _ _ e (aL e l (by intro z;cases z)) (aL e m (by intro z;cases z)) (aL e g (by intro z;cases z)) (aL e i (by intro z;cases z)))
def Bv.keepT {T:Addr} (h:Bv CB CS CP T1 T2 sp ev le ws H A s) (i:cY T H H') (g:T=T1/\kC H' T1 lJ gC\/T=T2/\kC H' T2 uG kK):Bv CB CS CP T1 T2 sp ev le ws H' A s/\Qc A.d A.d' H H':=by
 let (w,r,_):=h.t1;let (x,p,_):=h.t2;let b:∃l,H T=some (.tbl l):=by rcases g with ⟨rfl,_⟩|⟨rfl,_⟩ <;> exact {_,by assumption}
 let (l,b):=b;let c:=i.toT b;let m:Qc A.d A.d' H H':=λa o e k=>c.at e λn z=>by subst z;rcases k with k|⟨⟨_,k⟩,_⟩ <;> cases k
 let ((q,u),v,j):=h.st;refine {{h.bk.sameT c,{{q,c.at u},bN.kpl m v,c.at j},?_,?_,h.dd,h.tt},m}
 ·rcases g with ⟨_,t⟩|⟨rfl,_⟩
  ·exact t
  ·exact lV h.t1 (λn e=>i _ _ h.tt e) λa f e=>c.at e
 ·rcases g with ⟨rfl,_⟩|⟨_,t⟩
  ·exact lV h.t2 (λn e=>i _ _ h.tt.symm e) λa f e=>c.at e
  ·exact t
end
structure Pm where
 sp:Int
 ev:Int
 le:Int
 ws:Lm.Ps
structure Go (N:Cn) (M:Pm) (H:Hp) (A:Ad) (s:S8):Prop where
 bv:Bv N.CB N.CS N.CP N.T1 N.T2 M.sp M.ev M.le M.ws H A s
 iv:Iv M.ws M.sp s
 wg:Wg M.ws
 l1:1<=M.le
 e1:1<=M.ev
theorem Go.same {N:Cn} {M:Pm} {H H':Hp} {A:Ad} {s:S8} (e:aM H H') (g:Go N M H A s):Go N M H' A s:={g.bv.same e,g.iv,g.wg,g.l1,g.e1}
def Go.few {N:Cn} {M:Pm} {H:Hp} {A:Ad} {s:S8} (g:Go N M H A s):s.cs.length<128:=by
 let h:=g.wg.sz (s.cs.map Pc.l) (List.nodup_iff_pairwise_ne.mpr (List.pairwise_map.mpr (g.iv.ap.imp_of_mem λ{c e} a d z y=>?_))) λx b=>?_
 ·rwa [g7] at h
 ·have:=g.iv.lm c a;have:=g.iv.lm e d;let y:c.l=e.l:=y;omega
 ·let (c,a,rfl):=w8.mp b;exact(g.iv.cv _).mpr {c,a,j0 _,(g.iv.lm c a).2.2}
def Ch {n d:Nat} {x:Int} (h:0<=x):HT.sIx n d (some x)=min x.toNat n:=by
 let e:=HT.sIx_nat n d x.toNat
 rwa [Int.toNat_of_nonneg h] at e
def Dn {ns:List Int} {lo hi:Int} (a:0<=lo) (h2:lo<=hi):fT ns (some lo) (some hi)=(ns.drop lo.toNat).take (hi-lo).toNat:=by
 unfold fT;rw [Ch a,Ch ∎];apply List.ext_getElem?;intro i;rw [List.getElem?_take,List.getElem?_take,p7,p7];by_cases z:lo.toNat<=ns.length
 ·rw [y0 z];by_cases y:i<min hi.toNat ns.length-lo.toNat
  ·rw [if_pos y,if_pos ∎]
  ·rw [if_neg y];by_cases x:i<(hi-lo).toNat
   ·rw [if_pos x,A0 ∎]
   ·rw [if_neg x]
 ·rw [if_neg ∎];split
  ·rw [A0 ∎]
  ·rfl
def Uf {ns:List Int} {lo hi:Int} (a:0<=lo) (h2:lo<=hi):((fT ns (some lo) (some hi)).length:Int)<=hi-lo:=by
 rw [Dn a h2,l0];omega
inductive Dd where
 | lend (x:Str) (i:Int)
 | tell (tk pl i:Int) (ns:List Int)
inductive To where
 | non
 | lent (t n m h u:Int)
 | told (m h:Int) (u:V)
inductive Pd (H:Hp):V->To->Prop where
 | non:Pd H .non .non
 | lent {r:Addr} {t n m h u:Int} (_:H r=some (.tup [.int t,.int n,.int m,.int h,.int u])):Pd H (.ref r) (.lent t n m h u)
 | told {r:Addr} {m h:Int} {u:V} (_:H r=some (.tup [.int m,.int h,u])):Pd H (.ref r) (.told m h u)
inductive Sc (M:Pm) (s:S8):Dd->To->S8->Prop where
 | lendN {x:Str} {i:Int} (_:s.mo<=i) (_:Qb s.cs M.le i):Sc M s (.lend x i) .non s
 | lendP {x:Str} {i:Int} {k:Nat} {c:Pc} (_:s.mo<=i) (_:s.cs[k]?=some c) (_:Vz s.cs i c):Sc M s (.lend x i) (.lent s.nt c.n c.m c.h (i+M.sp)) { s with nt:=s.nt+1,mo:=i,cs:=s.cs.set k { c with o:=some (s.nt,x,i+M.sp) } }
 | lendC {x:Str} {i pl:Int} {k:Nat} {c:Pc} (_:s.mo<=i) (_:∀c ∈ s.cs,c.free=false) (_:∀c ∈ s.cs,c.late i=false) (_:s.cs[k]?=some c) (_:lQ Pc.lent s.cs c) (_:2 * M.le<=c.h-c.m) (_:pl=c.h-(c.h-c.m) / 2):Sc M s (.lend x i) (.lent s.nt s.nn pl c.h (i+M.sp)) { s with nn:=s.nn+1,nt:=s.nt+1,mo:=i,cs:=s.cs.set k { c with h:=pl }++[⟨s.nn,pl,c.h,pl,some (s.nt,x,i+M.sp)⟩] }
 | tell {tk pl i:Int} {ns fr:List Int} {k:Nat} {c:Pc} (_:s.mo<=i) (_:s.cs[k]?=some c) (_:c.has tk=true) (_:c.l<=pl) (_:pl<=c.m) (_:pl+ns.length<=c.m+M.ev) (_:∀(j:Nat) n,ns[j]?=some n->pl+(j:Int)<c.m->n=s.vf (pl+(j:Int))) (_:fr=fT ns (some (c.m-pl)) (some (c.h-pl))):
   Sc M s (.tell tk pl i ns) (.told (c.m+(fr.length:Int)) c.h (if c.m+(fr.length:Int)=c.h then .non else .int (i+M.sp))) { s with mo:=i,cs:=s.cs.set k (c.told fr.length (i+M.sp)),kv:=s.kv++jG c.m fr fr.length,ns:=s.ns++eZ c.m fr.length,vf:=FX s.vf c.m fr }
def Fo (N:Cn) (A:Ad) (H H':Hp):Prop:=∀a o,H a=some o->a≠A.b->a≠A.d->a≠A.d'->a ∉ A.ps->a≠N.T1->a≠N.T2->H' a=some o
inductive GO (N:Cn) (vs:List V) (H:Hp) (Q:VK) (E:XK):Prop|mk (M:Pm) (A:Ad) (s:S8) (x:Str) (i:Int) (_:vs=[.ref A.b,.str x,.int i]) (_:Go N M H A s) (_:s.mo<=i) (_:eH x) (_:PyData.strOk x=true)
 (_:∀v ps' o s' H',Qc A.d A.d' H H'->Fo N A H H'->(∀r ∈ ps',r ∈ A.ps\/H r=none)->Go N M H' { A with ps:=ps' } s'->Sc M s (.lend x i) o s'->Pd H' v o->Q v H')
def EE (N:Cn):Sp:=GO N
inductive GJ (N:Cn) (CL:Addr) (vs:List V) (H:Hp) (Q:VK) (E:XK):Prop|mk (M:Pm) (A:Ad) (s:S8) (tk pl i:Int) (nr:Addr) (ns:List Int) (_:vs=[.ref A.b,.int tk,.int pl,.ref nr,.int i]) (_:Go N M H A s) (_:s.mo<=i) (_:0<=tk) (_:tk<s.nt) (_:H nr=some (.tup (ns.map V.int))) (_:ns.length<=M.ev) (_:M.ev<=1000) (_:∀c ∈ s.cs,c.has tk=true->c.m=pl)
 (_:(∀c ∈ s.cs,c.has tk=false)->∀H',aM H H'->E (.ref CL) none H')
 (_:∀v o s' H',Qc A.d A.d' H H'->Fo N A H H'->Go N M H' A s'->Sc M s (.tell tk pl i ns) o s'->Pd H' v o->Q v H')
def DX (N:Cn) (CL:Addr):Sp:=GJ N CL
def KP (cs:List Pc) (tk:Int):(∀c ∈ cs,c.has tk=false)\/∃(k:Nat) (c:Pc),cs[k]?=some c/\c.has tk=true:=by
 by_cases z:∃c ∈ cs,c.has tk=true
 ·let (c,a,e):=z;let (k,b,d):=y6 a;exact .inr {k,c,by rw [<- d];exact c7 b,e}
 ·exact .inl λc a=>J3.mpr λe=>z {(c),a,e}
section
variable {f:Addr} {fd:FuncData}
def BC {ps:List Str} (G:bK P w K mg base (jN P w) 6 f fd ps (tN N.CB N.CP (c 1) N.T1)):bK P w K mg base (jN P w) 6 f fd ps (EE N):=by
 refine G.imp λvs H Q E h=>?_;let (M,A,s,x,i,rfl,g,mi,wx,sx,q):=h;let hl:=g.few;refine {A.b,A.pw,A.sh,A.d,M.sp,M.ev,M.le,s.nn,s.nt,s.mo,i,x,A.ps,s.cs,rfl,g.bv.bk,∎,g.iv.nm,λc l=>(g.iv.nl c l).2,wx,g.bv.t1,λlo _ _=>absurd mi ∎,λm no F Z v=>?_,λm k p J r F I l Y D v L j=>?_,λm k p J q' r T F nf nl I l be h2 S D v nq L j=>?_}
 ·let (b',B):=g.bv.keepT Z (.inl {(rfl),v});exact q .non A.ps .non s F B (λa o e _ _ _ _ n _=>Z a o n e) (λr j=>.inl j) {(b'),g.iv,g.wg,g.l1,g.e1} (.lendN m no) .non
 ·let X:=i6 I;let (B,U,O):=g.bv.stepS I λa o e t _ C y=>D a o e t C y;exact q _ A.ps _ { s with nt:=s.nt+1,mo:=i,cs:=s.cs.set k { J with o:=some (s.nt,x,i+M.sp) } } F B (λa o e t _ _ C y _=>D a o e t (λz=>C (z ▸ X)) y) (λr j=>.inl j) {{(L),O,v,U,g.bv.dd,g.bv.tt},(g.iv.lendK l (g.iv.low Y).2 m sx),g.wg,g.l1,g.e1} (.lendP m l Y) (.lent j)
 ·let X:=i6 I;let (B,U,O):=g.bv.stepS I D;let l1:=g.l1;refine q _ (A.ps++[q']) _ { s with nn:=s.nn+1,nt:=s.nt+1,mo:=i,cs:=s.cs.set k { J with h:=T }++[{s.nn,T,J.h,T,some (s.nt,x,i+M.sp)}] } F B (λa o e t n2 _ C y _=>D a o e t n2 (λz=>C (z ▸ X)) y) (λr j=>(j1.mp j).imp_right λz=>by rw [l6.mp z];exact nq) {{(L),O,v,U,g.bv.dd,g.bv.tt},g.iv.cutK l ∎ ∎ (λu e=>?_) ∎ m,g.wg,g.l1,g.e1} (.lendC m nf nl l be h2 S) (.lent j);cases e;exact {j0 _,by show s.nt<s.nt+1;omega,j0 _,sx}
def BB {ps:List Str} (G:bK P w K mg base (jN P w) 5 f fd ps (λJ H Q E=>yP N.CB N.CS N.CP J H Q E\/jR N.CB N.CP (c 1) (c 2) (c 3) (c 4) J H Q E)):bK P w K mg base (jN P w) 5 f fd ps (DX N (c 3)):=by
 refine G.imp λJ H Q E h=>?_;let (M,A,s,L,pl,i,U,ns,rfl,g,hi,X,F,hn,le,e9,hm,hE,q):=h;rcases KP s.cs L with Y|⟨k,t,v,y⟩
 ·refine .inr {A.b,A.pw,A.sh,A.d,M.sp,M.ev,M.le,s.nn,s.nt,s.mo,A.ps,s.cs,.int L,.int pl,.ref U,.int i,rfl,g.bv.bk,.kn (.int _),.kn (.int _),.kn (.int _),λz=>lG hi z,λ_ z=>lG (p:=λx=>0<=x/\x<s.nt) {(X),F} z,λ_ _ _ _ _ _ T s'=>hE Y T s',λ_ a0 e _ _ k p t _ v y _=>?_};cases e;rw [Y t (i6 v)] at y;cases y
 let C:=i6 v;let em:=hm t C y;subst em;let (u,eo,eu):=eU y;let op:=g.iv.op t C u eo;obtain⟨p,I⟩:∃p,A.ps[k]?=some p:=by
  have:=g.bv.bk.pc.length;have:=(c8.mp v).1;exact {A.ps[k],c7 ∎}
 let bd:=g.iv.bnd g.wg C;let Z:=g.iv.lm t C;let al:∀(j:Nat) n,ns[j]?=some n->t.m+(j:Int)<t.m->n=s.vf (t.m+(j:Int)):=λj n _ l=>absurd l ∎;let fl:=Uf (ns:=ns) (lo:=t.m-t.m) (hi:=t.h-t.m) ∎ ∎;let (wq,O,w1,w2):=g.iv.inw g.wg C;let lw:=g.wg.ln;let lk:=g.iv.kvl;refine .inl {A.b,A.pw,A.sh,A.d,A.pw',A.d',U,M.sp,M.ev,M.le,s.nn,s.nt,s.mo,L,i,t.m,A.ps,s.cs,k,p,t,M.ws,s.kv,ns,rfl,g.bv.bk,g.bv.st,hi,X,F,I,v,y,λj e hj l=>g.iv.oneTk' v y j e hj l,hn,∎,Z.1,j0 _,∎,∎,∎,λj n e l=>absurd l ∎,g.iv.nm,g.bv.dd,∎,∎,{ ∎,∎,{wq,O,∎,∎},λj hj=>g.iv.hd.noV (g.iv.fresh v ∎ ∎)},λr T fr bk st hr=>?_};let (kp,t2,_,_):=g.bv.step I λa o e B _ D _ S=>fr a o e B D S;let F:=g.bv.stepT I λa o e B _ D S=>fr a o e B D S;let iv:=g.iv.told (fr:=fT ns (some (t.m-t.m)) (some (t.h-t.m))) (i:=i) g.wg v ∎ hi;let mp:=i6 I;exact q _ _ _ T kp (λa o e B _ n2 D _ _=>fr a o e B (λz=>D (z ▸ mp)) n2) {{(bk),st,F,t2,g.bv.dd,g.bv.tt},iv,g.wg,g.l1,g.e1} (.tell hi v y Z.1 (j0 _) ∎ al rfl) (.told hr)
end
section
variable (W:Wd P w K mg base N c)
include W
def wU:dZ P w K mg base (jN P w) N.CB "lend" 6 (EE N):=(Mi W).to BC
def wT:dZ P w K mg base (jN P w) N.CB "tell" 5 (DX N (c 3)):=(Fg W).to BB
end
structure Rn where
 x:Str
 pc:Int
 sil:Addr
 ps:Int
 sl:Bool
 tk:V
 ma:Int
 en:Int
 un:Addr
abbrev rf (r:Rn):List (Str × V):=[("worker",.str r.x),("pace",.int r.pc),("silences",.ref r.sil),("passed",.int r.ps),("silent",.bl r.sl),("token",r.tk),("mark",.int r.ma),("end",.int r.en),("untold",.ref r.un)]
structure Co where
 bk:Addr
 dv:V
 l:Int
 dn:Int
 ov:Int
 ln:Addr
 na:Int
abbrev cf (c:Co):List (Str × V):=[("book",.ref c.bk),("doing",c.dv),("left",.int c.l),("done",.int c.dn),("over",.int c.ov),("lines",.ref c.ln),("none_at",.int c.na)]
inductive Uz (C:Addr) (vs:List V) (H:Hp) (Q:VK) (E0_:XK):Prop|mk (p dx:Addr) (r:Rn) (t:V) (m e:Int) (_:vs=[.ref p,t,.int m,.int e]) (_:H p=some (.ins C dx (rf r))) (_:Q .non (aR H p (.ins C dx (rf { r with tk:=t,ma:=m,en:=e }))))
def Yg (C:Addr):Sp:=Uz C
inductive Ph (C:Addr) (vs:List V) (H:Hp) (Q:VK) (E0_:XK):Prop|mk (p dx q:Addr) (x:Str) (pc:Int) (a:Lm.Ps) (_:vs=[.ref p,.str x,.int pc,.ref q]) (_:H p=some (.ins C dx [])) (_:bN H q a) (_:Lm.Wk a) (_:a.length<=1000)
 (_:∀(sil un:Addr) (b:Lm.Ps) (H':Hp),(∀b o,H b=some o->b≠p->H' b=some o)->bN H' sil b->H' un=some (.tup [])->H' p=some (.ins C dx (rf ⟨x,pc,sil,0,false,.non,0,0,un⟩))->Q .non H')
def Qu (C:Addr):Sp:=Ph C
inductive Vs (C:Addr) (vs:List V) (H:Hp) (Q:VK) (E0_:XK):Prop|mk (p dx:Addr) (r:Rn) (t:Int) (a:Lm.Ps) (_:vs=[.ref p,.int t]) (_:H p=some (.ins C dx (rf r))) (_:bN H r.sil a) (_:0<=r.ps) (_:r.ps<=a.length) (_:∀(ps:Int) (sl:Bool),0<=ps->ps<=a.length->Q .non (aR H p (.ins C dx (rf { r with ps:=ps,sl:=sl }))))
def Yt (C:Addr):Sp:=Vs C
inductive Py (C:Addr) (vs:List V) (H:Hp) (Q:VK) (E0_:XK):Prop|mk (p dx bk:Addr) (dv:V) (l:Int) (_:vs=[.ref p,.ref bk,dv,.int l]) (_:H p=some (.ins C dx [])) (_:∀(ln:Addr) (H':Hp),H ln=none->(∀b o,H b=some o->b≠p->H' b=some o)->H' ln=some (.lst [])->H' p=some (.ins C dx (cf ⟨bk,dv,l,0,0,ln,0⟩))->Q .non H')
def Re (C:Addr):Sp:=Py C
def Yx:aJ ["self","token","mark","end"] ["self","token","mark","end"] (aG Jq):={rfl,rfl,rfl,⋯,rfl,⋯,⋯}
def Cy (W:Wd P w K mg base N c):dZ P w K mg base cX N.CR "take" 1 (Yg N.CR):=W.d65.of λF=>by
 refine F.ok Yx (λd H Q E h=>?_) (λb A a s H d Q E i h=>?_)
 ·let (p,f,r,t,m,e,rfl,_):=h
  rfl
 ·intro X D
  let (p,f,r,t,m,e,rfl,g,q):=h
  refine Wp.ex (dL (p:=p) (v:=t) (by symm) (by symm) g W.R.cl W.R.nT (by show 9<1000;decide) ?_)
  refine dL (p:=p) (v:=.int m) (by symm) (by symm) aB W.R.cl W.R.nM (by show 9<1000;decide) ?_
  refine dL (p:=p) (v:=.int e) (by symm) (by symm) aB W.R.cl W.R.nE (by show 9<1000;decide) (bX ?_)
  rw [bS,bS]
  exact q
def Rs:aJ ["self","worker","pace","silences"] ["self","worker","pace","silences"] (aG Jr):={rfl,rfl,rfl,⋯,rfl,⋯,⋯}
def Ma (W:Wd P w K mg base N c):dZ P w K mg base cX N.CR "__init__" 6 (Qu N.CR):=W.d63.of λF=>by
 refine F.ok Rs (λT H Q E h=>?_) (λY A M s H T Q E U h=>?_)
 ·let (p,d,q,x,f,a,rfl,_):=h
  rfl
 ·intro X D
  let (p,d,q,x,f,a,rfl,O,ha,wa,la,k):=h
  refine Wp.ex (dL (p:=p) (v:=.str x) (by symm) (by symm) O W.R.cl W.R.nW (by show 0<1000;decide) ?_)
  refine dL (p:=p) (v:=.int f) (by symm) (by symm) aB W.R.cl W.R.nP (by show 1<1000;decide) ?_
  rw [bS]
  let B:∀b o,H b=some o->b≠p->(aR H p (.ins N.CR d [("worker",.str x),("pace",.int f)])) b=some o:=λb o e n=>by rw [aC n];exact e
  let I:(aR H p (.ins N.CR d [("worker",.str x),("pace",.int f)])) p=_:=aB
  let u:bN (aR H p (.ins N.CR d [("worker",.str x),("pace",.int f)])) q a:=by
   let (L,m,G):=ha;let l:∀{b:Addr} {y:List V},H b=some (.tup y)->b≠p:=λ{b y} e z=>by rw [z,O] at e;cases e
   exact {L,B _ _ m (l m),aK (λv q ⟨b,z1,z2⟩=>{b,z1,B _ _ z2 (l z2)}) G}
  show Wp X _ D _ (aR H p (.ins N.CR d [("worker",.str x),("pace",.int f)]));generalize aR H p (.ins N.CR d [("worker",.str x),("pace",.int f)])=H2 at I B u ⊢;refine {_,aF (cD (pv 0) (aS (Ly W) U aN (aA (pv 3) aE)) rfl) aU,?_};refine {_,rfl,q,a,rfl,u,wa,la,λr b C J Z _ _ _=>?_};refine {_,rfl,p,N.CR,d,_,rfl,J _ _ I,W.R.cl,W.R.nS,(by show 2<1000;decide),?_};refine dL (p:=p) (v:=.int 0) (by symm) (by symm) aB W.R.cl W.R.nA (by show 3<1000;decide) ?_;refine dL (p:=p) (v:=.bl false) (by symm) {λ_ q=>{_,mM,q}} aB W.R.cl W.R.nQ (by show 4<1000;decide) ?_;refine dL (p:=p) (v:=.non) (by symm) (by symm) aB W.R.cl W.R.nT (by show 5<1000;decide) ?_;refine dL (p:=p) (v:=.int 0) (by symm) (by symm) aB W.R.cl W.R.nM (by show 6<1000;decide) ?_;refine dL (p:=p) (v:=.int 0) (by symm) (by symm) aB W.R.cl W.R.nE (by show 7<1000;decide) ?_;rw [bS,bS,bS,bS,bS];refine {_,aH (cD (pv 0) (cE aE) rfl),i5 _,λj g=>?_};let t:p≠j:=λz=>by rw [z,aB] at g;cases g
  let S:∀{b:Addr} {o:HO},C b=some o->b≠p->b≠j:=λ{b o} e n z=>by
   rw [<- z,aC n,e] at g;cases g
  refine {_,rfl,p,N.CR,d,_,rfl,by rw [aC t,aB],W.R.cl,W.R.nU,(by show 8<1000;decide),?_};let i:∀b o,C b=some o->b≠p->(aR (aR (aR C p (.ins N.CR d (rf {x,f,r,0,false,.non,0,0,j} |>.take 8))) j (.tup [])) p (.ins N.CR d (rf {x,f,r,0,false,.non,0,0,j}))) b=some o:=λb o e n=>by rw [aC n,aC (S e n),aC n];exact e
  let l:∀{b:Addr} {y:List V},C b=some (.tup y)->b≠p:=λ{b y} e z=>by rw [z,J _ _ I] at e;cases e
  let (L,m,G):=Z;exact k r j b _ (λb o e n=>i b o (J _ _ (B _ _ e n)) n) {L,i _ _ m (l m),aK (λv q ⟨b,z1,z2⟩=>{b,z1,i _ _ z2 (l z2)}) G} (by rw [aC t.symm,aB]) aB
def Hw {H:Hp} {p:Addr} {o:HO} (h:H p=some o):aR H p o=H:=funext λb=>by
 by_cases z:b=p
 ·rw [z,aB,h]
 ·rw [aC z]
def Zk:aJ ["self","tick"] ["self","tick"] (aG Js):={rfl,rfl,rfl,⋯,rfl,⋯,⋯}
def Tl (W:Wd P w K mg base N c):dZ P w K mg base cX N.CR "come_to" 1 (Yt N.CR):=W.d64.of λF=>by
 refine F.ok Zk (λvs H Q E h=>?_) (λa1 A C s H vs Q E hr h=>?_)
 ·let (p,f,r,t,a,rfl,_):=h
  rfl
 ·intro X D
  let (p,f,r,t,a,rfl,Z,(g,M,J),z0,z1,q):=h
  let lx:=J.length
  let x:=W.R.cl
  let nA:=W.R.nA
  let nS:=W.R.nS
  let GL:=W.G.len
  let L:∀{b:Addr} {i:List V},H b=some (.tup i)->b≠p:=λ{b i} e z=>by rw [z,Z] at e;cases e
  let B:∀ps:Int,0<=ps->ps<a.length->∃b l I,kB g ps=some (.ref b)/\H b=some (.tup [.int l,.int I]):=λps n O=>by
   let (j,rfl):=F9 n
   let hj:j<g.length:=∎
   let (y,hy,b,e,o):=aQ J (c7 hj)
   exact {b,y.1,y.2,by rw [<- e];exact bW (c7 hj),o}
  refine Wp.ex (iQ v4 (λm σ G=>∃ps:Int,m=a.length-ps.toNat/\0<=ps/\ps<=a.length/\σ=[some (.ref p),some (.int t)]/\G=aR H p (.ins N.CR f (rf { r with ps:=ps }))) _ {r.ps,rfl,z0,z1,rfl,(Hw Z).symm} λm σ G h=>?_)
  let (ps,rfl,n,O,rfl,rfl):=h
  let k:(aR H p (.ins N.CR f (rf { r with ps:=ps }))) p=some (.ins N.CR f (rf { r with ps:=ps })):=aB
  let xG:(aR H p (.ins N.CR f (rf { r with ps:=ps }))) r.sil=some (.tup g):=by rw [aC (L M)];exact M
  let q:∀sl,Q .non (aR (aR H p (.ins N.CR f (rf { r with ps:=ps }))) p (.ins N.CR f (rf { r with ps:=ps,sl:=sl }))):=λsl=>by rw [bS];exact q ps sl n O
  let S:aR (aR H p (.ins N.CR f (rf { r with ps:=ps }))) p (.ins N.CR f (rf { r with ps:=ps+1 }))=_:=bS
  let U:∀{b:Addr} {i:List V},H b=some (.tup i)->(aR H p (.ins N.CR f (rf { r with ps:=ps }))) b=some (.tup i):=λ{b i} e=>by rw [aC (L e)];exact e
  generalize aR H p (.ins N.CR f (rf { r with ps:=ps }))=G at k xG q S U ⊢
  by_cases c1:ps<a.length
  ·let (b,l,I,a0,o):=B ps n c1
   let o:=U o
   let u:decide (ps<(g.length:Int))=true:=decide_eq_true ∎
   by_cases Y:I<=t
   ·refine .inl {?_,λD' T=>?_}
    ·apply Tv.is;apply fG;symm;intro _;symm
     rw [u,decide_eq_true Y]
     rfl
    ·refine {_,aF (fU (pv 0) aX pZ) aU,?_}
     exact {_,rfl,p,N.CR,f,_,_,rfl,k,x,nA,rfl,_,_,rfl,rfl,f,_,k,(by show 9<1000;decide),bX (T.nx _ _ {a.length-(ps+1).toNat,∎,ps+1,rfl,∎,∎,rfl,S})}
   ·refine .inr {?_,?_}
    ·apply Tv.is;apply fG;symm;intro _;symm
     rw [decide_eq_false Y,K3]
    ·refine {_,aH (cD (pv 0) (eQ (dF iJ aP aP (bO _)) (gA (dF fO aP (pv 1) (bO _)))) rfl),?_}
     refine Vl.to (v:=.int ps) (by symm) _ (Vl.to (v:=.int g.length) (by symm) _ {_,_,rfl,rfl,_,rfl,eT u (Vl.to (v:=.int l) (by symm) _ {_,rfl,_,_,rfl,rfl,_,rfl,p,N.CR,f,_,rfl,k,x,W.R.nQ,(by show 9<1000;decide),q (decide (l<=t))})})
  ·let u:decide (ps<(g.length:Int))=false:=decide_eq_false ∎
   refine .inr {?_,?_}
   ·apply Tv.is;apply fG (d:=false);symm;intro z;exact absurd (show ps<(g.length:Int) from of_decide_eq_true z) ∎
    rw [K3]
   ·refine {_,aH (cD (pv 0) (eQ (dF iJ aP aP (bO _)) (gA (dF fO aP (pv 1) (bO _)))) rfl),?_}
    refine Vl.to (v:=.int ps) (by symm) _ (Vl.to (v:=.int g.length) (by symm) _ {_,_,rfl,rfl,_,rfl,dC u {_,rfl,p,N.CR,f,_,rfl,k,x,W.R.nQ,(by show 9<1000;decide),q false}})
def Rx:aJ ["self","book","doing","left"] ["self","book","doing","left"] (aG Kh):={rfl,rfl,rfl,⋯,rfl,⋯,⋯}
def Mn (W:Wd P w K mg base N c):dZ P w K mg base cX N.CC "__init__" 1 (Re N.CC):=W.d66.of λF=>by
 refine F.ok Rx (λt H Q E h=>?_) (λr A g s H t Q E x h=>?_)
 ·let (p,m,q,j,l,rfl,_):=h
  rfl
 ·intro X D
  let (p,m,q,j,l,rfl,u,k):=h
  refine Wp.ex (dL (p:=p) (v:=.ref q) (by symm) (by symm) u W.Q.cl W.Q.nB (by show 0<1000;decide) ?_)
  refine dL (p:=p) (v:=j) (by symm) (by symm) aB W.Q.cl W.Q.nD (by show 1<1000;decide) ?_
  refine dL (p:=p) (v:=.int l) (by symm) (by symm) aB W.Q.cl W.Q.nL (by show 2<1000;decide) ?_
  refine dL (p:=p) (v:=.int 0) (by symm) (by symm) aB W.Q.cl W.Q.nN (by show 3<1000;decide) ?_
  refine dL (p:=p) (v:=.int 0) (by symm) (by symm) aB W.Q.cl W.Q.nO (by show 4<1000;decide) ?_
  rw [bS,bS,bS,bS]
  refine {_,aF (cD (pv 0) (pH aE) rfl) aU,i5 _,λf a=>?_}
  let d:p≠f:=λz=>by rw [z,aB] at a;cases a
  let i:H f=none:=by rwa [aC d.symm] at a
  refine {_,rfl,p,N.CC,m,_,rfl,by rw [aC d,aB],W.Q.cl,W.Q.nI,(by show 5<1000;decide),?_}
  refine dL (p:=p) (v:=.int 0) (by symm) (by symm) aB W.Q.cl W.Q.nX (by show 6<1000;decide) (bX ?_)
  rw [bS]
  refine k f _ i (λb o e n=>?_) ?_ aB
  ·rw [aC n,aC (aD e i),aC n]
   exact e
  ·rw [aC d.symm,aB]
end
end Ls
namespace L2
open PySem PySem.Spec PyProof.Rows PySem.W
def Yc (f:Addr) (sp:Sp) (dvs:List V) (E:XK) (i:Nat) (t:TA):TE:=λσ H Q=>σ[i]?=some (some (.ref f))/\vJ sp dvs E t σ H Q
section
variable {X:Cx}
def Li {CX:mK} {k i:Nat} {f:Addr} {m:FuncData} {ps:List Str} {sp:Sp} {n:List Value} {dvs:List V} {E:XK} {x:Str} {p pos:Pos} {e:Expr} {b:List Expr} {t:TA} (F:bK X.prog X.w X.K X.mg X.base CX k f m ps sp) (C:Room k X.A) (G:PySem.W.keepIn X.K (.ref f)=true) (O:eX X.K m ps n) (y:bG dvs n) (P:dX CX X E)
  (J:PA X (e::b) t) (L:X.N[i]?=some x:=by rfl) (z:Xo X.env.scope x:=by first|exact j5 rfl|exact E1 (j5 rfl)|exact E1 (E1 rfl)) (c:(x == ("__debug__":Str))=false:=by decide)
  (d:(x == ("__classdict__":Str))=false:=by decide) (B:starEach (e::b) X.env=(false,eval e X.env)::starEach b X.env:=by rfl) (g:(backTo pos (starEach b X.env)).any (·.1)=false:=by rfl):
  PE X (.Call (.Name x p) (e::b) [] pos) (Yc f sp dvs E i t):=by
 intro a s σ H Q I h;let (D,h):=h;refine C2 (gM (zF (i:=i) L z c d s σ H (λv j=>v=.ref f/\j=H) I {.ref f,D,rfl,rfl}) λu o M=>?_);let (v,j,l,S,rfl,rfl):=M;cases S;refine PySem.W.callWith_K (h₀:=X.base) l.ok.mod.kin G (gM (J a o σ j _ l h) λY T ⟨U,H2,I2,r,q⟩=>{I2.kIn,?_}) B g;exact tY F C O y P I2 r q
def Gv (l:X.calm=true):fP X (.builtin "min") (λe H Q=>∃i j k,e=[.int i,.int j,.int k]/\Q (.int (if j<i then(if k<j then k else j) else if k<i then k else i)) H):=by
 intro d s σ H e g Q I r h;let (i,j,k,rfl,q):=h;obtain⟨y,c,rfl,⟨p,rfl⟩,m⟩:∃u c,g=u::c/\bJ (.int i) u/\bG [.int j,.int k] c:=by
  cases r with
  | cons r1 r2=>exact {_,_,rfl,r1,r2}
 let (t,v,rfl,(w,rfl),(o,rfl)):=Hv m;refine min_three_ints (I.ok.hd l) λz n f=>{_,H,I.kept f,?_,q};by_cases b:j<i
 ·by_cases a:k<j
  ·rw [if_pos b,if_pos a,if_pos b,if_pos a];exact {_,rfl}
  ·rw [if_pos b,if_neg a,if_pos b,if_neg a];exact {_,rfl}
 ·by_cases a:k<i
  ·rw [if_neg b,if_pos a,if_neg b,if_pos a];exact {_,rfl}
  ·rw [if_neg b,if_neg a,if_neg b,if_neg a];exact {_,rfl}
def Qk {σ:St} {H:Hp} {v:V} {vs:List V} {k i:Nat} {f:Addr} {g:FuncData} {ps:List Str} {sp:Sp} {E:XK} {x:Str} {p pos:Pos} {e:Expr} {a:List Expr} (F:bK X.prog X.w X.K X.mg X.base cX k f g ps sp) (r:Room k X.A) (t:PySem.W.keepIn X.K (.ref f)=true) (h:eX X.K g ps []) (j:dX cX X E)
  (s:σ[i]?=some (some (.ref f))) (m:Av X (e::a) σ H vs) (q:∀Q:VK,Q v H->sp vs H Q E) (o:X.N[i]?=some x:=by rfl) (l:Xo X.env.scope x:=by first|exact j5 rfl|exact E1 (j5 rfl)|exact E1 (E1 rfl)) (b:(x == ("__debug__":Str))=false:=by decide)
  (c:(x == ("__classdict__":Str))=false:=by decide) (n:starEach (e::a) X.env=(false,eval e X.env)::starEach a X.env:=by rfl) (d:(backTo pos (starEach a X.env)).any (·.1)=false:=by rfl):Vl X (.Call (.Name x p) (e::a) [] pos) σ H v:=
 {λQ z=>{_,Li (dvs:=[]) F r t h .nil j dE o l b c n d,s,m.to _ (by rw [x9];exact q Q z)}}
end
section
variable {X:Cx} {NB:List Str} {js:List Nat} {scope:Scope} {cl:List (Str × Addr)} {x:Str} {elt:Expr} {p' p1 p2 p3:Pos} {σ:St} {H:Hp} {Q:VK}
def xT {i j:Int} {a b:Expr} {out:Nat->V} (C:mZ X NB 1 js scope cl) (hi:NB[0]?=some x) (u:X.mg "range"=none) (K:Av X [a,b] σ H [.int i,.int j]) (U:-(2 ^ 62)<=i/\i<2 ^ 62/\-(2 ^ 62)<=j/\j<2 ^ 62) (Y:(j-i).toNat<=4000)
  (F:∀n,n<(j-i).toNat->∀G,aM H G->∀C s l d c,Vl (X.blkF NB scope cl C s l d c) elt ((dY 1 js σ).set 0 (some (.int (i+(n:Int))))) G (out n)) (k:∀f G,aM H G->G f=some (.lst ((List.range (j-i).toNat).map out))->Q (.ref f) G)
  (N:∀C s l d c,Ay (X.blkF NB scope cl C s l d c).env.scope x:=by exact λ_ _ _ _ _=>j5 rfl) (J:∀C s l d c,(X.blkF NB scope cl C s l d c).env.scope.names.lookup x=some .local:=by exact λ_ _ _ _ _=>rfl) (B:Gl X "range":=by rfl) (o:starEach [a,b] X.env=[(false,eval a X.env),(false,eval b X.env)]:=by rfl) (m:starEach [b] X.env=[(false,eval b X.env)]:=by rfl) (E:X.calm=true:=by rfl) (p:∀y,foldedSetIterable (.Call (.Name "range" p1) [a,b] [] p2) X.env y=pure y:=by intro _;rfl):
  Ex X (.ListComp elt [{.Name x p',.Call (.Name "range" p1) [a,b] [] p2,[],0}] scope p3) σ H Q:=by
 let (P,L,A,O,S):=C.all;refine {_,dM (g:=cS 0) (te:=Bx X NB scope cl elt) P L A rfl O (jT B u dE o m E) (λC s H d c=>aW S hi (N C s H d c) (.inr (J C s H d c))) (λ_ _ _ _ _=>eC) (λC s l d c _ t w M W I h=>aP t w M W I (h C s l d c)) p,K.to _ {i,j,rfl,U,?_}};refine sQ (xs:=List.range (j-i).toNat) (pm:=λ_=>true) (out:=out) (val:=λn:Nat=>.int (i+(n:Int))) (by rw [z8];omega) (λG n _ hi=>by rw [z8] at hi;exact hi) (λG _=>by rw [z8];exact c9 _)
  (λG n x Z _ r D=>?_) _ (λz v G T R h=>h _ rfl (λ_ h=>h) λ_ R q C s l d c=>(F z (C7.mp v) G T C s l d c).to _ (q _ (aM.refl _))) λf G s e=>k f G s (by rw [e,List.filter_eq_self.mpr λ_ _=>rfl])
 let (rfl,rfl):=D;exact {rfl,n,by rw [z8] at r;rw [List.getElem?_range r],rfl}
end
end L2
namespace Ls
open PySem L2 PySem.W
def wB (m:Int) (n:Nat):List Int:=(List.range n).map λ(i:Nat)=>Sa (m+(i:Int))
def fW (m:Int) (n:Nat):(wB m n).length=n:=by unfold wB;rw [g7,z8]
inductive GQ (N:Cn) (fD:Addr) (vs:List V) (H:Hp) (Q:VK) (E0_:XK):Prop|mk (p q dc dp db pw sh d:Addr) (c:Co) (r:Rn) (sp ev le nn nt mo:Int) (_:vs=[.ref p,.ref q]) (_:H p=some (.ins N.CC dc (cf c))) (_:c.dv=.ref fD) (_:H q=some (.ins N.CR dp (rf r))) (_:H c.bk=some (.ins N.CB db (bf pw sh d sp ev le nn nt mo))) (_:1<=r.pc) (_:1<=ev) (_:ev<=4) (_:r.ma<r.en) (_:-(2 ^ 60)<=r.ma) (_:r.en<=2 ^ 60)
 (_:∀(k:Nat) (u:Addr) (H':Hp),1<=k->k<=ev->r.ma+k<=r.en->(∀b o,H b=some o->b≠p->H' b=some o)->H' u=some (.tup ((wB r.ma k).map V.int))->H' p=some (.ins N.CC dc (cf { c with dn:=c.dn+k }))->Q (.ref u) H')
def II (N:Cn) (fD:Addr):Sp:=GQ N fD
section
variable {P:Program} {w:World} {K:Frag} {mg:Str->Option Value} {base:Heap} {N:Cn} {c:Nat->Addr}
def EO:aJ ["self","runner","count","doing"] ["self","runner"] (aG vY):={rfl,rfl,rfl,⋯,rfl,⋯,⋯}
def Xf {L:Addr} (hD:mg "_law_result"=some (.ref L)) (W:Wd P w K mg base N c):dZ P w K mg base cX N.CC "do_places" 2 (II N L):=W.d72.of λF=>by
 let (m,a5,a1,GD,kD,bD,g):=(Sx W).ex
 have:m=L:=by rw [hD] at g;injection g with g;injection g with g;exact g.symm
 subst this
 refine F.ok EO (λvs H Q E h=>?_) (λa3 A J s H vs Q E hr h=>?_)
 ·let (p,q,f,dp,db,pw,sh,d,c,r,sp,l,le,nn,nt,mo,rfl,_):=h
  rfl
 ·intro X D
  let (p,q,f,dp,db,pw,sh,d,c,r,sp,l,le,nn,nt,mo,rfl,O,hd,M,hb,p1,e1,e4,me,m1,m2,k):=h
  let T:=EO.nd
  let cl:=W.R.cl
  let nP:=W.R.nP
  let nE:=W.R.nE
  let nM:=W.R.nM
  let a0:=W.Q.cl
  let nB:=W.Q.nB
  let nD:=W.Q.nD
  let a2:=W.B.cl
  let a6:=W.B.nE
  let y:q≠p:=λz=>by
   rw [z,O] at M
   have:=Option.some.inj M
   injection this with _ _ e
   exact absurd e (by intro z;cases z)
  refine Wp.ex (cF (n:=2) T rfl {_,bF (Gv rfl) (by rfl) W.G.min xW dE,Av.to (vs:=[.int r.pc,.int l,.int (r.en-r.ma)]) (by symm) _ {_,_,_,rfl,?_}})
  generalize U:(if l<r.pc then(if r.en-r.ma<l then r.en-r.ma else l) else if r.en-r.ma<r.pc then r.en-r.ma else r.pc)=n
  let S:1<=n/\n<=l/\r.ma+n<=r.en:=by
   rw [<- U];split <;> split <;> omega
  let (a,rfl):=F9 (show 0<=n by omega);refine tF (n:=3) (v:=.ref m) (by rw [<- hd];symm) T rfl (E1 rfl) rfl (.inl rfl) ?_;refine {_,aF (fU (pv 0) (pv 2) pZ) aU,?_};refine {_,rfl,p,N.CC,f,_,_,rfl,O,W.Q.cl,W.Q.nN,rfl,_,rfl,_,_,rfl,rfl,f,_,O,(by show 7<1000;decide),?_};let t:(aR H p (.ins N.CC f (cf { c with dn:=c.dn+(a:Int) }))) p=some (.ins N.CC f (cf { c with dn:=c.dn+(a:Int) })):=aB;let x:∀b o,H b=some o->b≠p->(aR H p (.ins N.CC f (cf { c with dn:=c.dn+(a:Int) }))) b=some o:=λb o e n=>by rw [aC n];exact e
  show Wp X _ D _ (aR H p (.ins N.CC f (cf { c with dn:=c.dn+(a:Int) })));generalize aR H p (.ins N.CC f (cf { c with dn:=c.dn+(a:Int) }))=H1 at t x ⊢;let a4:=x _ _ M y;refine fI {_,dH cT (by rfl) W.G.tuple eV (aA aP aE),xT (NB:=["place","doing"]) (js:=[3]) (cl:=[("doing",s.heap.objs.size+1)]) (i:=r.ma) (j:=r.ma+(a:Int)) (out:=λn=>.int (Sa (r.ma+(n:Int)))) {(rfl),rfl,rfl,rfl} rfl W.G.range (by symm) ∎ ∎ (λn U G Z C s H' fp pn=>?_) λI G Z hA=>?_}
  ·exact Qk (i:=1) (vs:=[.int (r.ma+(n:Int))]) GD (by exact hr.mono (by decide)) kD bD aN rfl (by symm) λQ z=>{_,rfl,∎,∎,z}
  ·refine {I,_,rfl,.inl {dD.of hA,λu hu=>?_}};let Y:=Z.trans (aI (o:=.tup ((List.range (r.ma+(a:Int)-r.ma).toNat).map λ(n:Nat)=>V.int (Sa (r.ma+(n:Int))))) hu);refine k a u _ ∎ S.2.1 S.2.2 (λb o e n=>Y _ _ (x _ _ e n)) ?_ (Y _ _ t);rw [aB,show (r.ma+(a:Int)-r.ma).toNat=a by omega];unfold wB;rw [B0];rfl
end
end Ls
namespace L2
open PySem PySem.Spec PyProof.Rows PySem.W
def Uc {X:Cx}:BX X .Sub (λx y H Q=>∃i j,x=.int i/\y=.int j/\Q (.int (i-j)) H):=λd s σ H x y u v Q I f e h=>by
 let (i,j,rfl,rfl,q):=h
 let (a,rfl):=f
 let (b,rfl):=e
 exact isub_int {.int (i-j),H,I.tok _,{_,rfl},q}
def HZ (t:TT) (ta tb:TE):TE:=λσ H Q=>t σ H λc H1=>if c=true then ta σ H1 Q else tb σ H1 Q
def Lg {X:Cx} {c a b:Expr} {pos:Pos} {tc:TT} {i tb:TE} (n:PT X c tc) (m:PE X a i) (l:PE X b tb):PE X (.IfExp c a b pos) (HZ tc i tb):=λg s σ H Q I h=>by
 refine wpAny_IfExp (gM (n s σ H _ I h) λd e z=>?_)
 let (k,j,f):=z
 cases d with
 | true=>exact m e σ k Q j f
 | false=>exact l e σ k Q j f
end L2
namespace Ls
open PySem L2 PySem.W
def Ki:HO->Bool
 | .tup _=>true
 | .lst _=>true
 | .ins _ _ ((f,_)::_)=>f == "book" || f == "worker"
 | _=>false
def Nb {C a:Addr} {c:Co}:Ki (.ins C a (cf c))=true:=by show (("book":Str) == "book" || ("book":Str) == "worker")=true;decide +kernel
def Fv {C a:Addr} {r:Rn}:Ki (.ins C a (rf r))=true:=by show (("worker":Str) == "book" || ("worker":Str) == "worker")=true;decide +kernel
def FN {C b:Addr} {v:V} {a:List (Str × V)}:Ki (.ins C b (("work",v)::a))=false:=by show (("work":Str) == "book" || ("work":Str) == "worker")=false;decide +kernel
def FO {C b:Addr} {v:V} {a:List (Str × V)}:Ki (.ins C b (("number",v)::a))=false:=by show (("number":Str) == "book" || ("number":Str) == "worker")=false;decide +kernel
def Kb:HO->Bool
 | .tup _=>true
 | o=>!Ki o
def Go.kb {N:Cn} {M:Pm} {H H':Hp} {A:Ad} {s:S8} (k:∀a o,H a=some o->Kb o=true->H' a=some o) (g:Go N M H A s):Go N M H' A s:=by
 let ((((f,Q),z,m),((t,u),(I,y,r),l),S,U,J,x),B,F,G,L):=g;let j:∀{T:Addr} {i:Pos} {q:Str},kC H T i q->kC H' T i q:=λ{T i q} ⟨W,a,b,c⟩=>{W,k _ _ a rfl,b,c.imp id λ⟨O,d,e⟩=>{O,d,k _ _ e rfl}};let n:∀{C f:Addr} {v:V} {h:List (Str × V)},Kb (.ins C f (("work",v)::h))=true:=λ{C f v h}=>by show (!Ki (.ins C f (("work",v)::h)))=true;rw [FN];rfl
 let E:∀{C f:Addr} {v:V} {h:List (Str × V)},Kb (.ins C f (("number",v)::h))=true:=λ{C f v h}=>by show (!Ki (.ins C f (("number",v)::h)))=true;rw [FO];rfl
 exact {{{{f,k _ _ Q n},k _ _ z rfl,aK (λp c ⟨D,⟨dp,ha⟩,hl⟩=>{D,{dp,k _ _ ha E},hl.move λq X e=>k _ _ e rfl}) m},{{t,k _ _ u n},{I,k _ _ y rfl,aK (λv q ⟨b,z1,z2⟩=>{b,z1,k _ _ z2 rfl}) r},k _ _ l rfl},j S,j U,J,x},B,F,G,L}
def iK {H:Hp} {a b:Addr} {o o':HO} (e:H a=some o) (k:Kb o=true) (d:H b=some o') (k':Kb o'=false):a≠b:=λz=>by
 rw [z,d] at e
 cases e
 rw [k] at k'
 cases k'
def Ng {C a:Addr} {c:Co}:Kb (.ins C a (cf c))=false:=by show (!Ki (.ins C a (cf c)))=false;rw [Nb];rfl
def Nf {C a:Addr} {r:Rn}:Kb (.ins C a (rf r))=false:=by show (!Ki (.ins C a (rf r)))=false;rw [Fv];rfl
def Fo.ki {N:Cn} {M:Pm} {H H':Hp} {A:Ad} {s:S8} (g:Go N M H A s) (F:Fo N A H H') {a:Addr} {o:HO} (e:H a=some o) (k:Ki o=true):H' a=some o:=by
 let (r,n):=g.bv.bk.ob;let (_,h,_):=g.bv.t1;let (_,f,_):=g.bv.t2;let b:∀{i:HO},H a=some i->Ki i=false->False:=λ{i} l m=>by
  rw [e] at l;cases l;rw [k] at m;cases m
 refine F a o e (λz=>b (z ▸ n) FN) (λz=>b (z ▸ g.bv.bk.dc) rfl) (λz=>b (z ▸ g.bv.st.dc) rfl) (λz=>?_) (λz=>b (z ▸ h) rfl) λz=>b (z ▸ f) rfl;let (j,q,p):=y6 z;let (_,_,_,(_,d),_):=aQ g.bv.bk.pc (c7 q);rw [p] at d;exact b d FO
def Kr (p q l:Addr) (H H':Hp):Prop:=∀a o,H a=some o->Ki o=true->a≠p->a≠q->a≠l->H' a=some o
inductive GK (N:Cn) (CL:Addr) (vs:List V) (H:Hp) (Q:VK) (E:XK):Prop|mk (M:Pm) (A:Ad) (s:S8) (p q dc dq nr:Addr) (c:Co) (r:Rn) (tk i:Int) (ns:List Int) (ys:List V) (_:vs=[.ref p,.ref q,.ref nr,.int i]) (_:H p=some (.ins N.CC dc (cf c))) (_:c.bk=A.b) (_:H q=some (.ins N.CR dq (rf r))) (_:r.tk=.int tk) (_:H c.ln=some (.lst ys)) (_:ys.length<=4000) (_:Go N M H A s) (_:s.mo<=i) (_:0<=tk) (_:tk<s.nt) (_:H nr=some (.tup (ns.map V.int))) (_:ns.length<=M.ev) (_:M.ev<=4) (_:∀e ∈ s.cs,e.has tk=true->e.m=r.ma)
 (_:(∀e ∈ s.cs,e.has tk=false)->∀H',aM H H'->E (.ref CL) none H')
 (_:∀(m h:Int) (u:V) (s':S8) (a:Addr) (H':Hp),Sc M s (.tell tk r.ma i ns) (.told m h u) s'->Go N M H' A s'->Kr p q c.ln H H'->H' p=some (.ins N.CC dc (cf { c with l:=c.l-(m-r.ma) }))->H' q=some (.ins N.CR dq (rf { r with tk:=if u=.non then .non else .int tk,ma:=m,en:=h }))->H' c.ln=some (.lst (ys++[.ref a]))->H' a=some (.tup [.str "told",.int i,.int tk,.int r.ma,.ref nr])->Q .non H')
def IG (N:Cn) (CL:Addr):Sp:=GK N CL
def Sc.tellU {M:Pm} {s s':S8} {tk pl i:Int} {ns:List Int} {o:To} (h:Sc M s (.tell tk pl i ns) o s'):∃m h u,o=.told m h u/\(u=.non\/∃z,u=.int z):=by
 cases h with
 | tell _ _ _ _ _ _ _ _=>
  refine {_,_,_,rfl,?_};split
  ·exact .inl rfl
  ·exact .inr {_,rfl}
section
variable {P:Program} {w:World} {K:Frag} {mg:Str->Option Value} {base:Heap} {N:Cn} {c:Nat->Addr}
def EJ:aJ ["self","runner","numbers","tick","told"] ["self","runner","numbers","tick"] (aG Kg):={rfl,rfl,rfl,⋯,rfl,⋯,⋯}
def Xe (W:Wd P w K mg base N c):dZ P w K mg base (jN P w) N.CC "tell_numbers" 6 (IG N (c 3)):=W.d73.of λF=>by
 refine F.okE EJ (λvs H Q E h=>?_) (λaf A aa s H vs Q E hr h=>?_)
 ·let (M,A,s,p,q,x,L,nr,c,r,tk,i,ns,ys,rfl,_):=h
  rfl
 ·intro X D
  let (M,Ab,s8,p,q,x,L,nr,f,r,tk,i,ns,ys,rfl,hp,a0,hq,J,hl,ly,g,hi,t0,t1,hn,le,e4,hm,hE,k):=h
  let nd:=EJ.nd
  let (db,a9):=g.bv.bk.ob
  let a6:=W.Q.cl
  let nB:=W.Q.nB
  let nI:=W.Q.nI
  let ad:=W.R.cl
  let nT:=W.R.nT
  let nM:=W.R.nM
  let bo:H f.bk=some (.ins N.CB db (bf Ab.pw Ab.sh Ab.d M.sp M.ev M.le s8.nn s8.nt s8.mo)):=by rw [a0];exact a9
  refine Wp.ex (cF (n:=4) nd rfl {_,bE aP W.B.cl (wT W) hr (fA (E':=E) λ_ _ _ z=>z) dE,?_})
  refine Vl.to (v:=.ref f.bk) (by symm) _ {_,db,_,rfl,bo,rfl,?_}
  refine Av.to (vs:=[.int tk,.int r.ma,.ref nr,.int i]) (by rw [<- J];symm) _ ?_
  refine {M,Ab,s8,tk,r.ma,i,nr,ns,by rw [a0];rfl,g,hi,t0,t1,hn,le,∎,hm,λno H' s'=>hE no H' s',λv o s' H1 kp fo g' sc to=>?_}
  let (m,h,u,rfl,hu):=sc.tellU
  obtain⟨rr,rfl,T⟩:∃rr,v=.ref rr/\H1 rr=some (.tup [.int m,.int h,u]):=by
   cases to with
   | told z=>exact {_,rfl,z}
  let G:=fo.ki g hp Nb;let I:=fo.ki g hq Fv;let j:=fo.ki g hl rfl;let a4:p≠q:=λz=>by
   rw [z,hq] at hp;have:=Option.some.inj hp;injection this with _ _ e;exact absurd e (by intro z;cases z)
  let a3:p≠f.ln:=aL hp hl (by intro z;cases z);let U:q≠f.ln:=aL hq hl (by intro z;cases z);refine gD (l:=f.ln) (vs:=[.str "told",.int i,.int tk,.int r.ma,.ref nr]) (by symm) (by rw [<- J];symm) j ly (by show 5<=1000;decide) (λa H2 O k2 l2 a2=>?_) rfl (iX PySem.F.plainAttrs_list PySem.F.slot_list_append PySem.F.type_list_append cV aP (aA (cE dE) aE));let C:=k2 _ _ G a3;let a7:=k2 _ _ I U;let a5:=k2 _ _ T (aL T j (by intro z;cases z));refine {_,aF (fU (pv 0) aP Uc) aU,?_};refine {_,rfl,p,N.CC,x,_,_,rfl,C,a6,W.Q.nL,rfl,Vl.to (v:=.int (m-r.ma)) (by symm) _ {_,_,rfl,rfl,x,_,C,(by show 7<1000;decide),?_}};let Y:(aR H2 p (.ins N.CC x (cf { f with l:=f.l-(m-r.ma) }))) p=some (.ins N.CC x (cf { f with l:=f.l-(m-r.ma) })):=aB;let S:∀b o,H2 b=some o->b≠p->(aR H2 p (.ins N.CC x (cf { f with l:=f.l-(m-r.ma) }))) b=some o:=λb o e n=>by rw [aC n];exact e
  show Wp X _ D _ (aR H2 p (.ins N.CC x (cf { f with l:=f.l-(m-r.ma) })));generalize aR H2 p (.ins N.CC x (cf { f with l:=f.l-(m-r.ma) }))=H3 at Y S ⊢;let y:=S _ _ a7 a4.symm;let ae:=S _ _ a5 (aL a5 C (by intro z;cases z));let a1:∀t:V,t=(if u=.non then .non else .int tk)->Q .non (aR H3 q (.ins N.CR L (rf { r with tk:=t,ma:=m,en:=h }))):=λt et=>by
   let Z:∀b o,H1 b=some o->b≠p->b≠q->b≠f.ln->(aR H3 q (.ins N.CR L (rf { r with tk:=t,ma:=m,en:=h }))) b=some o:=λb o e n1 n2 n3=>by
    rw [aC n2];exact S _ _ (k2 _ _ e n3) n1
   let ag:a≠f.ln:=λz=>by rw [z,j] at O;cases O
   let a8:a≠p:=λz=>by rw [z,G] at O;cases O
   let ac:a≠q:=λz=>by rw [z,I] at O;cases O
   refine k m h u s' a _ sc (g'.kb λb o e z=>Z b o e (iK e z G Ng) (iK e z I Nf) (iK e z j rfl)) (λb o e z n1 n2 n3=>Z b o (fo.ki g e z) n1 n2 n3) ?_ ?_ ?_ ?_
   ·rw [aC a4];exact Y
   ·rw [aB,et]
   ·rw [aC U.symm];exact S _ _ l2 a3.symm
   ·rw [aC ac];exact S _ _ a2 a8
  refine {_,aH (cJ (bE (pv 1) W.R.cl (Cy W) hr aN (aA (Lg fN aP aP) (aA aP (aA aP aE))))),?_};refine {_,rfl,q,L,_,rfl,y,rfl,?_};refine Tv.to (b:=!decide (u=.non)) (by symm) _ ?_;rcases hu with rfl|⟨z,rfl⟩
  ·refine cO (Vl.to (v:=.non) (by symm) _ (Vl.to (v:=.int m) (by symm) _ (Vl.to (v:=.int h) (by symm) _ {q,L,r,_,m,h,rfl,y,a1 _ rfl})))
  ·refine cW (Vl.to (v:=.int tk) (by rw [<- J];symm) _ (Vl.to (v:=.int m) (by symm) _ (Vl.to (v:=.int h) (by symm) _ {q,L,r,_,m,h,rfl,y,a1 _ rfl})))
end
end Ls
namespace L2
open PySem PySem.Spec PyProof.Rows PySem.W
def Bb {X:Cx} {D:eK} {σ:St} {H:Hp} {pos:Pos} {r:List Stmt} (h:D.rt .non H):Wp X (.Return none pos::r) D σ H:=
 {_,aF (t:=λD _ H=>D.rt .non H) (λ_ _ σ H _ I h=>wpAny_Return_none {.non,σ,H,I,rfl,h}) aU,h}
end L2
namespace Ls
open PySem L2 PySem.W
inductive BV (N:Cn) (vs:List V) (H:Hp) (Q:VK) (E0_:XK):Prop|mk (M:Pm) (A:Ad) (s:S8) (p q dc dq:Addr) (c:Co) (r:Rn) (i:Int) (ys:List V) (_:vs=[.ref p,.ref q,.int i]) (_:H p=some (.ins N.CC dc (cf c))) (_:c.bk=A.b) (_:H q=some (.ins N.CR dq (rf r))) (_:eH r.x) (_:PyData.strOk r.x=true) (_:H c.ln=some (.lst ys)) (_:ys.length<=4000) (_:Go N M H A s) (_:s.mo<=i)
 (_:∀(na:Int) (H':Hp),(∀a o,H a=some o->Ki o=true->a≠p->H' a=some o)->Go N M H' A s->H' p=some (.ins N.CC dc (cf { c with na:=na }))->Q .non H')
 (_:∀(tk n m h u ov:Int) (s':S8) (ps':List Addr) (a:Addr) (H':Hp),Sc M s (.lend r.x i) (.lent tk n m h u) s'->Go N M H' { A with ps:=ps' } s'->Kr p q c.ln H H'->H' p=some (.ins N.CC dc (cf { c with ov:=ov }))->H' q=some (.ins N.CR dq (rf { r with tk:=.int tk,ma:=m,en:=h }))->H' c.ln=some (.lst (ys++[.ref a]))->H' a=some (.tup [.str "lent",.int i,.str r.x,.int tk,.int n])->Q .non H')
def EH (N:Cn):Sp:=BV N
def Sc.lendU {M:Pm} {s s':S8} {x:Str} {i:Int} {o:To} (h:Sc M s (.lend x i) o s') (n:¬ Qb s.cs M.le i):∃t n m h u,o=.lent t n m h u:=by
 cases h with
 | lendN _ z=>exact absurd z n
 | lendP _ _ _=>exact {_,_,_,_,_,rfl}
 | lendC _ _ _ _ _ _ _=>exact {_,_,_,_,_,rfl}
section
variable {P:Program} {w:World} {K:Frag} {mg:Str->Option Value} {base:Heap} {N:Cn} {c:Nat->Addr}
def Wm:aJ ["self","runner","tick","chosen","told"] ["self","runner","tick"] (aG Kj):={rfl,rfl,rfl,⋯,rfl,⋯,⋯}
def AH (W:Wd P w K mg base N c):dZ P w K mg base (jN P w) N.CC "ask_lending" 7 (EH N):=W.d71.of λF=>by
 refine F.okE Wm (λvs H Q E h=>?_) (λar A ag s H vs Q E hr h=>?_)
 ·let (M,A,s,p,q,dc,dq,c,r,i,ys,rfl,_):=h
  rfl
 ·intro X D
  let (M,f,k,p,q,dc,dq,C,r,i,ys,rfl,Y,I,hq,wx,sx,hl,ly,g,hi,kN,kL):=h
  let nd:=Wm.nd
  let ad:=W.Q.cl
  let nB:=W.Q.nB
  let nI:=W.Q.nI
  let nX:=W.Q.nX
  let aq:=W.R.cl
  let nW:=W.R.nW
  let aa:p≠q:=λz=>by
   rw [z,hq] at Y
   have:=Option.some.inj Y
   injection this with _ _ e
   exact absurd e (by intro z;cases z)
  let a8:p≠C.ln:=aL Y hl (by intro z;cases z)
  let ae:q≠C.ln:=aL hq hl (by intro z;cases z)
  let J:∀(ov:Int) (v3:V) (G:Hp),(∀a o,H a=some o->Ki o=true->a≠p->G a=some o)->Go N M G f k->G p=some (.ins N.CC dc (cf { C with ov:=ov }))->¬ Qb k.cs M.le i->Wp X ((bV Kj).drop 4) D [some (.ref p),some (.ref q),some (.int i),some v3,none] G:=λov v3 G S g Y no=>by
   let hq:=S _ _ hq Fv aa.symm
   let hl:=S _ _ hl rfl a8.symm
   let (db,U):=g.bv.bk.ob
   let bo:G C.bk=some (.ins N.CB db (bf f.pw f.sh f.d M.sp M.ev M.le k.nn k.nt k.mo)):=by rw [I];exact U
   refine cF (n:=4) nd rfl {_,bE aP W.B.cl (wU W) hr (fA (E':=E) λ_ _ _ z=>z) dE,?_}
   refine Vl.to (v:=.ref C.bk) (by symm) _ {_,db,_,rfl,bo,rfl,?_}
   refine Av.to (vs:=[.str r.x,.int i]) (by symm) _ ?_
   refine {M,f,k,r.x,i,by rw [I];rfl,g,hi,wx,sx,λv ak o s' T kp fo fp g' sc to=>?_}
   let (tk,n,m,h,u,rfl):=sc.lendU no
   obtain⟨rr,rfl,O⟩:∃rr,v=.ref rr/\T rr=some (.tup [.int tk,.int n,.int m,.int h,.int u]):=by
    cases to with
    | lent z=>exact {_,rfl,z}
   let t:=fo.ki g Y Nb;let a0:=fo.ki g hq Fv;let Z:=fo.ki g hl rfl;refine gD (l:=C.ln) (vs:=[.str "lent",.int i,.str r.x,.int tk,.int n]) (by symm) (by symm) Z ly (by show 5<=1000;decide) (λa H2 na k2 l2 a2=>?_) rfl (iX PySem.F.plainAttrs_list PySem.F.slot_list_append PySem.F.type_list_append cV aP (aA (cE dE) aE));let ah:=k2 _ _ t a8;let af:=k2 _ _ a0 ae;let ao:=k2 _ _ O (aL O Z (by intro z;cases z));refine {_,aH (cJ (bE (pv 1) W.R.cl (Cy W) hr aN dE)),?_};refine {_,rfl,q,dq,_,rfl,af,rfl,Av.to (vs:=[.int tk,.int m,.int h]) (by symm) _ {q,dq,r,_,m,h,rfl,af,?_}};let a7:∀b o,T b=some o->b≠q->b≠C.ln->(aR H2 q (.ins N.CR dq (rf { r with tk:=.int tk,ma:=m,en:=h }))) b=some o:=λb o e n2 n3=>by
    rw [aC n2];exact k2 _ _ e n3
   let aj:a≠q:=λz=>by rw [z,a0] at na;cases na
   refine kL tk n m h u ov s' ak a _ sc (g'.kb λb o e z=>a7 b o e (iK e z a0 Nf) (iK e z Z rfl)) (λb o e z n1 n2 n3=>a7 b o (fo.ki g (S _ _ e z n1) z) n2 n3) ?_ aB ?_ ?_
   ·rw [aC aa];exact ah
   ·rw [aC ae.symm];exact l2
   ·rw [aC aj];exact a2
  let (db,U):=g.bv.bk.ob;let bo:H C.bk=some (.ins N.CB db (bf f.pw f.sh f.d M.sp M.ev M.le k.nn k.nt k.mo)):=by rw [I];exact U
  let au:=g.few;refine Wp.ex (Xp (c:=decide (V.int C.na=V.int i)) (by symm) (λ_=>Bb (kN C.na H (λa o e _ _=>e) g Y)) λ_=>?_);refine cF (n:=3) nd rfl {_,bE aP W.B.cl (W.d44.of λF=>sE F (wO W) W) hr aN dE,?_};refine Vl.to (v:=.ref C.bk) (by symm) _ {_,db,_,rfl,bo,rfl,Av.to (vs:=[.int i]) (by symm) _ {f.b,f.pw,f.sh,f.d,M.sp,M.ev,M.le,k.nn,k.nt,k.mo,i,f.ps,k.cs,by rw [I];rfl,g.bv.bk,∎,hi,g.bv.t1,λv T kt tb ai=>?_}};let L:Go N M T f k:={(g.bv.keepT kt (.inl {(rfl),tb})).1,g.iv,g.wg,g.l1,g.e1};let S:∀a o,H a=some o->Ki o=true->T a=some o:=λa o e z=>kt a o (λy=>by
   let (_,am,_):=g.bv.t1
   rw [y,am] at e
   cases e
   cases z) e;let t:=S _ _ Y Nb;cases ai with
  | non a1 a2 a3=>
   apply Hm;symm;rfl;refine dL (p:=p) (v:=.int i) (by symm) (by symm) t ad nX (by show 7<1000;decide) (Bb ?_);exact kN i _ (λa o e z n=>by rw [aC n];exact S a o e z) (L.kb λb o e z=>by rw [aC (iK e z t Ng)];exact e) aB
  | @cut pc rr a1 a2 a3 a4 O=>
   apply tG;symm;rfl;refine tG (c:=false && false) (fG (Tv.is (by symm) ?_) λz=>nomatch z) rfl (J C.ov _ T (λa o e z _=>S a o e z) L t λz=>?_)
   ·decide +kernel
   ·have:=z.2.2 pc a3;omega
  | @pc pc rr best O=>
   apply tG;symm;rfl;let no:¬ Qb k.cs M.le i:=λz=>by
    rcases best with b|⟨_,b⟩
    ·have:=z.1 pc b.1;rw [b.2.1] at this;cases this
    ·have:=z.2.1 pc b.1;rw [b.2.1] at this;cases this
   let mc:pc ∈ k.cs:=by
    rcases best with b|⟨_,b⟩ <;> exact b.1
   let (j,hj,ej):=y6 mc
   let hc:k.cs[j]?=some pc:=by rw [<- ej];exact c7 hj
   let as:=L.bv.bk.pc.length;let ac:f.ps[j]?=some (f.ps[j]'∎):=c7 _;let (av,ap,lv,(dp,a6),an):=aQ L.bv.bk.pc ac;let (a5,a9):=L.bv.bk.ob;let al:T C.bk=some (.ins N.CB a5 (bf f.pw f.sh f.d M.sp M.ev M.le k.nn k.nt k.mo)):=by rw [I];exact a9
   refine {_,aF (bQ (PW.pt (iV fN (gE (bY (bT (bE aP W.B.cl (Cw W) hr aN dE) W.P.cl (lF W) hr aN))))) aU aY) aU,?_};refine Tv.to (b:=true) (Tv.is (by symm) ⋯) _ (cW ?_);refine Vl.to (v:=.ref C.bk) (by symm) _ {_,a5,_,rfl,al,rfl,Av.to (vs:=[.int pc.n]) (by symm) _ {f.b,f.pw,f.sh,f.d,M.sp,M.ev,M.le,k.nn,k.nt,k.mo,f.ps,k.cs,j,_,pc,by rw [I];rfl,L.bv.bk,ac,hc,L.iv.nm,?_}};refine {_,dp,_,rfl,a6,rfl,_,_,_,_,_,lv,rfl,{(dp),a6},_,rfl,?_};generalize (!decide (lv=.non))=b;cases b with
   | false=>exact cO (J C.ov _ T (λa o e z _=>S a o e z) L t no)
   | true=>
    refine cW {_,aF (fU (pv 0) aX pZ) aU,?_};refine {_,rfl,p,N.CC,dc,_,_,rfl,t,ad,W.Q.nO,rfl,_,_,rfl,rfl,dc,_,t,(by show 7<1000;decide),bX ?_};exact J (C.ov+1) _ _ (λa o e z n=>by rw [aC n];exact S a o e z) (L.kb λb o e z=>by rw [aC (iK e z t Ng)];exact e) aB no
end
structure Rk (M:Pm) (s:S8) (j:Int) (un:List Int) (r:Rn) (tk:Int):Prop where
 lt:0<=tk/\tk<s.nt
 mm:∀c ∈ s.cs,c.has tk=true->c.m=r.ma/\c.h<=r.en/\(c.h=r.en\/c.m+M.ev<=c.h)
 me:r.ma<r.en
 bd:-(2 ^ 60)<=r.ma/\r.en<=2 ^ 60
 uu:(un.length:Int)<=M.ev/\r.ma+un.length<=r.en
 ac:un=[]->∃(k:Nat) (c:Pc) (x:Str) (u:Int),s.cs[k]?=some c/\c.o=some (tk,x,u)/\j<=u
 sl:r.sl=true->un≠[]
def Ef (M:Pm) (s:S8) (j:Int) (un:List Int) (r:Rn):Prop:=(r.tk=.non/\un=[])\/∃tk,r.tk=.int tk/\Rk M s j un r tk
def FV {c:Pc} {t:Int × Str × Int} (e:c.o=some t):c.has t.1=true:=by unfold Pc.has;rw [e];exact decide_eq_true rfl
def Nr {c:Pc} {t:Int × Str × Int} {tk:Int} (h:c.has tk=true) (e:c.o=some t):t.1=tk:=by
 let (u,a,z):=eU h;rw [e] at a;cases a;exact z
def yX {l:List Pc} {k j:Nat} {c e:Pc} (h:l[j]?=some e) (n:j≠k):(l.set k c)[j]?=some e:=by rw [D3 (E2 n)];exact h
def tQ {l:List Pc} {k:Nat} {c e:Pc} (h:l[k]?=some e):(l.set k c)[k]?=some c:=by
 rw [E5 (c8.mp h).1]
def Oy {l m:List Pc} {k:Nat} {e:Pc} (h:l[k]?=some e):(l++m)[k]?=some e:=by
 rw [w5 (c8.mp h).1];exact h
section
variable {M:Pm} {s s':S8} {j i tk:Int} {un:List Int} {r:Rn} {o:To} {x:Str}
theorem Rk.lend (h:Rk M s j un r tk) (v:i<=j) (q:1<=M.le) (t:M.ev<=M.le) (p:Sc M s (.lend x i) o s'):Rk M s' j un r tk:=by
 let n:=h.lt;cases p with
 | lendN _ _=>exact h
 | @lendP _ _ k c hi hc ch=>
  refine {{n.1,by show tk<s.nt+1;omega},λe a z=>?_,h.me,h.bd,h.uu,λl=>?_,h.sl}
  ·rcases C9 a with m|rfl
   ·exact h.mm e m z
   ·have:s.nt=tk:=Nr z rfl;omega
  ·let (f,e,y,u,a,d,g):=h.ac l;refine {f,e,y,u,yX a λz=>?_,d,g};subst z;rw [hc] at a;cases a;rcases ch with b|⟨_,b⟩
   ·have:=b.2.1;unfold Pc.free at this;rw [d] at this;cases this
   ·have:=b.2.1;unfold Pc.late at this;rw [d] at this;have:u<i:=of_decide_eq_true this;omega
 | @lendC _ _ pl k c hi nf nl hc be h2 hpl=>
  refine {{n.1,by show tk<s.nt+1;omega},λe a z=>?_,h.me,h.bd,h.uu,λl=>?_,h.sl}
  ·rcases j1.mp a with m|m
   ·rcases C9 m with m|rfl
    ·exact h.mm e m z
    ·have:=h.mm c (i6 hc) z;exact {this.1,by show pl<=r.en;omega,.inr (by show c.m+M.ev<=pl;omega)}
   ·rw [l6.mp m] at z;have:s.nt=tk:=Nr z rfl;omega
  ·let (f,e,y,u,a,d,g):=h.ac l;by_cases z:f=k
   ·subst z;rw [hc] at a;cases a;exact {f,_,y,u,Oy (tQ hc),d,g}
   ·exact {f,e,y,u,Oy (yX a z),d,g}
theorem Rk.tell {b pl:Int} {ns:List Int} (h:Rk M s j un r tk) (n:b≠tk) (w:Sc M s (.tell b pl i ns) o s'):Rk M s' j un r tk:=by
 cases w with
 | @tell _ _ _ _ fr k c hi hc hh a1 a2 a3 a4 a5=>
  let (t,l,g):=eU hh;refine {h.lt,λe d z=>?_,h.me,h.bd,h.uu,λa=>?_,h.sl}
  ·rcases C9 d with m|rfl
   ·exact h.mm e m z
   ·let (u,a,q):=eU z;unfold Pc.told at a;rw [l] at a;split at a
    ·cases a
    ·cases a;exact absurd (g.symm.trans q) n
  ·let (v,e,y,u,d,f,p):=h.ac a;refine {v,e,y,u,yX d λz=>?_,f,p};subst z;rw [hc] at d;cases d;rw [l] at f;cases f;exact n g.symm
def Rk.own {n m h u:Int} (b:Iv M.ws M.sp s) (p:Wg M.ws) (C:1<=M.le) (E:M.ev<=M.le) (e1:1<=M.ev) (v:j<=i+M.sp) (g:r.sl=false) (B:Sc M s (.lend x i) (.lent tk n m h u) s'):Rk M s' j [] { r with tk:=.int tk,ma:=m,en:=h } tk:=by
 let q:=b.n0;let a:∀e ∈ s.cs,e.has s.nt=true->False:=λe f z=>by
  let (t,A,D):=eU z;have:=b.op e f t A;omega
 cases B with
 | @lendP _ _ k c hi hc ch=>
  let d:=i6 hc;let l:=b.bnd p d;let w:=b.lm c d;refine {{q,by show s.nt<s.nt+1;omega},λe f z=>?_,(b.low ch).2,{by show _<=c.m;omega,l.2},{by show (0:Int)<=M.ev;omega,by show c.m+(0:Nat)<=c.h;omega},λ_=>{k,_,x,i+M.sp,tQ hc,rfl,v},λz=>by rw [show r.sl=true from z] at g;cases g};rcases C9 f with y|rfl
  ·exact(a e y z).elim
  ·exact {rfl,j0 _,.inl rfl}
 | @lendC _ _ pl k c hi nf nl hc be h2 hpl=>
  let d:=i6 hc;let l:=b.bnd p d;let w:=b.lm c d;refine {{q,by show s.nt<s.nt+1;omega},λe f z=>?_,by show m<c.h;omega,{by show _<=m;omega,l.2},{by show (0:Int)<=M.ev;omega,by show m+(0:Nat)<=c.h;omega},λ_=>{(s.cs.set k { c with h:=m }).length,{s.nn,m,c.h,m,some (s.nt,x,i+M.sp)},x,i+M.sp,by rw [y7 (c9 _),Nat.sub_self];rfl,rfl,v},λz=>by rw [show r.sl=true from z] at g;cases g};rcases j1.mp f with y|y
  ·rcases C9 y with y|rfl
   ·exact(a e y z).elim
   ·exact(a c d z).elim
  ·rw [l6.mp y];exact {rfl,j0 _,.inl rfl}
def Rk.own2 {j' m h:Int} {u:V} {ns:List Int} (k:Rk M s j un r tk) (l:Iv M.ws M.sp s) (e1:1<=M.ev) (C:(ns.length:Int)<=M.ev) (D:r.ma+ns.length<=r.en) (n:j'<=i+M.sp) (g:r.sl=false) (A:Sc M s (.tell tk r.ma i ns) (.told m h u) s'):
  m=r.ma+ns.length/\(∃c ∈ s.cs,c.has tk=true/\c.m=r.ma)/\(u=.non\/Rk M s' j' [] { r with tk:=.int tk,ma:=m,en:=h } tk):=by
 cases A with
 | @tell _ _ _ _ fr kk c hi hc hh a1 a2 a3 a4 a5=>
  let d:=i6 hc;let (f,F,G):=k.mm c d hh;let E:=l.lm c d;let B:fr=ns:=by
   rw [a5,Dn ∎ ∎,show (c.m-r.ma).toNat=0 by omega,K0,p8 ∎]
  subst B;let (t,v,p):=eU hh;refine {by rw [f],{(c),d,hh,f},?_};by_cases z:c.m+(fr.length:Int)=c.h
  ·exact .inl (if_pos z)
  refine .inr {k.lt,λe w y=>?_,by show c.m+(fr.length:Int)<c.h;omega,⟨by have:=k.bd;show _<=c.m+(fr.length:Int);omega,by have:=k.bd;show c.h<=_;omega⟩,{by show (0:Int)<=M.ev;omega,by show c.m+(fr.length:Int)+(0:Nat)<=c.h;omega},λ_=>{kk,_,t.2.1,i+M.sp,tQ hc,?_,n},λz=>by rw [show r.sl=true from z] at g;cases g}
  ·let (q,a):=A1.mp w;by_cases b:q=kk
   ·subst b;let a:(s.cs.set q (c.told fr.length (i+M.sp)))[q]?=some e:=a;rw [tQ hc] at a;cases a;exact {rfl,j0 _,.inl rfl}
   ·let a:(s.cs.set kk (c.told fr.length (i+M.sp)))[q]?=some e:=a;rw [D3 (E2 b)] at a;exact absurd (l.oneTk hc a hh y).symm b
  ·unfold Pc.told;rw [if_neg z,v,<- p];rfl
end
end Ls
namespace L2
open PySem PySem.Spec PyProof.Rows
def Wc (K:PySem.W.Frag) (cv:Value) (σw:St) (ts:TS) (D:eK):XK:=λcls _ H=>∃C,cls=.ref C/\PySem.W.exmOne K cls cv=some true/\∀ea,H ea=none->ts D σw (aR H ea (rD ea C))
def Xw (tb:XK->St->TS) (K:PySem.W.Frag) (cv:Value) (wk:St->St) (ts:TS):TS:=λD σ H=>tb (Wc K cv (wk σ) ts D) (wk σ) D σ H
section
variable {X:Cx}
def Ky {t:List Stmt} {b₀:Stmt} {k:List Stmt} {x:Str} {np Q pos:Pos} {tb:XK->St->TS} {ts:TS} {wk:St->St} {cv:Value} (hw:∀ σ,σ.length=X.N.length->(wk σ).length=X.N.length/\Le (wk σ) σ) (a8:X.xe=λ_ _=>False)
  (n:X.stack=X.env::X.outer/\X.env.frame=some X.env.locals) (hg:Gl X x) (hm:X.mg x=some cv)
  (hb:∀(pn:List (Addr × Obj)) (xe:Value->Shared->Prop) (E:XK) (σw:St),oH (jN X.prog X.w) (X.try_ pn xe) σw E->qX (X.try_ pn xe) t (tb E σw))
  (hs:∀e,qX (X.suite e) (b₀::k) ts) (hd:(x == ("__debug__":Str))=false:=by decide):
  PS X (.Try t [.ExceptHandler (some (.Name x np)) none (b₀::k) Q] [] [] pos) (Xw tb X.K cv wk ts):=by
 intro pins s σ H D I h;rw [a8];refine wpAny_Try_except ?_;refine v6 (hb (X.pn++pins) (λe s'=>∃a d L P,Le (wk σ) d/\aO (X.try_ (X.pn++pins) λ_ _=>False) a d L P/\jN X.prog X.w X.stack L P (Wc X.K cv (wk σ) ts D) e s') _ _
  (λa d L P e s' le J hc=>{a,d,L,P,le,J.re (J.ok.try_ _ _) rfl rfl rfl rfl rfl rfl rfl rfl λp z=>z,hc}) (pins:=[]) s σ H D
  (I.re (I.ok.try_ _ _) rfl rfl rfl rfl rfl rfl rfl rfl λp z=>by simpa using z) h) (λf O q=>?_) λe O q=>?_
 ·let g:SP X pins D f O:=by
   cases f with
   | next=>let (d,j,J,q):=q;exact {d,j,J.re I.ok rfl rfl rfl rfl rfl rfl rfl rfl λp z=>by simpa using z,q}
   | brk=>let (d,j,J,q):=q;exact {d,j,J.re I.ok rfl rfl rfl rfl rfl rfl rfl rfl λp z=>by simpa using z,q}
   | cont=>let (d,j,J,q):=q;exact {d,j,J.re I.ok rfl rfl rfl rfl rfl rfl rfl rfl λp z=>by simpa using z,q}
   | ret u=>let (v,d,j,J,r,q):=q;exact {v,d,j,J.re I.ok rfl rfl rfl rfl rfl rfl rfl rfl λp z=>by simpa using z,r,q}
  cases f with
  | next=>exact L7 g
  | brk=>exact g
  | cont=>exact g
  | ret u=>exact g
 ·let (a,d,L,P,le,J,i,ac,a0,j,B,rfl,os,U,F,C,rfl,a9,a7):=q
  let fr:X.A.frames=some (X.env::X.outer):=by rw [<- n.1];exact I.ok.frames
  let F':=F;rw [n.1] at F';refine Hd.look2 fr n.2 F'.fly F'.nc λh4 Y T a4=>?_;refine Hd.land2 Y a4 λh5 G S Z=>?_;let F5:=F'.later G Z (T.trans S);let a1:∀(M:Heap),He X.prog X.w (X.env::X.outer) L P.heap i (.ref C) a0 j B M->aO (X.suite (.ref i)) (X.pn++pins) (wk σ) (aR j i (rD i C)) { O with heap:=M }:=λM FF=>by
   let (un,a2):=FF.laid;rw [<- n.1] at un;let J1:aO (X.try_ (X.pn++pins) λ_ _=>False) a d (aR j i (rD i C)) { O with heap:=M }:=
    J.call' (s':={ O with heap:=M }) os un a2 U (λb z=>absurd z (by simp))
   let J2:aO (X.suite (.ref i)) (X.pn++pins) d (aR j i (rD i C)) { O with heap:=M }:=J1.re (I.ok.suite _) rfl rfl rfl rfl rfl rfl rfl rfl λp z=>by
    rcases j1.mp z with z|z
    ·exact A4 _ (A4 _ z)
    ·exact A4 _ z
   exact J2.weak (by rw [(hw σ I.len).1,J2.len]) le
  let I5:=a1 h5 F5;let aa:=T.trans S;refine wpAny_handleBy_cons (codeAny_handlers_test (env:=X.env) (lH (X:=X.suite (.ref i)) I5 hg hm ?_ hd)) (by intro z;cases z);let Lm:PySem.W.Looks (model X.prog X.w) h5 (excMatches (.ref i) cv) true:=by
   refine PySem.W.exm_one I5.kIn ?_ a9;let (o,z,c):=G.there;exact kO.ty {(o),z,c}
  refine Lm.at ?_;refine codeAny_handlers_suite ?_;refine Hd.again2 G Z λh6 a5 a3 a6=>?_;let I6:=a1 h6 (F5.later a5 a6 a3);refine v6 (hs (.ref i) _ _ _ D I6 (a7 i F.freeE)) (λf s8 q=>?_) λ_ _ z=>z.elim;let bk:∀{l:St} {m:Hp} {s9:Shared},aO (X.suite (.ref i)) (X.pn++pins) l m s9->aO X pins l m s9:=λJ=>J.re I.ok rfl rfl rfl rfl rfl rfl rfl rfl λp z=>by
   rcases j1.mp z with z|z
   ·exact A4 _ z
   ·exact j3 _ (j3 _ z)
  cases f with
  | next=>let (l,m,y,q):=q;exact {l,m,bk y,q}
  | brk=>let (l,m,y,q):=q;exact {l,m,bk y,q}
  | cont=>let (l,m,y,q):=q;exact {l,m,bk y,q}
  | ret u=>let (v,l,m,y,r,q):=q;exact {v,l,m,bk y,r,q}
end
end L2
namespace Ls
open PySem L2 PySem.W
inductive Vk (N:Cn) (vs:List V) (H:Hp) (Q:VK) (E0_:XK):Prop|mk (M:Pm) (A:Ad) (s:S8) (p q dc dq:Addr) (c:Co) (r:Rn) (tk i:Int) (ns:List Int) (ys:List V) (_:vs=[.ref p,.ref q,.int i]) (_:H p=some (.ins N.CC dc (cf c))) (_:c.bk=A.b) (_:H q=some (.ins N.CR dq (rf r))) (_:r.tk=.int tk) (_:H c.ln=some (.lst ys)) (_:ys.length<=4000) (_:Go N M H A s) (_:s.mo<=i) (_:0<=tk) (_:tk<s.nt) (_:H r.un=some (.tup (ns.map V.int))) (_:ns.length<=M.ev) (_:M.ev<=4) (_:∀e ∈ s.cs,e.has tk=true->e.m=r.ma)
 (_:(∀e ∈ s.cs,e.has tk=false)->∀(u':Addr) (H':Hp),(∀a o,H a=some o->Ki o=true->a≠q->H' a=some o)->Go N M H' A s->H' q=some (.ins N.CR dq (rf { r with tk:=.non,un:=u' }))->H' u'=some (.tup [])->Q .non H')
 (_:∀(m h:Int) (u:V) (s':S8) (a u':Addr) (H':Hp),Sc M s (.tell tk r.ma i ns) (.told m h u) s'->Go N M H' A s'->Kr p q c.ln H H'->H' p=some (.ins N.CC dc (cf { c with l:=c.l-(m-r.ma) }))->H' q=some (.ins N.CR dq (rf { r with tk:=if u=.non then .non else .int tk,ma:=m,en:=h,un:=u' }))->H' c.ln=some (.lst (ys++[.ref a]))->H' a=some (.tup [.str "told",.int i,.int tk,.int r.ma,.ref r.un])->H' u'=some (.tup [])->Q .non H')
def Yo (N:Cn):Sp:=Vk N
section
variable {P:Program} {w:World} {K:Frag} {mg:Str->Option Value} {base:Heap} {N:Cn} {c:Nat->Addr}
def Jg:aJ ["self","runner","tick"] ["self","runner","tick"] (aG zC):={rfl,rfl,rfl,⋯,rfl,⋯,⋯}
def Td (W:Wd P w K mg base N c):dZ P w K mg base cX N.CC "tell_kept" 7 (Yo N):=W.d70.of λF=>by
 refine F.ok Jg (λvs H Q E h=>?_) (λa3 A Z s H vs Q E hr h=>?_)
 ·let (M,A,s,p,q,T,t,c,r,tk,i,ns,ys,rfl,_):=h
  rfl
 ·intro X D
  let (M,Ab,s8,p,q,T,t,co,r,tk,i,ns,ys,rfl,y,S,l,a1,hl,ly,g,hi,t0,t1,hn,le,e4,hm,kL,kD):=h
  have nd:=Jg.nd
  have j:∀(Y:Rn) (G:Hp),G q=some (.ins N.CR t (rf Y))->(∀(f:Addr) (d:Hp),(∀a o,G a=some o->a≠q->d a=some o)->d q=some (.ins N.CR t (rf { Y with un:=f }))->d f=some (.tup [])->Q .non d)->Wp X ((bV zC).drop 1) D [some (.ref p),some (.ref q),some (.int i)] G:=λY G l k=>by
   refine {_,aH (cD (pv 1) (cE aE) rfl),i5 _,λf x=>?_}
   have J:q≠f:=λz=>by rw [<- z,l] at x;cases x
   refine {_,rfl,q,N.CR,t,_,rfl,by rw [aC J];exact l,W.R.cl,W.R.nU,(by show 9<1000;decide),k f _ (λa o e n=>?_) aB ?_}
   ·rw [aC n,aC (aD e x)]
    exact e
   ·rw [aC J.symm,aB]
  refine {_,aF (Ky (wk:=id) (λσ h=>{h,Le.refl σ}) rfl {(rfl),rfl} (by rfl) W.W.m3
   (λpn xe E σw y=>aH (cJ (zH (pv 0) W.Q.cl (Xe W) hr y (aA (pv 1) (aA (show PE _ _ (Ig K (iL 1) "untold") from aV (pv 1) rfl) (aA (pv 2) aE))))))
   (λe=>aH (show PS _ _ (ES K (iL 1) (tC .non) "token") from cD (pv 1) gB rfl))) aU,?_}
  refine {Le.refl _,_,rfl,p,T,_,rfl,y,rfl,_,rfl,_,rfl,q,N.CR,t,_,_,rfl,l,W.R.cl,W.R.nU,rfl,_,rfl,?_}
  refine {M,Ab,s8,p,q,T,t,r.un,co,r,tk,i,ns,ys,rfl,y,S,l,a1,hl,ly,g,hi,t0,t1,hn,le,e4,hm,λno H' L=>{c 3,rfl,W.E,λea a0=>?_},λm h u L a H' sc g' kr a2 b I B=>?_}
  ·have s2:=L.trans (aI (o:=rD ea (c 3)) a0)
   refine {_,rfl,q,N.CR,t,_,rfl,s2 _ _ l,W.R.cl,W.R.nT,(by show 9<1000;decide),?_}
   refine j { r with tk:=.non } _ aB λf d v b x=>?_
   have C:∀a o,H a=some o->a≠q->d a=some o:=λa o e n=>v a o (by rw [aC n];exact s2 _ _ e) n
   exact kL no f d (λa o e _ n=>C a o e n) (g.kb λa o e z=>C a o e (iK e z l Nf)) b x
  ·refine j _ H' b λf d v O x=>?_
   have U:p≠q:=λz=>by
    rw [z,l] at y
    have:=Option.some.inj y
    injection this with _ _ e
    exact absurd e (by intro z;cases z)
   exact kD m h u L a f d sc (g'.kb λa o e z=>v a o e (iK e z b Nf)) (λa o e z n1 n2 n3=>v a o (kr a o e z n1 n2 n3) n2) (v _ _ a2 U) O (v _ _ I (aL I b (by intro z;cases z))) (v _ _ B (aL B b (by intro z;cases z))) x
inductive Ln where
 | lent (i:Int) (x:Str) (tk n:Int)
 | told (i tk pl:Int) (ns:List Int)
def Ln.i:Ln->Int
 | .lent i _ _ _=>i
 | .told i _ _ _=>i
inductive mY (H:Hp):V->Ln->Prop where
 | lent {a:Addr} {i tk n:Int} {x:Str} (_:H a=some (.tup [.str "lent",.int i,.str x,.int tk,.int n])):mY H (.ref a) (.lent i x tk n)
 | told {a nr:Addr} {i tk pl:Int} {ns:List Int} (_:H a=some (.tup [.str "told",.int i,.int tk,.int pl,.ref nr])) (_:H nr=some (.tup (ns.map V.int))):mY H (.ref a) (.told i tk pl ns)
theorem mY.tup {H H':Hp} {v:V} {l:Ln} (k:∀a b,H a=some (.tup b)->H' a=some (.tup b)) (h:mY H v l):mY H' v l:=by
 cases h with
 | lent e=>exact .lent (k _ _ e)
 | told e f=>exact .told (k _ _ e) (k _ _ f)
inductive Sl (M:Pm) (s:S8):Ln->S8->Prop where
 | lent {i tk n m h u:Int} {x:Str} {s':S8} (_:eH x) (_:PyData.strOk x=true) (_:Sc M s (.lend x i) (.lent tk n m h u) s'):Sl M s (.lent i x tk n) s'
 | told {i tk pl h:Int} {u:V} {ns:List Int} {s':S8} (_:ns≠[]) (_:(ns.length:Int)<=M.ev) (_:∃c ∈ s.cs,c.has tk=true/\c.m=pl) (_:Sc M s (.tell tk pl i ns) (.told (pl+ns.length) h u) s'):Sl M s (.told i tk pl ns) s'
inductive Tr (M:Pm):S8->List Ln->S8->Prop where
 | nil {s:S8}:Tr M s [] s
 | cons {s s1 s2:S8} {l:Ln} {ls:List Ln} (_:Sl M s l s1) (_:Tr M s1 ls s2):Tr M s (l::ls) s2
def Tr.app {M:Pm} {s d c:S8} {a b:List Ln} (x:Tr M s a d) (y:Tr M d b c):Tr M s (a++b) c:=by
 induction x with
 | nil=>exact y
 | cons h _ ih=>exact .cons h (ih y)
def Tr.one {M:Pm} {s s':S8} {l:Ln} (h:Sl M s l s'):Tr M s [l] s':=.cons h .nil
def Sc.tellN {M:Pm} {s s':S8} {tk pl i m h:Int} {u:V} {ns:List Int} (k:Sc M s (.tell tk pl i ns) (.told m h u) s') (c:∃c ∈ s.cs,c.has tk=true/\c.m=pl) (d:∀a ∈ s.cs,∀b ∈ s.cs,a.has tk=true->b.has tk=true->a=b):(s'.ns.length:Int)=s.ns.length+(m-pl)/\s'.nt=s.nt/\s'.mo=i:=by
 let (e,f,g,j):=c;cases k with
 | @tell _ _ _ _ fr kk c hi hc hh a1 a2 a3 a4 a5=>
  have:=d e f c (i6 hc) g hh;subst this;refine {?_,rfl,rfl};show ((s.ns++eZ e.m fr.length).length:Int)=_;rw [i7,eZ,g7,z8];omega
def Sc.lentN {M:Pm} {s s':S8} {x:Str} {tk n i m h u:Int} (k:Sc M s (.lend x i) (.lent tk n m h u) s'):s'.ns=s.ns/\s'.nt=s.nt+1/\s'.mo=i/\tk=s.nt:=by
 cases k with
 | lendP _ _ _=>exact {(rfl),rfl,rfl,rfl}
 | lendC _ _ _ _ _ _ _=>exact {(rfl),rfl,rfl,rfl}
def Iv.oneM {h:Lm.Ps} {sp:Int} {s:S8} {tk:Int} (f:Iv h sp s):∀a ∈ s.cs,∀b ∈ s.cs,a.has tk=true->b.has tk=true->a=b:=λa g b e x y=>by
 let (i,d):=A1.mp g
 let (j,c):=A1.mp e
 have:=f.oneTk d c x y
 subst this
 rw [d] at c
 exact Option.some.inj c
structure Az where
 H:Hp
 co:Co
 A:Ad
 s:S8
 r:Rn
 un:List Int
 ys:List V
 ls:List Ln
structure Cf where
 M:Pm
 fD:Addr
 T:Int
 p:Addr
 dc:Addr
 q:Addr
 dq:Addr
structure Cs (N:Cn) (F:Cf) (i:Int) (x:Az):Prop where
 hp:x.H F.p=some (.ins N.CC F.dc (cf x.co))
 bk:x.co.bk=x.A.b
 dv:x.co.dv=.ref F.fD
 hq:x.H F.q=some (.ins N.CR F.dq (rf x.r))
 hu:x.H x.r.un=some (.tup (x.un.map V.int))
 hl:x.H x.co.ln=some (.lst x.ys)
 lp:Paired (mY x.H) x.ys x.ls
 go:Go N F.M x.H x.A x.s
 mo:x.s.mo<=i
 tot:x.co.l+x.s.ns.length=F.T
 e4:F.M.ev<=4
 le:F.M.ev<=F.M.le
 s1:1<=F.M.sp
 pc:1<=x.r.pc
 wx:eH x.r.x
 sx:PyData.strOk x.r.x=true
structure Gs (N:Cn) (F:Cf) (i:Int) (k:Nat) (x y:Az):Prop where
 cs:Cs N F i y
 kr:Kr F.p F.q x.co.ln x.H y.H
 ln:y.co.ln=x.co.ln
 ad:∃ps,y.A={ x.A with ps:=ps }
 st:y.r={ x.r with tk:=y.r.tk,ma:=y.r.ma,en:=y.r.en,un:=y.r.un }
 tr:∃nw,y.ls=x.ls++nw/\Tr F.M x.s nw y.s/\(∀l ∈ nw,l.i=i)/\nw.length<=k
 kp:∀{j:Int} {un0:List Int} {r0:Rn} {tk0:Int},i<=j->Rk F.M x.s j un0 r0 tk0->x.r.tk≠.int tk0->Rk F.M y.s j un0 r0 tk0
 tk:∀t,y.r.tk=.int t->x.r.tk=.int t\/x.s.nt<=t
 nt:x.s.nt<=y.s.nt
section
variable {F:Cf} {i:Int} {k k':Nat} {x y z:Az}
theorem Gs.trans (a:Gs N F i k x y) (b:Gs N F i k' y z):Gs N F i (k+k') x z:=by
 let (r,B,E,w,L):=a.tr;let (C,s,G,J,M):=b.tr;let (K,A):=a.ad;let (v,H):=b.ad;refine {b.cs,λc o e g f d m=>b.kr c o (a.kr c o e g f d m) g f d (by rw [a.ln];exact m),b.ln.trans a.ln,{v,by rw [H,A]},?_,{r++C,by rw [s,B,p9],E.app G,λl I=>(j1.mp I).elim (w l) (J l),by rw [i7];omega},λ{j D O u} p h n=>b.kp p (a.kp p h n) λq=>?_,λt e=>?_,v8 a.nt b.nt}
 ·rw [b.st,a.st]
 ·rcases a.tk _ q with q|q
  ·exact n q
  ·have:=h.lt;omega
 ·rcases b.tk t e with q|q
  ·exact a.tk t q
  ·exact .inr (v8 a.nt q)
theorem Gs.nil (h:Cs N F i x):Gs N F i 0 x x:={h,λ_ _ e _ _ _ _=>e,rfl,{_,rfl},rfl,{[],by rw [x9],.nil,(λ_ z=>nomatch z),c9 _},λ_ h _=>h,λ_ e=>.inl e,j0 _}
theorem Kr.tup {p q l:Addr} {H H':Hp} (k:Kr p q l H H') {C c d g:Addr} {co:Co} {r:Rn} {ys:List V} (h:H p=some (.ins C c (cf co))) (f:H q=some (.ins d g (rf r))) (j:H l=some (.lst ys)):∀a b,H a=some (.tup b)->H' a=some (.tup b):=λa b e=>
 k a _ e rfl (aL e h (by intro z;cases z)) (aL e f (by intro z;cases z)) (aL e j (by intro z;cases z))
theorem Cs.told {tk m h:Int} {u:V} {ns:List Int} {s':S8} {a u':Addr} {H':Hp} (c:Cs N F i x) (v:x.r.tk=.int tk) (rk:Rk F.M x.s i x.un x.r tk) (G:x.r.sl=false) (K:ns≠[]) (g:(ns.length:Int)<=F.M.ev) (P:x.r.ma+ns.length<=x.r.en) {o:Addr} (I:x.H o=some (.tup (ns.map V.int)))
  (d:Sc F.M x.s (.tell tk x.r.ma i ns) (.told m h u) s') (g':Go N F.M H' x.A s') (n:Kr F.p F.q x.co.ln x.H H') (U:H' F.p=some (.ins N.CC F.dc (cf { x.co with l:=x.co.l-(m-x.r.ma) }))) (S:H' F.q=some (.ins N.CR F.dq (rf { x.r with tk:=if u=.non then .non else .int tk,ma:=m,en:=h,un:=u' })))
  (f:H' x.co.ln=some (.lst (x.ys++[.ref a]))) (L:H' a=some (.tup [.str "told",.int i,.int tk,.int x.r.ma,.ref o])) (O:H' u'=some (.tup [])):∃y:Az,y.H=H'/\y.un=[]/\Gs N F i 1 x y/\Ef F.M y.s (i+1) [] y.r:=by
 let X:=c.s1;let (C,w,E):=rk.own2 (j':=i+1) c.go.iv c.go.e1 g P ∎ G d;let (Z,Y,W):=d.tellN w c.go.iv.oneM;let b:=n.tup c.hp c.hq c.hl;let D:=c.tot;refine {{H',{ x.co with l:=x.co.l-(m-x.r.ma) },x.A,s',{ x.r with tk:=if u=.non then .non else .int tk,ma:=m,en:=h,un:=u' },[],x.ys++[.ref a],x.ls++[.told i tk x.r.ma ns]},rfl,rfl,{{U,c.bk,c.dv,S,O,f,?_,g',by show s'.mo<=i;omega,by show x.co.l-(m-x.r.ma)+(s'.ns.length:Int)=F.T;omega,c.e4,c.le,c.s1,c.pc,c.wx,c.sx},n,rfl,{_,rfl},rfl,{[.told i tk x.r.ma ns],rfl,?_,λl f=>by rw [l6.mp f];rfl,c9 _},λ{j Q r0 B} hj h J=>h.tell (λz=>J (by rw [v,z])) d,λt e=>?_,by show x.s.nt<=s'.nt;omega},?_}
 ·exact cR (aK (λ_ _ z=>z.tup b) c.lp) (.told L (b _ _ I))
 ·subst C;exact Tr.one (.told K g w d)
 ·left;rw [v];let e:(if u=.non then V.non else .int tk)=.int t:=e;split at e
  ·cases e
  ·exact e
 ·rcases E with z|z
  ·exact .inl {if_pos z,rfl}
  ·by_cases y:u=.non
   ·exact .inl {if_pos y,rfl}
   ·exact .inr {tk,if_neg y,z.lt,z.mm,z.me,z.bd,z.uu,z.ac,z.sl}
theorem Cs.lent {tk n m h u ov:Int} {s':S8} {d:List Addr} {a:Addr} {H':Hp} (c:Cs N F i x) (v:x.r.sl=false) (E:x.un=[])
  (f:Sc F.M x.s (.lend x.r.x i) (.lent tk n m h u) s') (g':Go N F.M H' { x.A with ps:=d } s') (w:Kr F.p F.q x.co.ln x.H H') (K:H' F.p=some (.ins N.CC F.dc (cf { x.co with ov:=ov }))) (I:H' F.q=some (.ins N.CR F.dq (rf { x.r with tk:=.int tk,ma:=m,en:=h })))
  (o:H' x.co.ln=some (.lst (x.ys++[.ref a]))) (D:H' a=some (.tup [.str "lent",.int i,.str x.r.x,.int tk,.int n])):∃y:Az,y.H=H'/\y.un=[]/\y.r.tk=.int tk/\y.r.sl=false/\Gs N F i 1 x y/\Rk F.M y.s (i+1) [] y.r tk:=by
 let P:=c.s1;let C:=Rk.own (j:=i+1) c.go.iv c.go.wg c.go.l1 c.le c.go.e1 ∎ v f;let (J,Q,O,U):=f.lentN;let b:=w.tup c.hp c.hq c.hl;let g:=c.tot;refine {{H',{ x.co with ov:=ov },{ x.A with ps:=d },s',{ x.r with tk:=.int tk,ma:=m,en:=h },[],x.ys++[.ref a],x.ls++[.lent i x.r.x tk n]},rfl,rfl,rfl,v,{{K,c.bk,c.dv,I,?_,o,cR (aK (λ_ _ z=>z.tup b) c.lp) (.lent D),g',by show s'.mo<=i;omega,by show x.co.l+(s'.ns.length:Int)=F.T;rw [J];exact g,c.e4,c.le,c.s1,c.pc,c.wx,c.sx},w,rfl,{_,rfl},rfl,{[.lent i x.r.x tk n],rfl,Tr.one (.lent c.wx c.sx f),λl o=>by rw [l6.mp o];rfl,c9 _},λ{j G W B} L h S=>h.lend L c.go.l1 c.le f,λt e=>?_,by show x.s.nt<=s'.nt;omega},C}
 ·have:=b _ _ c.hu;rwa [E] at this
 ·cases e;exact .inr ∎
end
section
variable {F:Cf} {i:Int} {k k':Nat} {x y:Az}
def Gs.up (h:Gs N F i k x y) (e:k<=k'):Gs N F i k' x y:=by
 let (f,a,b,c,d):=h.tr;exact { h with tr:={f,a,b,c,l7 d e} }
def Ef.down {M:Pm} {s:S8} {un:List Int} {r:Rn} (h:Ef M s (i+1) un r):Ef M s i un r:=by
 rcases h with h|⟨f,e,h⟩
 ·exact .inl h
 ·refine .inr {f,e,h.lt,h.mm,h.me,h.bd,h.uu,λz=>?_,h.sl};let (k,c,x,u,a,b,d):=h.ac z;exact {k,c,x,u,a,b,∎}
def Cs.cof {H':Hp} {co:Co} (c:Cs N F i x) (e1:co.bk=x.co.bk) (r:co.dv=x.co.dv) (j:co.ln=x.co.ln) (t:co.l=x.co.l) (fr:∀a o,x.H a=some o->Ki o=true->a≠F.p->H' a=some o) (g:Go N F.M H' x.A x.s) (u:H' F.p=some (.ins N.CC F.dc (cf co))):Gs N F i 0 x { x with H:=H',co:=co }:=by
 let d:F.q≠F.p:=λz=>by
  let m:=c.hq;rw [z,c.hp] at m;have:=Option.some.inj m;injection this with _ _ e;exact absurd e (by intro z;cases z)
 let b:∀a f,x.H a=some (.tup f)->H' a=some (.tup f):=λa f e=>fr a _ e rfl (aL e c.hp (by intro z;cases z));exact {{u,e1.trans c.bk,r.trans c.dv,fr _ _ c.hq Fv d,b _ _ c.hu,by show H' co.ln=_;rw [j];exact fr _ _ c.hl rfl (aL c.hl c.hp (by intro z;cases z)),aK (λ_ _ z=>z.tup b) c.lp,g,c.mo,by show co.l+_=_;rw [t];exact c.tot,c.e4,c.le,c.s1,c.pc,c.wx,c.sx},λa o e z n _ _=>fr a o e z n,j,{_,rfl},rfl,{[],by rw [x9],.nil,(λ_ z=>nomatch z),c9 _},λ_ h _=>h,λ_ e=>.inl e,j0 _}
def Cs.lost {H':Hp} {u':Addr} (c:Cs N F i x) (fr:∀a o,x.H a=some o->Ki o=true->a≠F.q->H' a=some o) (g:Go N F.M H' x.A x.s) (d:H' F.q=some (.ins N.CR F.dq (rf { x.r with tk:=.non,un:=u' }))) (l:H' u'=some (.tup [])):Gs N F i 0 x { x with H:=H',r:={ x.r with tk:=.non,un:=u' },un:=[] }:=by
 let f:F.p≠F.q:=λz=>by
  let d:=c.hq;rw [<- z,c.hp] at d;have:=Option.some.inj d;injection this with _ _ e;exact absurd e (by intro z;cases z)
 let b:∀a j,x.H a=some (.tup j)->H' a=some (.tup j):=λa j e=>fr a _ e rfl (aL e c.hq (by intro z;cases z));exact {{fr _ _ c.hp Nb f,c.bk,c.dv,d,l,fr _ _ c.hl rfl (aL c.hl c.hq (by intro z;cases z)),aK (λ_ _ z=>z.tup b) c.lp,g,c.mo,c.tot,c.e4,c.le,c.s1,c.pc,c.wx,c.sx},λa o e z _ n _=>fr a o e z n,rfl,{_,rfl},rfl,{[],by rw [x9],.nil,(λ_ z=>nomatch z),c9 _},λ_ h _=>h,(λ_ e=>nomatch e),j0 _}
theorem Gs.ys (h:Gs N F i k x y) (c:Cs N F i x):y.ys.length<=x.ys.length+k:=by
 let (j,a,b,d,e):=h.tr;let f:=h.cs.lp.length;let g:=c.lp.length;rw [a,i7] at f;omega
end
inductive GG (N:Cn) (fD:Addr) (vs:List V) (H:Hp) (Q:VK) (E0_:XK):Prop|mk (F:Cf) (x:Az) (i:Int) (_:vs=[.ref F.p,.ref F.q,.int i]) (_:x.H=H) (_:F.fD=fD) (_:Cs N F i x) (_:x.ys.length+3<=4000) (_:Ef F.M x.s i x.un x.r) (_:x.r.sl=false) (_:∀y,Gs N F i 3 x y->y.un=[]->Ef F.M y.s (i+1) [] y.r->Q .non y.H)
def IF (N:Cn) (fD:Addr):Sp:=GG N fD
def IJ:aJ ["self","runner","tick"] ["self","runner","tick"] (aG tX):={rfl,rfl,rfl,⋯,rfl,⋯,⋯}
def FB {fD:Addr} (hD:mg "_law_result"=some (.ref fD)) (W:Wd P w K mg base N c):dZ P w K mg base cX N.CC "work_on" 8 (IF N fD):=W.d69.of λF=>by
 refine F.ok IJ (λvs H Q E h=>?_) (λa8 A a5 s H vs Q E hr h=>?_)
 ·let (F,x,i,rfl,_):=h
  rfl
 ·intro X D
  let (Fc,x,i,rfl,rfl,ef,t,ly,T,hs,k):=h
  let a3:=W.R.cl
  let nU:=W.R.nU
  let nT:=W.R.nT
  let U:∀y:Az,Gs N Fc i 2 x y->y.un=[]->Ef Fc.M y.s i [] y.r->(y.r.tk=.non->Ef Fc.M y.s (i+1) [] y.r)->Wp X ((bV tX).drop 2) D [some (.ref Fc.p),some (.ref Fc.q),some (.int i)] y.H:=λy G Y T dn=>by
   let f:=G.cs
   let hq:=f.hq
   let sl:y.r.sl=false:=by rw [G.st];exact hs
   let l2:=G.ys t
   refine {_,aH (bQ fN (aH (cJ (bE (pv 0) W.Q.cl ((Xe W).to bK.calm) hr aN (aA (pv 1) (aA (bE (pv 0) W.Q.cl (Xf hD W) hr aN (aA (pv 1) aE)) (aA (pv 2) aE)))))) aY),?_}
   refine Tv.to (b:=!decide (y.r.tk=.non)) (by symm) _ ?_
   rcases T with ⟨z,_⟩|⟨tk,O,l⟩
   ·rw [z]
    exact cO (k y (G.up (by decide)) Y (dn z))
   rw [O]
   refine cW ?_
   let (db,a4):=f.go.bv.bk.ob
   refine {_,rfl,Fc.p,Fc.dc,_,rfl,f.hp,rfl,_,rfl,_,rfl,Fc.p,Fc.dc,_,rfl,f.hp,rfl,_,rfl,?_}
   refine {Fc.p,Fc.q,Fc.dc,Fc.dq,db,y.A.pw,y.A.sh,y.A.d,y.co,y.r,Fc.M.sp,Fc.M.ev,Fc.M.le,y.s.nn,y.s.nt,y.s.mo,rfl,f.hp,by rw [f.dv,ef],hq,by rw [f.bk];exact a4,f.pc,f.go.e1,f.e4,l.me,l.bd.1,l.bd.2,λn u H1 n1 n2 n3 fr a0 a1=>?_}
   let g0:=f.cof (H':=H1) (co:={ y.co with dn:=y.co.dn+n }) rfl rfl rfl rfl (λa o e _ m=>fr a o e m) (f.go.kb λa o e z=>fr a o e (iK e z f.hp Ng)) a1
   let L:=g0.cs
   refine {_,rfl,?_}
   let ha:=l.ac rfl
   refine {Fc.M,y.A,y.s,Fc.p,Fc.q,Fc.dc,Fc.dq,u,{ y.co with dn:=y.co.dn+n },y.r,tk,i,wB y.r.ma n,y.ys,rfl,a1,L.bk,L.hq,O,L.hl,∎,L.go,L.mo,l.lt.1,l.lt.2,a0,by rw [fW];exact n2,L.e4,λe he z=>(l.mm e he z).1,λno=>?_,λm h v s' a H' sc g' kr C B J I=>?_}
   ·let (j,e,_,_,he,eo,_):=ha
    have:=no e (i6 he)
    rw [FV eo] at this
    cases this
   ·let a6:H' y.r.un=some (.tup []):=by
     have:=kr.tup L.hp L.hq L.hl _ _ L.hu;let e:({ y with H:=H1,co:={ y.co with dn:=y.co.dn+n } }:Az).un=[]:=Y;rw [e] at this;exact this
    let (z,ez,zu,gz,oz):=L.told (a:=a) (u':=y.r.un) O (by show Rk Fc.M y.s i y.un y.r tk;rw [Y];exact l) sl (λz=>by have:=congrArg List.length z;rw [fW] at this;exact absurd this (by show ¬ n=0;omega)) (by rw [fW];exact n2) (by rw [fW];exact n3) a0 sc g' kr C B J I a6;rw [<- ez];exact k z (G.trans (g0.trans gz)) zu oz
  let Z:∀y:Az,Gs N Fc i 1 x y->y.un=[]->Ef Fc.M y.s i [] y.r->Wp X ((bV tX).drop 1) D [some (.ref Fc.p),some (.ref Fc.q),some (.int i)] y.H:=λy G Y T=>by
   let f:=G.cs;let hq:=f.hq;let sl:y.r.sl=false:=by rw [G.st];exact hs
   let l2:=G.ys t;refine {_,aF (bQ fN (aH (cJ (bE (pv 0) W.Q.cl ((AH W).to bK.calm) hr aN (aA (pv 1) (aA (pv 2) aE))))) aY) aU,?_};refine Tv.to (b:=decide (y.r.tk=.non)) (by symm) _ ?_;rcases T with ⟨z,_⟩|⟨tk,O,l⟩
   ·rw [z];refine cW {_,rfl,Fc.p,Fc.dc,_,rfl,f.hp,rfl,_,rfl,_,rfl,?_};refine {Fc.M,y.A,y.s,Fc.p,Fc.q,Fc.dc,Fc.dq,y.co,y.r,i,y.ys,rfl,f.hp,f.bk,hq,f.wx,f.sx,f.hl,∎,f.go,f.mo,λna H' fr g C=>?_,λtk n m h u ov s' a7 a H' sc g' kr C B J I=>?_}
    ·exact U { y with H:=H',co:={ y.co with na:=na } } ((G.trans (f.cof (co:={ y.co with na:=na }) rfl rfl rfl rfl fr g C)).up (k':=2) (by decide)) Y (.inl {(z),rfl}) λ_=>.inl {(z),rfl}
    ·let (y',ez,zu,zt,zs,gz,l):=f.lent sl Y sc g' kr C B J I;rw [<- ez];exact U y' (G.trans gz) zu (Ef.down (.inr {(tk),zt,l})) λe=>by rw [zt] at e;cases e
   ·rw [O];exact cO (U y (G.up (by decide)) Y (.inr {(tk),O,l}) λe=>by rw [O] at e;cases e)
  let hq:=t.hq;refine {_,aF (bQ (hH (aV (pv 1) rfl) (λ_=>rfl)) (aH (cJ (bE (pv 0) W.Q.cl (Td W) hr aN (aA (pv 1) (aA (pv 2) aE))))) aY) aU,?_};refine {_,rfl,Fc.q,N.CR,Fc.dq,_,_,rfl,hq,a3,nU,rfl,_,.inr (.inl {_,cA.of t.hu,rfl}),?_};cases eu:x.un with
  | nil=>
   rw [eu] at T;exact cO (Z x ((Gs.nil t).up (by decide)) eu T)
  | cons v vs=>
   let a2:x.un≠[]:=by rw [eu];intro z;cases z
   obtain⟨tk,O,l⟩:∃tk,x.r.tk=.int tk/\Rk Fc.M x.s i x.un x.r tk:=T.resolve_left λz=>a2 z.2;refine cW {_,rfl,Fc.p,Fc.dc,_,rfl,t.hp,rfl,_,rfl,_,rfl,?_};refine {Fc.M,x.A,x.s,Fc.p,Fc.q,Fc.dc,Fc.dq,x.co,x.r,tk,i,x.un,x.ys,rfl,t.hp,t.bk,hq,O,t.hl,∎,t.go,t.mo,l.lt.1,l.lt.2,t.hu,l.uu.1,t.e4,λe he z=>(l.mm e he z).1,λ_ u' H' fr g B S=>?_,λm h u s' a u' H' sc g' kr C B J I S=>?_}
   ·exact Z { x with H:=H',r:={ x.r with tk:=.non,un:=u' },un:=[] } ((t.lost fr g B S).up (by decide)) rfl (.inl {(rfl),rfl})
   ·let (y,ey,yu,G,oy):=t.told O l hs a2 l.uu.1 l.uu.2 t.hu sc g' kr C B J I S;rw [<- ey];exact Z y G yu oy.down
structure Gt (N:Cn) (F:Cf) (i:Int) (x y:Az):Prop where
 cs:Cs N F i y
 kr:Kr F.p F.q x.co.ln x.H y.H
 ln:y.co.ln=x.co.ln
 ad:∃ps,y.A={ x.A with ps:=ps }
 st:y.r.x=x.r.x/\y.r.pc=x.r.pc/\y.r.sil=x.r.sil
 tr:∃nw,y.ls=x.ls++nw/\Tr F.M x.s nw y.s/\(∀l ∈ nw,l.i=i)/\nw.length<=3
 kp:∀{j:Int} {un0:List Int} {r0:Rn} {tk0:Int},i<=j->Rk F.M x.s j un0 r0 tk0->x.r.tk≠.int tk0->Rk F.M y.s j un0 r0 tk0
 tk:∀t,y.r.tk=.int t->x.r.tk=.int t\/x.s.nt<=t
 nt:x.s.nt<=y.s.nt
section
variable {F:Cf} {i:Int} {x y:Az}
def Cs.npq (c:Cs N F i x):F.p≠F.q:=λz=>by
 have a:=c.hq
 rw [<- z,c.hp] at a
 have:=Option.some.inj a
 injection this with _ _ e
 exact absurd e (by intro z;cases z)
def Cs.ru {H':Hp} {r':Rn} {un':List Int} (c:Cs N F i x) (fr:∀a o,x.H a=some o->a≠F.q->H' a=some o) (g:H' F.q=some (.ins N.CR F.dq (rf r'))) (e1:r'.x=x.r.x) (f:r'.pc=x.r.pc) (h:H' r'.un=some (.tup (un'.map V.int))):Cs N F i { x with H:=H',r:=r',un:=un' }:=by
 let b:∀a d,x.H a=some (.tup d)->H' a=some (.tup d):=λa d e=>fr a _ e (aL e c.hq (by intro z;cases z));exact {fr _ _ c.hp c.npq,c.bk,c.dv,g,h,fr _ _ c.hl (aL c.hl c.hq (by intro z;cases z)),aK (λ_ _ z=>z.tup b) c.lp,c.go.kb λa o e z=>fr a o e (iK e z c.hq Nf),c.mo,c.tot,c.e4,c.le,c.s1,by show 1<=r'.pc;rw [f];exact c.pc,by show eH r'.x;rw [e1];exact c.wx,by show PyData.strOk r'.x=true;rw [e1];exact c.sx}
def Gs.gt {d:Hp} {ps:Int} {sl:Bool} (g:Gs N F i 3 { x with H:=d,r:={ x.r with ps:=ps,sl:=sl } } y) (fr:∀a o,x.H a=some o->a≠F.q->d a=some o):Gt N F i x y:=
 {g.cs,λa o e z f b h=>g.kr a o (fr a o e b) z f b h,g.ln,g.ad,by rw [g.st];exact {(rfl),rfl,rfl},g.tr,g.kp,g.tk,g.nt}
end
inductive Ux (N:Cn) (fD:Addr) (vs:List V) (H:Hp) (Q:VK) (E0_:XK):Prop|mk (F:Cf) (x:Az) (i:Int) (a:Lm.Ps) (_:vs=[.ref F.p,.ref F.q,.int i]) (_:x.H=H) (_:F.fD=fD) (_:Cs N F i x) (_:x.ys.length+3<=4000) (_:Ef F.M x.s i x.un x.r) (_:bN x.H x.r.sil a) (_:0<=x.r.ps) (_:x.r.ps<=a.length) (_:∀y,Gt N F i x y->0<=y.r.ps->y.r.ps<=a.length->Ef F.M y.s (i+1) y.un y.r->Q .non y.H)
def Yf (N:Cn) (fD:Addr):Sp:=Ux N fD
def Jc:aJ ["self","runner","tick","was_silent"] ["self","runner","tick"] (aG Kf):={rfl,rfl,rfl,⋯,rfl,⋯,⋯}
def Su {fD:Addr} (hD:mg "_law_result"=some (.ref fD)) (W:Wd P w K mg base N c):dZ P w K mg base cX N.CC "turn" 9 (Yf N fD):=W.d68.of λF=>by
 refine F.ok Jc (λvs H Q E h=>?_) (λa3 A a2 s H vs Q E hr h=>?_)
 ·let (F,x,i,a,rfl,_):=h
  rfl
 ·intro X D
  let (Fc,x,i,a,rfl,rfl,ef,j,ly,ok,wk,z0,z1,k):=h
  have nd:=Jc.nd
  have I:=W.R.cl
  have nQ:=W.R.nQ
  have nT:=W.R.nT
  have hq:=j.hq
  refine Wp.ex (tF (n:=3) (v:=.bl x.r.sl) (by symm) nd rfl (j5 rfl) rfl (.inr rfl) ?_)
  refine nF (jF (vs:=[.int i]) (by symm) hq I (Tl W) hr aN (by symm) {Fc.q,Fc.dq,x.r,i,a,rfl,hq,wk,z0,z1,λps sl Z p1=>?_} rfl)
  have l:(aR x.H Fc.q (.ins N.CR Fc.dq (rf { x.r with ps:=ps,sl:=sl }))) Fc.q=some (.ins N.CR Fc.dq (rf { x.r with ps:=ps,sl:=sl })):=aB
  have O:∀a o,x.H a=some o->a≠Fc.q->(aR x.H Fc.q (.ins N.CR Fc.dq (rf { x.r with ps:=ps,sl:=sl }))) a=some o:=λa o e n=>by rw [aC n];exact e
  generalize aR x.H Fc.q (.ins N.CR Fc.dq (rf { x.r with ps:=ps,sl:=sl }))=Y at l O ⊢
  have C:Cs N Fc i { x with H:=Y,r:={ x.r with ps:=ps,sl:=sl } }:=j.ru O l rfl rfl (O _ _ j.hu (aL j.hu j.hq (by intro z;cases z)))
  refine {_,aH (bQ (cC (bY (aV (pv 1) rfl))) (aH (cJ (bE (pv 0) W.Q.cl (FB hD W) hr aN (aA (pv 1) (aA (pv 2) aE))))) (aH (bQ (PW.pt (iV (cC (bY (pv 3))) (gE fN))) (aH (cD (pv 1) (bE (pv 0) W.Q.cl (Xf hD W) hr aN (aA (pv 1) aE)) rfl)) aY))),?_}
  refine {_,rfl,Fc.q,N.CR,Fc.dq,_,_,rfl,l,I,nQ,rfl,sl,rfl,?_}
  cases sl with
  | false=>
   refine cW {_,rfl,Fc.p,Fc.dc,_,rfl,C.hp,rfl,_,rfl,_,rfl,?_}
   refine {Fc,{ x with H:=Y,r:={ x.r with ps:=ps,sl:=false } },i,rfl,rfl,ef,C,ly,?_,rfl,λy g u o=>k y (g.gt O) (by rw [g.st];exact Z) (by rw [g.st];exact p1) (by rw [u];exact o)}
   rcases ok with z|⟨U,L,f⟩
   ·exact .inl z
   ·exact .inr {U,L,f.lt,f.mm,f.me,f.bd,f.uu,f.ac,λz=>nomatch z}
  | true=>
   have G:(x.r.sl=true\/x.r.tk=.non)->Q .non Y:=λh=>by
    refine k { x with H:=Y,r:={ x.r with ps:=ps,sl:=true } } (((Gs.nil C).up (by decide)).gt O) Z p1 ?_
    rcases ok with z|⟨U,L,f⟩
    ·exact .inl z
    ·have sx:x.r.sl=true:=h.resolve_right λz=>by rw [L] at z;cases z
     have t:=f.sl sx
     exact .inr {U,L,f.lt,f.mm,f.me,f.bd,f.uu,λz=>absurd z t,λ_=>t}
   refine cO {_,rfl,x.r.sl,rfl,?_}
   cases es:x.r.sl with
   | true=>exact cO (cO (G (.inl es)))
   | false=>
    refine cW ?_
    refine Tv.to (b:=!decide (x.r.tk=.non)) (by symm) _ ?_
    rcases ok with ⟨z,u0⟩|⟨U,L,f⟩
    ·rw [z]
     exact cO (G (.inr z))
    rw [L]
    refine cW ?_
    let (db,a0):=C.go.bv.bk.ob
    refine {_,rfl,Fc.p,Fc.dc,_,rfl,C.hp,rfl,_,rfl,?_}
    refine {Fc.p,Fc.q,Fc.dc,Fc.dq,db,x.A.pw,x.A.sh,x.A.d,x.co,{ x.r with ps:=ps,sl:=true },Fc.M.sp,Fc.M.ev,Fc.M.le,x.s.nn,x.s.nt,x.s.mo,rfl,C.hp,by rw [j.dv,ef],l,by rw [j.bk];exact a0,j.pc,j.go.e1,j.e4,f.me,f.bd.1,f.bd.2,λn u H2 n1 n2 n3 B S a1=>?_}
    have T:=B _ _ l j.npq.symm
    refine {_,rfl,Fc.q,N.CR,Fc.dq,_,rfl,T,I,W.R.nU,(by show 9<1000;decide),?_}
    have g0:=C.cof (H':=H2) (co:={ x.co with dn:=x.co.dn+n }) rfl rfl rfl rfl (λa o e _ m=>B a o e m) (C.go.kb λa o e z=>B a o e (iK e z C.hp Ng)) a1
    have J:∀a o,H2 a=some o->a≠Fc.q->(aR H2 Fc.q (.ins N.CR Fc.dq (rf { x.r with ps:=ps,sl:=true,un:=u }))) a=some o:=λa o e n=>by rw [aC n];exact e
    have c3:=g0.cs.ru (r':={ x.r with ps:=ps,sl:=true,un:=u }) (un':=wB x.r.ma n) J aB rfl rfl (J _ _ S (aL S T (by intro z;cases z)))
    refine k {_,{ x.co with dn:=x.co.dn+n },x.A,x.s,{ x.r with ps:=ps,sl:=true,un:=u },wB x.r.ma n,x.ys,x.ls} {c3,λa o e z m1 m2 _=>J a o (B a o (O a o e m2) m1) m2,rfl,{_,rfl},{(rfl),rfl,rfl},{[],by rw [x9],.nil,(λ_ z=>nomatch z),by decide},λ_ h _=>h,λ_ e=>.inl e,j0 _} Z p1 ?_
    have t:wB x.r.ma n≠[]:=λz=>by
     have:=congrArg List.length z
     rw [fW] at this
     exact absurd this (by show ¬ n=0;omega)
    exact .inr {U,L,f.lt,f.mm,f.me,f.bd,{by rw [fW];exact n2,by rw [fW];exact n3},λz=>absurd z t,λ_=>t}
inductive Hc (N:Cn) (H:Hp) (q:Addr) (ru:Rn × List Int):Prop|mk (dq:Addr) (a:Lm.Ps) (_:H q=some (.ins N.CR dq (rf ru.1))) (_:H ru.1.un=some (.tup (ru.2.map V.int))) (_:bN H ru.1.sil a) (_:0<=ru.1.ps) (_:ru.1.ps<=a.length) (_:1<=ru.1.pc) (_:eH ru.1.x) (_:PyData.strOk ru.1.x=true)
structure Al (N:Cn) (M:Pm) (fD:Addr) (T:Int) (p dc:Addr) (qs:List Addr) (i:Int) (n:Nat) (H:Hp) (co:Co) (A:Ad) (s:S8) (ys:List V) (ls:List Ln) (rus:List (Rn × List Int)):Prop where
 hp:H p=some (.ins N.CC dc (cf co))
 bk:co.bk=A.b
 dv:co.dv=.ref fD
 hl:H co.ln=some (.lst ys)
 lp:Paired (mY H) ys ls
 go:Go N M H A s
 mo:s.mo<=i
 tot:co.l+s.ns.length=T
 e4:M.ev<=4
 le:M.ev<=M.le
 s1:1<=M.sp
 ln:rus.length=qs.length
 nd:∀(k l:Nat) q,qs[k]?=some q->qs[l]?=some q->k=l
 rn:∀(k:Nat) q ru,qs[k]?=some q->rus[k]?=some ru->Hc N H q ru
 dj:∀(k l:Nat) (a b:Rn × List Int),rus[k]?=some a->rus[l]?=some b->k≠l->∀t,a.1.tk=.int t->b.1.tk≠.int t
 ok:∀(k:Nat) (ru:Rn × List Int),rus[k]?=some ru->Ef M s (if k<n then i+1 else i) ru.2 ru.1
section
variable {M:Pm} {fD:Addr} {T i:Int} {p dc:Addr} {qs:List Addr} {n:Nat} {H:Hp} {co:Co} {A:Ad} {s:S8} {ys:List V} {ls:List Ln} {rus:List (Rn × List Int)}
def Al.cs (h:Al N M fD T p dc qs i n H co A s ys ls rus) {q:Addr} {ru:Rn × List Int} {k:Nat} (l:qs[k]?=some q) (d:rus[k]?=some ru):∃b a,Cs N {(M),fD,T,p,dc,q,b} i {(H),co,A,s,ru.1,ru.2,ys,ls}/\bN H ru.1.sil a/\0<=ru.1.ps/\ru.1.ps<=a.length:=by
 let (b,a,g,e,o,j,m,f,c,r):=h.rn k q ru l d;exact {b,a,{(h.hp),h.bk,h.dv,g,e,h.hl,h.lp,h.go,h.mo,h.tot,h.e4,h.le,h.s1,f,c,r},o,j,m}
def Al.step (h:Al N M fD T p dc qs i n H co A s ys ls rus) {q P:Addr} {ru:Rn × List Int} {a:Lm.Ps} {y:Az} (Y:qs[n]?=some q) (J:rus[n]?=some ru) (c:Cs N {(M),fD,T,p,dc,q,P} i {(H),co,A,s,ru.1,ru.2,ys,ls}) (wk:bN H ru.1.sil a) (g:Gt N {(M),fD,T,p,dc,q,P} i {(H),co,A,s,ru.1,ru.2,ys,ls} y) (p0:0<=y.r.ps) (p1:y.r.ps<=a.length) (o:Ef M y.s (i+1) y.un y.r):
  Al N M fD T p dc qs i (n+1) y.H y.co y.A y.s y.ys y.ls (rus.set n (y.r,y.un)):=by
 let u:=g.cs;let W:Kr p q co.ln H y.H:=g.kr;let B:=W.tup c.hp c.hq c.hl;let E:∀{b:Addr} {U:Lm.Ps},bN H b U->bN y.H b U:=λ{b U} ⟨xs,x1,x2⟩=>{xs,B _ _ x1,aK (λ_ _ ⟨b,F,G⟩=>{b,F,B _ _ G}) x2};let hn:n<rus.length:=(c8.mp J).1;let f:∀{k:Nat} {d:Rn × List Int},(rus.set n (y.r,y.un))[k]?=some d->k≠n->rus[k]?=some d:=λ{k d} e z=>by rwa [D3 (E2 z)] at e
 let m:∀{d:Rn × List Int},(rus.set n (y.r,y.un))[n]?=some d->d=(y.r,y.un):=λ{d} e=>by
  rw [E5 hn] at e;exact(Option.some.inj e).symm
 let D:∀{k:Nat} {d:Rn × List Int} {t:Int},rus[k]?=some d->d.1.tk=.int t->t<s.nt:=λ{k d t} e z=>by
  rcases h.ok k d e with ⟨q,_⟩|⟨S,v,Q⟩
  ·rw [z] at q;cases q
  ·rw [z] at v;cases v;exact Q.lt.2
 refine {u.hp,u.bk,u.dv,u.hl,u.lp,u.go,u.mo,u.tot,h.e4,h.le,h.s1,by rw [L8];exact h.ln,h.nd,λk q' d w j=>?_,λk l a b X C L t v=>?_,λk d j=>?_}
 ·by_cases z:k=n
  ·subst z;rw [Y] at w;cases w;rw [m j];exact {P,a,u.hq,u.hu,by show bN y.H y.r.sil a;rw [g.st.2.2];exact E wk,p0,p1,u.pc,u.wx,u.sx}
  ·let (O,a',I,Z,h3,h4,h5,h6,h7,h8):=h.rn k q' d w (f j z);refine {O,a',W _ _ I Fv ?_ ?_ (aL I c.hl (by intro z;cases z)),B _ _ Z,E h3,h4,h5,h6,h7,h8}
   ·exact λe=>by
     rw [e] at I;have:=Option.some.inj (h.hp.symm.trans I);injection this with _ _ e;exact absurd e (by intro z;cases z)
   ·exact λe=>z (h.nd k n q (e ▸ w) Y)
 ·by_cases F:k=n
  ·subst F;let C:=f C (E2 L);rw [m X] at v;intro K;rcases g.tk t v with q|q
   ·exact h.dj k l ru b J C L t q K
   ·let q:s.nt<=t:=q;have:=D C K;omega
  ·let x:=f X F;by_cases G:l=n
   ·subst G;rw [m C];intro K;rcases g.tk t K with q|q
    ·exact h.dj k l a ru x J L t v q
    ·let q:s.nt<=t:=q;have:=D x v;omega
   ·exact h.dj k l a b x (f C G) L t v
 ·by_cases z:k=n
  ·subst z;rw [m j,if_pos (K5 _)];exact o
  ·let j:=f j z;let e:(if k<n+1 then i+1 else i)=if k<n then i+1 else i:=by
    by_cases q:k<n
    ·rw [if_pos q,if_pos ∎]
    ·rw [if_neg q,if_neg ∎]
   rw [e];rcases h.ok k d j with q|⟨S,v,Q⟩
   ·exact .inl q
   ·exact .inr {S,v,g.kp (by split <;> omega) Q (h.dj k n d ru j J z S v)}
end
structure Ca where
 H:Hp
 co:Co
 A:Ad
 s:S8
 ys:List V
 ls:List Ln
 rus:List (Rn × List Int)
structure Cq where
 M:Pm
 fD:Addr
 T:Int
 p:Addr
 dc:Addr
 qs:List Addr
abbrev Wa (N:Cn) (F:Cq) (i:Int) (n:Nat) (x:Ca):Prop:=Al N F.M F.fD F.T F.p F.dc F.qs i n x.H x.co x.A x.s x.ys x.ls x.rus
structure Gl (F:Cq) (t:Int->Prop) (k:Nat) (x y:Ca):Prop where
 kr:∀a o,x.H a=some o->Ki o=true->a≠F.p->a≠x.co.ln->a ∉ F.qs->y.H a=some o
 ln:y.co.ln=x.co.ln
 ad:∃ps,y.A={ x.A with ps:=ps }
 tr:∃nw,y.ls=x.ls++nw/\Tr F.M x.s nw y.s/\(∀l ∈ nw,t l.i)/\nw.length<=k
section
variable {F:Cq} {t t':Int->Prop} {k k':Nat} {x y z:Ca} {i:Int} {n:Nat}
def Tr.nil_eq {M:Pm} {s s':S8} (h:Tr M s [] s'):s'=s:=by cases h;rfl
def Gl.nil:Gl F t 0 x x:={λ_ _ e _ _ _ _=>e,rfl,{_,rfl},{[],by rw [x9],.nil,(λ_ z=>nomatch z),c9 _}}
theorem Gl.trans (a:Gl F t k x y) (b:Gl F t k' y z):Gl F t (k+k') x z:=by
 let (j,s,v,q,G):=a.tr;let (u,m,A,D,H):=b.tr;let (E,r):=a.ad;let (p,B):=b.ad;exact {λc o e g f d h=>b.kr c o (a.kr c o e g f d h) g f (by rw [a.ln];exact d) h,b.ln.trans a.ln,{p,by rw [B,r]},{j++u,by rw [m,s,p9],v.app A,λl C=>(j1.mp C).elim (q l) (D l),by rw [i7];omega}}
def Gl.to (a:Gl F t k x y) (h:∀i,t i->t' i) (e:k<=k'):Gl F t' k' x y:=by
 let (b,j,f,g,d):=a.tr;exact {a.kr,a.ln,a.ad,b,j,f,λl m=>h _ (g l m),l7 d e}
def Al.next (h:Wa N F i F.qs.length x):Wa N F (i+1) 0 x:=by
 refine⟨h.hp,h.bk,h.dv,h.hl,h.lp,h.go,by have:=h.mo;omega,h.tot,h.e4,h.le,h.s1,h.ln,h.nd,h.rn,h.dj,λk b a=>?_⟩;let e:=h.ok k b a;have:k<F.qs.length:=by rw [<- h.ln];exact(c8.mp a).1
 rw [if_pos this] at e;rw [if_neg (D9 _)];exact e
def Gt.gl {q h:Addr} {ru:Rn × List Int} {y':Az} (g:Gt N {(F.M),F.fD,F.T,F.p,F.dc,q,h} i {(x.H),x.co,x.A,x.s,ru.1,ru.2,x.ys,x.ls} y') (j:q ∈ F.qs) (b:List (Rn × List Int)):Gl F (·=i) 3 x {(y'.H),y'.co,y'.A,y'.s,y'.ys,y'.ls,b}:=
 {λa o e z f d l=>g.kr a o e z f (λw=>l (w ▸ j)) d,g.ln,g.ad,g.tr}
theorem Gl.ys (g:Gl F t k x y) (h:Wa N F i n x) {d:Int} {f:Nat} (h':Wa N F d f y):y.ys.length<=x.ys.length+k:=by
 let (j,e,_,_,l):=g.tr;let a:=h.lp.length;let b:=h'.lp.length;rw [e,i7] at b;omega
end
inductive GP (N:Cn) (fD:Addr) (vs:List V) (H:Hp) (Q:VK) (E0_:XK):Prop|mk (F:Cq) (lr:Addr) (tt:Nat) (x:Ca) (_:vs=[.ref F.p,.ref lr,.int tt]) (_:x.H=H) (_:F.fD=fD) (_:H lr=some (.lst (F.qs.map V.ref))) (_:lr≠x.co.ln) (_:Wa N F 1 0 x) (_:x.ls=[]) (_:3 * (F.qs.length * tt)+3<=4000) (_:F.qs.length<=1000)
 (_:∀(t:Nat) (y:Ca),t<=tt->Gl F (λ_=>True) (3 * (F.qs.length * t)) x y->Wa N F (t+1) 0 y->(t=0\/0<y.co.l\/∃l,y.ls.getLast?=some l/\l.i=t)->Q (if y.co.l=0 then .int t else .non) y.H)
def IH (N:Cn) (fD:Addr):Sp:=GP N fD
def EN:aJ ["self","runners","ticks","tick","runner"] ["self","runners","ticks"] (aG EU):={rfl,rfl,rfl,⋯,rfl,⋯,⋯}
def FC {fD:Addr} (hD:mg "_law_result"=some (.ref fD)) (W:Wd P w K mg base N c):dZ P w K mg base cX N.CC "go" 10 (IH N fD):=W.d67.of λF=>by
 refine F.ok EN (λvs H Q E h=>?_) (λac A a7 s H vs Q E hr h=>?_)
 ·let (F,u,C,x,rfl,_):=h
  rfl
 ·intro X D
  let (Fc,u,C,x,rfl,rfl,ef,L,a1,S,a4,bd,qn,k):=h
  let nd:=EN.nd
  let aa:=W.Q.cl
  let nL:=W.Q.nL
  let ey:x.ys.length=0:=by have:=S.lp.length;rw [a4] at this;exact this
  refine Wp.ex ?_
  show 3
  refine iQ v4 (λm σ G=>∃(t:Nat) (y:Ca) (o:Option V),m=C-t/\σ=[some (.ref Fc.p),some (.ref u),some (.int C),some (.int t),o]/\G=y.H/\t<=C/\Gl Fc (λ_=>True) (3 * (Fc.qs.length * t)) x y/\Wa N Fc (t+1) 0 y/\(t=0\/0<y.co.l\/∃l,y.ls.getLast?=some l/\l.i=t)) _ {0,x,none,rfl,rfl,rfl,i5 _,Gl.nil,(show (((0:Nat):Int)+1)=1 from rfl) ▸ S,.inl rfl} λm σ G h=>?_
  let (t,y,o,rfl,rfl,rfl,ht,Y,U,la):=h
  let hp:=U.hp
  by_cases c1:0<y.co.l/\t<C
  ·refine .inl {?_,λD' Tn=>?_}
   ·apply Tv.is;apply fG;symm;intro _;symm
    rw [decide_eq_true c1.1,decide_eq_true ∎]
    rfl
   ·refine tH (n:=3) rfl (by symm) nd rfl (j5 rfl) (.inr rfl) ?_
    let Z:u ∉ Fc.qs:=λz=>by
     let (j,hj,ej):=y6 z
     let a8:j<x.rus.length:=by rw [S.ln];exact hj
     let (_,_,h1,_):=S.rn j u _ (by rw [<- ej];exact c7 hj) (c7 a8)
     rw [L] at h1
     cases h1
    let a3:u≠Fc.p:=aL L S.hp (by intro z;cases z)
    let a2:y.H u=some (.lst (Fc.qs.map V.ref)):=Y.kr _ _ L rfl a3 a1 Z
    let a5:u≠y.co.ln:=by rw [Y.ln];exact a1
    let ly:=Y.ys S U
    let a6:Fc.qs.length * (t+1)=Fc.qs.length * t+Fc.qs.length:=Nat.mul_succ _ _
    let a9:Fc.qs.length * (t+1)<=Fc.qs.length * C:=Nat.mul_le_mul_left _ ∎
    refine {_,aH (eJ v4 rfl (iF (pv 1)) (aW (i:=4) nd rfl (j5 rfl)) (aH (cJ (bE (pv 0) W.Q.cl (Su hD W) hr aN (aA (pv 4) (aA (pv 3) aE)))))),?_}
    refine {_,rfl,u,rfl,{_,dD.of a2},lM (xs:=Fc.qs.map V.ref) (λn σ G=>∃(z:Ca) (o:Option V),σ=[some (.ref Fc.p),some (.ref u),some (.int C),some (.int ((t:Int)+1)),o]/\G=z.H/\Gl Fc (·=(t:Int)+1) (3 * n) y z/\Wa N Fc (t+1) n z) {(y),o,rfl,rfl,Gl.nil,U} (λn σ G _ h=>?_) (λn v σ G hv h=>?_) (λσ G h=>?_)}
    ·let (z,_,rfl,rfl,I,_):=h
     exact dD.of (I.kr _ _ a2 rfl a3 a5 Z)
    ·let (z,o',rfl,rfl,I,f):=h
     obtain⟨q,O,rfl⟩:∃q,Fc.qs[n]?=some q/\v=.ref q:=by
      rw [i8] at hv;cases O:Fc.qs[n]? with
      | none=>rw [O] at hv;cases hv
      | some q=>rw [O] at hv;cases hv;exact {(q),rfl,rfl}
     let nl:n<Fc.qs.length:=(c8.mp O).1;let hn:n<z.rus.length:=by rw [f.ln];exact nl
     let J:=c7 hn;let lz:=I.ys U f;let (dq,a,cs,wk,p0,p1):=f.cs O J;let a0:=f.ok n _ J;rw [if_neg (x6 _)] at a0;refine {_,rfl,Fc.p,Fc.dc,_,rfl,f.hp,rfl,_,rfl,_,rfl,?_};refine {{(Fc.M),Fc.fD,Fc.T,Fc.p,Fc.dc,q,dq},{z.H,z.co,z.A,z.s,z.rus[n].1,z.rus[n].2,z.ys,z.ls},(t:Int)+1,a,rfl,rfl,ef,cs,by show z.ys.length+3<=4000;omega,a0,wk,p0,p1,λy' g q0 q1 o=>?_};exact {{y'.H,y'.co,y'.A,y'.s,y'.ys,y'.ls,z.rus.set n (y'.r,y'.un)},_,rfl,rfl,I.trans (g.gl (i6 O) _),f.step O J cs wk g q0 q1 o}
    ·let (z,o',rfl,rfl,I,f):=h;rw [g7] at I f;let an:=f.next;refine Tn.nx _ _ {C-(t+1),∎,t+1,z,o',rfl,rfl,rfl,∎,(Y.trans (I.to (λ_ _=>trivial) (c9 _))).to (λ_ h=>h) (by rw [a6];omega),by rw [Int.natCast_add];exact an,?_};by_cases z0:0<z.co.l
     ·exact .inr (.inl z0)
     ·refine .inr (.inr ?_);let (nw,e,tr,ti,_):=I.tr;let n0:nw≠[]:=λw=>by
       subst w;let h1:=U.tot;let h2:=f.tot;rw [tr.nil_eq] at h2;have:=c1.1;omega
      refine {nw.getLast n0,?_,?_}
      ·rw [e,List.getLast?_append,List.getLast?_eq_some_getLast n0];rfl
      ·rw [ti _ (List.getLast_mem n0),Int.natCast_add];rfl
  ·refine .inr {?_,?_}
   ·by_cases c2:0<y.co.l
    ·apply Tv.is;apply fG;symm;intro _;symm;rw [decide_eq_false (show ¬ (t:Int)<C by omega),K3]
    ·apply Tv.is;apply fG (d:=false);symm;intro z;exact absurd (show 0<y.co.l from of_decide_eq_true z) c2;rw [K3]
   ·refine fI {_,Lg fN aP aP,Tv.to (b:=decide (V.int y.co.l=.int 0)) (by symm) _ ?_};let B:=k t y ht Y U la;by_cases z:y.co.l=0
    ·rw [if_pos z] at B;exact eT (decide_eq_true (by rw [z])) (Vl.to (v:=.int t) (by symm) _ B)
    ·rw [if_neg z] at B;exact dC (decide_eq_false λq=>z (V.int.inj q)) (Vl.to (v:=.non) (by symm) _ B)
inductive Pe (vs:List V) (H:Hp) (Q:VK) (E0_:XK):Prop|mk (t:Int) (_:vs=[.int t]) (_:0<=t) (_:t<=5000) (_:Q .non H)
def Qs:Sp:=Pe
def Rp:aJ ["ticks"] ["ticks"] (aG Jl):={rfl,rfl,rfl,⋯,rfl,⋯,⋯}
def Lw (W:Wd P w K mg base N c):jM P w K mg base cX "check_ticks" 2 Qs:=W.d21.of λF=>by
 refine F.ok Rp (λe H Q E h=>?_) (λb A a s H e Q E f h=>?_)
 ·let (t,rfl,_):=h
  rfl
 ·intro X D
  let (t,rfl,g,d,q):=h
  refine {_,aH (bQ (PW.pt (eN (cC (bY (aS (dI W) f aN (aA (pv 0) aE)))) (dP (cC (iW fO fO aX (pv 0) aX))))) cU aY),?_}
  refine {_,rfl,_,rfl,.kn (.int _),_,rfl,cO ?_}
  refine {_,rfl,_,_,rfl,rfl,_,rfl,eT (decide_eq_true g) {_,_,rfl,rfl,_,rfl,dC ?_ q}}
  rw [decide_eq_true d]
  rfl
end
end Ls
namespace L2
open PySem PySem.Spec PyProof.Rows PySem.W
theorem sL:∀{ns:List Int} {us:List Value},bG (ns.map V.int) us->∃a:List (Int × Tok),us=a.map (λp=>Value.int p.1 p.2)/\a.map (λp=>p.1)=ns
 | [],_,.nil=>{[],rfl,rfl}
 | n::ns,_,.cons {(t),e} r=>by
  let (a,d,b):=sL r
  refine {(n,t)::a,?_,?_}
  ·rw [r6,<- d,e]
  ·rw [r6,b]
theorem Cp (xs:List (Int × Tok)):∀k,k<=xs.length->preSum (numAt xs.toArray) k=((xs.take k).map (λp=>p.1)).sum
 | 0,_=>rfl
 | k+1,h=>by
  let i:=Cp xs k ∎
  show preSum (numAt xs.toArray) k+numAt xs.toArray k=_
  rw [i,A3,c7 ∎,n6,List.sum_append]
  congr 1
  have:numAt xs.toArray k=(xs[k]'∎).1:=by
   unfold numAt;simp [show k<xs.length by omega]
  rw [this];simp
section
variable {X:Cx}
def Oo (l:X.calm=true):fP X (.builtin "sum") (λb H Q=>∃(a:Addr) (ns:List Int),b=[.ref a]/\dD X.K H a (ns.map V.int)/\Q (.int ns.sum) H):=by
 intro f s σ H b v Q I r h;let (a,ns,rfl,n,q):=h;let (u,rfl,k):=iT r;cases k;let (d,m,j,x):=I.list n;let (b,o,i):=sL m;let p:s.heap.IsList a (intItems b.toArray):=by
  let e:intItems b.toArray=d.toArray:=by
   rw [o];unfold intItems;simp
  rw [e];exact j.isList
 refine sum_intListG (I.ok.hd l) p λz t y g=>{.int _,H,I.kept g,{_,rfl},?_};let e:preSum (numAt b.toArray) b.toArray.size=ns.sum:=by
  rw [j6,Cp b b.length (c9 _),List.take_length,i]
 rw [e];exact q
end
end L2
namespace Ls
open PySem L2 PySem.W
def Hk (a:Lm.Ps):Int:=(a.map λq=>q.2-q.1).sum
inductive Va (vs:List V) (H:Hp) (Q:VK) (E0_:XK):Prop|mk (p:Addr) (a:Lm.Ps) (_:vs=[.ref p]) (_:bN H p a) (_:Lm.Wk a) (_:a.length<=1000) (_:∀H',aM H H'->Q (.int (Hk a)) H')
def Yh:Sp:=Va
def Os:bootBuiltins "sum"=some (.builtin "sum"):=⋯
def FE:(["low","high"]:List Str).Nodup:=⋯
section
variable {P:Program} {w:World} {K:Frag} {mg:Str->Option Value} {base:Heap} {N:Cn} {c:Nat->Addr}
def Yy:aJ ["work"] ["work"] (aG Wq):={rfl,rfl,rfl,⋯,rfl,⋯,⋯}
def Sw (W:Wd P w K mg base N c):jM P w K mg base cX "size_of" 5 Yh:=W.d17.of λF=>by
 refine F.ok Yy (λT H Q E h=>?_) (λY A u s H T Q E U h=>?_)
 ·let (p,a,rfl,_):=h
  rfl
 ·intro X D
  let (p,a,rfl,L,wa,la,t):=h
  refine {_,(aF (cJ (aS (pO W) U aN (aA (pv 0) aE))) (aH (bB (bF (Oo rfl) (by rfl) W.G.sum Os (aA (dM (NB:=["low","high"]) (n:=2) (js:=[]) (g:=Gf K 2 (hZ (cS 0) (hZ (cS 1) Gg))) (cl:=[]) rfl ⋯ ⋯ rfl (mZ.all {(rfl),rfl,rfl,rfl}).2.2.2.1 (fY (pv 0)) (λC s H M J=>fZ (n:=2) rfl (bH (aW (i:=0) FE rfl (j5 rfl) (.inr rfl)) (bH (aW (i:=1) FE rfl (j5 rfl) (.inr rfl)) eO))) (λC s H M J=>eC)
    (λC s H M J=>cI mD (pv 1) (pv 0))) aE))))),?_}
  have sl:sizeLine=16777216:=sizeLine_eq
  let (e,l,I):=id L
  have lx:e.length=a.length:=I.length
  refine {_,rfl,p,a,rfl,L,wa,la,?_}
  refine {_,rfl,p,rfl,{_,cA.of l},λj d=>?_}
  refine {λi m x B=>m=e.length-i/\i<=e.length/\x=((a.take i).map λq=>q.2-q.1).map V.int/\aM H B/\B j=some (.lst x),{_,rfl,i5 _,rfl,aI d,aB},?_}
  rintro i m x B ⟨rfl,hi,rfl,f,r⟩
  refine {r,?_}
  by_cases k:i<e.length
  ·refine .inr {{e,_,cA.of (f _ _ l),c7 k},?_}
   rintro y S ⟨rfl,O⟩
   have Z:=O e (cA.of (f _ _ l))
   let (q,hq,b',rfl,v):=aQ I Z
   refine {b',_,rfl,cA.of (f _ _ v),rfl,_,_,rfl,_,_,rfl,rfl,?_}
   refine {rfl,eM (cW ?_)}
   refine {_,rfl,_,rfl,_,_,rfl,rfl,r,by rw [g7,g7,l0];omega,_,?_,rfl,k,?_,λb o z=>?_,aB}
   ·omega
   ·rw [A3,hq]
    simp
   ·rw [aC (aD z d)]
    exact f _ _ z
  ·refine .inl {{e,cA.of (f _ _ l),∎},?_}
   have ei:a.take i=a:=p8 ∎
   rw [ei] at r
   exact⟨j,a.map λq:Int × Int=>q.2-q.1,rfl,dD.of r,t _ f⟩
structure Pn where
 x:Str
 pc:Int
 q:Addr
 a:Lm.Ps
inductive Pz (H:Hp) (b:Addr) (z:Pn):Prop|mk (_:H b=some (.tup [.str z.x,.int z.pc,.ref z.q])) (_:eH z.x) (_:PyData.strOk z.x=true) (_:1<=z.pc) (_:z.pc<=1000) (_:bN H z.q z.a) (_:Lm.Wk z.a) (_:z.a.length<=1000)
inductive Aq (vs:List V) (H:Hp) (Q:VK) (E0_:XK):Prop|mk (b:Addr) (z:Pn) (_:vs=[.ref b]) (_:Pz H b z) (_:∀H',aM H H'->Q (.bl true) H')
def Ep:Sp:=Aq
def rX:aJ ["thing","pace"] ["thing"] (aG vU):={rfl,rfl,rfl,⋯,rfl,⋯,⋯}
def zP (W:Wd P w K mg base N c):jM P w K mg base cX "is_planned" 4 Ep:=W.d18.of λF=>by
 refine F.ok rX (λr H Q E h=>?_) (λo A l s H r Q E k h=>?_)
 ·let (b,z,rfl,_):=h
  rfl
 ·intro X D
  let (b,z,rfl,(a,u,C,B,m,p,n,t),q):=h
  refine {_,aF (bQ (PW.pt (eN (cC (bY (bF dB (by rfl) W.G.isi eW (aA (pv 0) (aA (fQ (v:=.ty "tuple") (by rfl) W.G.tuple eV rfl) aE)))))
    (dP (cH sC (bF cG (by rfl) W.G.len PySem.boot_len (aA (pv 0) aE)) aX (bO _))))) cU aY)
   (aF (eI (i:=1) rX.nd rfl (j5 rfl) (dQ dU (pv 0) aX (λ_ _=>rfl)))
   (aH (bB (eQ (aS (mO W) k aN (aA (dQ dU (pv 0) aX (λ_ _=>rfl)) aE))
    (eQ (aS (dI W) k aN (aA (pv 1) aE))
    (eQ (wI fO fO aX (pv 1) aX)
     (gA (aS (Cv W) k aN (aA (dQ dU (pv 0) aX (λ_ _=>rfl)) aE))))))))),?_}
  let (f,g,e):=iA (K:=K) a
  refine {_,rfl,_,_,_,_,rfl,.ty "tuple",.inl {(f),g,e},_,rfl,cO ?_}
  refine {_,rfl,b,_,rfl,.inr (cA.of a),rfl,_,rfl,dC (by show (!decide (V.int ((3:Nat):Int)=V.int 3))=false;decide +kernel) ?_}
  refine {_,rfl,b,_,_,_,rfl,rfl,cA.of a,bW (j:=1) rfl,?_}
  refine {_,rfl,b,_,_,_,rfl,rfl,cA.of a,bW (j:=0) rfl,z.x,rfl,u,λy d=>{_,rfl,cW ?_}}
  refine {_,rfl,_,rfl,.kn (.int _),_,rfl,cW ?_}
  refine {_,rfl,_,_,rfl,rfl,_,rfl,eT (decide_eq_true B) {_,_,rfl,rfl,_,rfl,eT (decide_eq_true m) ?_}}
  exact {_,rfl,b,_,_,_,rfl,rfl,cA.of (d _ _ a),bW (j:=2) rfl,_,true,rfl,(p.same d).workV n t,q y d}
def qU (H:Hp) (v:V) (z:Pn):Prop:=∃b,v=.ref b/\Pz H b z
theorem Pz.same {H H':Hp} {b:Addr} {z:Pn} (e:aM H H') (h:Pz H b z):Pz H' b z:=by
 let (g,d,k,i,j,f,a,l):=h;exact {e _ _ g,d,k,i,j,f.same e,a,l}
inductive Vd (vs:List V) (H:Hp) (Q:VK) (E0_:XK):Prop|mk (a:Addr) (xs:List V) (zs:List Pn) (_:vs=[.ref a]) (_:H a=some (.tup xs)) (_:xs.length<=900) (_:Paired (qU H) xs zs) (_:(zs.map Pn.x).Nodup) (_:∀H',aM H H'->Q .non H')
def Qv:Sp:=Vd
def KS:(["thing"]:List Str).Nodup:=⋯
def Fm:(["worker","pace","silences"]:List Str).Nodup:=⋯
def Ou:bootBuiltins "set"=some (.type "set"):=⋯
def vQ:aJ ["plan"] ["plan"] (aG pC):={rfl,rfl,rfl,⋯,rfl,⋯,⋯}
def uK (W:Wd P w K mg base N c):jM P w K mg base cX "check_plan" 5 Qv:=W.d20.of λF=>by
 refine F.ok vQ (λvs H Q E h=>?_) (λa4 A a1 s H vs Q E hr h=>?_)
 ·let (a,I,r,rfl,_):=h
  rfl
 ·intro X D
  let (a,I,r,rfl,k,hl,hp,nd,q):=h
  refine {_,aF (bQ (PW.pt (eN (cC (bY (bF dB (by rfl) W.G.isi eW (aA (pv 0) (aA (fQ (v:=.ty "tuple") (by rfl) W.G.tuple eV rfl) aE)))))
    (dP (cC (bY (bF (qJ rfl) (by rfl) W.G.all qK (aA (dM (NB:=["thing"]) (n:=1) (js:=[]) (g:=cS 0) (cl:=[]) rfl ⋯ ⋯ rfl (mZ.all {(rfl),rfl,rfl,rfl}).2.2.2.1 (fY (pv 0)) (λC s H T O=>aW (i:=0) KS rfl (j5 rfl) (.inr rfl)) (λC s H T O=>eC)
     (λC s H T O=>aS (zP W) (by exact hr) aN (aA (pv 0) aE))) aE))))))) cU aY)
   (aH (bQ (cH iJ (bF Gx (by rfl) W.G.len PySem.boot_len (aA (dH (Gq rfl) (by rfl) W.G.set Ou (aA
     (dM (NB:=["worker","pace","silences"]) (n:=3) (js:=[]) (g:=Gf K 3 (hZ (cS 0) (hZ (cS 1) (hZ (cS 2) Gg)))) (cl:=[]) rfl ⋯ ⋯ rfl (mZ.all {(rfl),rfl,rfl,rfl}).2.2.2.1 (fY (pv 0))
      (λC s H T O=>fZ (n:=3) rfl (bH (aW (i:=0) Fm rfl (j5 rfl) (.inr rfl)) (bH (aW (i:=1) Fm rfl (j5 rfl) (.inr rfl)) (bH (aW (i:=2) Fm rfl (j5 rfl) (.inr rfl)) eO)))) (λC s H T O=>eC)
      (λC s H T O=>pv 0)) aE)) aE)) (bF cG (by rfl) W.G.len PySem.boot_len (aA (pv 0) aE)) (bO _)) cU aY)),?_}
  let sl:sizeLine=16777216:=sizeLine_eq
  let lz:I.length=r.length:=hp.length
  let (ty,a2,e):=iA (K:=K) k
  refine {_,rfl,_,_,_,_,rfl,.ty "tuple",.inl {(ty),a2,e},_,rfl,cO ?_}
  refine {_,rfl,a,rfl,{_,cA.of k},λS u=>?_}
  refine {λi m L Z=>m=I.length-i/\i<=I.length/\L=(List.replicate i true).map V.bl/\aM H Z/\Z S=some (.lst L),{_,rfl,i5 _,rfl,aI u,aB},?_}
  rintro i m L Z ⟨rfl,hi,rfl,J,hA⟩
  refine {hA,?_}
  by_cases U:i<I.length
  ·refine .inr {{_,_,cA.of (J _ _ k),c7 U},?_}
   rintro y a3 ⟨rfl,hy⟩
   let ey:=hy _ (cA.of (J _ _ k))
   let (z,ez,b,rfl,hb):=aQ hp ey
   refine lK {rfl,eM (cW ?_)}
   refine {_,rfl,b,z,rfl,hb.same J,λY s2=>?_}
   refine {s2 _ _ hA,by rw [g7,A9];omega,_,?_,rfl,U,by rw [P8,n6];rfl,λb ob z=>?_,aB}
   ·omega
   ·rw [aC (aD z u)]
    exact s2 _ _ (J _ _ z)
  ·refine .inl {{_,cA.of (J _ _ k),∎},?_}
   refine {S,_,rfl,dD.of hA,_,rfl,?_}
   let e2:(List.replicate i true).all id=true:=by rw [List.all_replicate];split <;> rfl
   rw [e2]
   refine cO ?_
   refine {_,rfl,a,rfl,{_,cA.of (J _ _ k)},λB f=>?_}
   refine {λj m L Y=>m=I.length-j/\j<=I.length/\L=((r.map Pn.x).take j).map V.str/\aM Z Y/\Y B=some (.lst L),{_,rfl,i5 _,rfl,aI f,aB},?_}
   rintro j m2 L Y ⟨rfl,hj,rfl,M,l⟩
   refine {l,?_}
   let d:=J.trans M
   by_cases p:j<I.length
   ·refine .inr {{_,_,cA.of (d _ _ k),c7 p},?_}
    rintro y H3 ⟨rfl,hy⟩
    let ey:=hy _ (cA.of (d _ _ k))
    let (z,ez,b,rfl,eb,_):=aQ hp ey
    refine {b,_,rfl,cA.of (d _ _ eb),rfl,_,_,rfl,_,_,rfl,_,_,rfl,rfl,?_}
    refine {rfl,eM (cW ?_)}
    refine {_,rfl,l,by rw [g7,l0];omega,_,?_,rfl,p,?_,λb ob z=>?_,aB}
    ·omega
    ·rw [A3,i8,ez]
     simp
    ·rw [aC (aD z f)]
     exact M _ _ z
   ·refine .inl {{_,cA.of (d _ _ k),∎},?_}
    let ej:(r.map Pn.x).take j=r.map Pn.x:=p8 (by rw [g7];omega)
    rw [ej] at l
    refine {B,r.map Pn.x,rfl,l,by rw [g7];omega,λt m nt le a0=>?_}
    let em:m=r.length:=by rw [a0.mpr nd,g7]
    subst em
    refine {t,_,rfl,aB,∎,?_}
    let s4:=d.trans (aI (o:=Rh X t r.length) nt)
    refine {_,rfl,a,_,rfl,.inr (cA.of (s4 _ _ k)),_,_,rfl,rfl,_,rfl,dC (decide_eq_false ∎) (q _ s4)}
end
end Ls
namespace L2
open PySem PySem.Spec PyProof.Rows PySem.W
def bK.exS {ι:Type} {P:Program} {w:World} {K:Frag} {mg:Str->Option Value} {base:Heap} {CX:mK} {k:Nat} {f:Addr} {d:FuncData} {ps:List Str} {sp:ι->Sp} (F:∀i,bK P w K mg base CX k f d ps (sp i)):bK P w K mg base CX k f d ps (λc H Q E=>∃i,sp i c H Q E):=
 {λc H Q E ⟨i,q⟩=>(F i).len c H Q E q,λA a s H b e c Q E l j g h ⟨i,hs⟩=>(F i).run A a s H b e c Q E l j g h hs}
end L2
namespace Lm
def Ix {p:Int × Int} {t:Ps} (h:Sh (p::t)):¬ mem (p::t) p.2:=by
 intro z;rcases mem_cons.mp z with z|z
 ·omega
 ·let (q,a,b,_):=z;have:=h.2.1 q a;omega
def Br {p:Int × Int} {t:Ps} (h:Sh (p::t)) {x:Int}:mem t x↔mem (p::t) x/\p.2<=x:=by
 constructor
 ·intro z;exact {mem_cons.mpr (.inr z),uM (λq a=>v7 (h.2.1 q a)) z}
 ·rintro⟨z,w⟩;rcases mem_cons.mp z with z|z
  ·omega
  ·exact z
theorem sh_same:∀{s t:Ps},Sh s->Sh t->(∀x,mem s x↔mem t x)->s=t
 | [],[],_,_,_=>rfl
 | [],q::t,_,ht,e=>by
  have:=(e q.1).mpr (mem_cons.mpr (.inl {j0 _,ht.1}))
  exact(iG.mp this).elim
 | p::s,[],hs,_,e=>by
  have:=(e p.1).mp (mem_cons.mpr (.inl {j0 _,hs.1}))
  exact(iG.mp this).elim
 | p::s,q::t,hs,ht,e=>by
  let b:q.1<=p.1:=oW ht ((e p.1).mp (mem_cons.mpr (.inl {j0 _,hs.1})))
  let d:p.1<=q.1:=oW hs ((e q.1).mpr (mem_cons.mpr (.inl {j0 _,ht.1})))
  let f:¬ p.2<q.2:=λz=>Ix hs ((e p.2).mpr (mem_cons.mpr (.inl ⟨by have:=hs.1;omega,z⟩)))
  let c:¬ q.2<p.2:=λz=>Ix ht ((e q.2).mp (mem_cons.mpr (.inl ⟨by have:=ht.1;omega,z⟩)))
  let a:p=q:=by
   apply Prod.ext
   ·omega
   ·omega
  subst a;have:s=t:=sh_same hs.2.2 ht.2.2 λx=>by rw [Br hs,Br ht,e x]
  rw [this]
end Lm
namespace Ls
open PySem L2 PySem.W
def kQ (ds:Lm.Ps):List Int:=ds.flatMap λq=>eZ q.1 (q.2-q.1).toNat
def jA {b:Lm.Ps} {x:Int}:x ∈ kQ b↔Lm.mem b x:=by
 unfold kQ Lm.mem;rw [List.mem_flatMap];constructor
 ·rintro⟨q,a,h⟩;have:=eS.mp h;exact {q,a,∎,∎}
 ·rintro⟨q,a,c,d⟩;exact {q,a,eS.mpr {c,∎}}
def Qm (m:Int) (n:Nat):(eZ m n).Pairwise (·<·):=List.Pairwise.map _ (λa b (z:a<b)=>∎) List.pairwise_lt_range
theorem Dj:∀{a:Lm.Ps},Lm.Wk a->(kQ a).Pairwise (·<·)
 | [],_=>G9
 | q::a,w=>by
  let e:kQ (q::a)=eZ q.1 (q.2-q.1).toNat++kQ a:=by unfold kQ;rw [List.flatMap_cons]
  rw [e,C4]
  refine {Qm _ _,Dj w.2.2,λx c y b=>?_}
  let g:=eS.mp c
  let (r,d,f,h):=jA.mp b
  have:=w.2.1 r d
  have:=w.1
  omega
def Mu {l:List Int} (h:l.Pairwise (·<·)):l.Nodup:=h.imp λz e=>by subst e;exact absurd z (Int.lt_irrefl _)
def Yv (N:Cn):Sp:=λvs H Q E=>∃vf,Bk N.CB N.CS (λvs H Q _=>Iq vf N.CS vs H Q E0) vs H Q E
def wR {P:Program} {w:World} {K:Frag} {mg:Str->Option Value} {base:Heap} {N:Cn} {c:Nat->Addr} (W:Wd P w K mg base N c):dZ P w K mg base cX N.CB "all_results" 8 (Yv N):=W.d52.of λF=>bK.exS λa=>Te F (sp':=Iq a N.CS) (AI a W) W
theorem lO.far {ps:List (Int × Int)} (r:lO ps):∀(d k:Nat) (l h a h':Int),ps[k]?=some (l,h)->ps[k+1+d]?=some (a,h')->h<=a
 | 0,k,l,h,a,h',e1,e2=>r.up k l h a h' e1 e2
 | d+1,k,l,h,a,h',e1,e2=>by
  let c:k+1+d<ps.length:=by
   have:=(c8.mp e2).1;omega
  let b:ps[k+1+d]?=some ps[k+1+d]:=c7 c;let f:=r.far d k l h _ _ e1 b;let e:=r.lt _ _ _ b;let g:=r.up (k+1+d) _ _ a h' b e2;omega
theorem uA:∀{ps:Lm.Ps},lO ps->Lm.Wk ps
 | [],_=>trivial
 | p::t,r=>by
  refine {r.lt 0 p.1 p.2 rfl,λq f=>?_,uA (ps:=t) ⟨λk l h z=>r.lt (k+1) l h z,λk l h b g a e=>r.up (k+1) l h b g a e,λk l h z=>r.lo (k+1) l h z,by have:=r.few;rw [j9] at this;omega⟩}
  let (d,c,rfl):=y6 f
  refine r.far d 0 p.1 p.2 t[d].1 t[d].2 rfl ?_
  rw [show 0+1+d=d+1 by omega]
  show t[d]?=_
  rw [c7 c]
def Bi {H:Hp} {T:Addr} {pos:Pos} {q:Str} (h:H T=some (.tbl #[])):kC H T pos q:={#[],h,trivial,.inl rfl}
def oA {C:Addr} {H:Hp} {b c:Addr} (f:H b=none) (d:H c=none):aM H (aR (aR H c (.own b)) b (.ins C c [])):=λa o e=>by
 rw [aC (aD e f),aC (aD e d)]
 exact e
theorem hV:∀{l m:List Int},l.Nodup->(∀x ∈ l,x ∈ m)->l.length<=m.length
 | [],m,_,_=>i5 _
 | x::l,m,nd,h=>by
  let (d,c):=C0.mp nd
  have b:=h x (i0 ..)
  have:=hV (l:=l) (m:=m.erase x) c λy a=>(List.mem_erase_of_ne λz=>d (by rw [<- z];exact a)).mpr (h y (d0 _ a))
  rw [List.length_erase_of_mem b] at this
  have:0<m.length:=List.length_pos_of_mem b
  rw [j9]
  omega
theorem Mz:∀{a:Lm.Ps},(∀q ∈ a,q.2-q.1<=30)->(kQ a).length<=30 * a.length
 | [],_=>by decide
 | q::a,h=>by
  let e:kQ (q::a)=eZ q.1 (q.2-q.1).toNat++kQ a:=by unfold kQ;rw [List.flatMap_cons]
  let c:(eZ q.1 (q.2-q.1).toNat).length=(q.2-q.1).toNat:=by unfold eZ;rw [g7,z8]
  let f:=h q (i0 ..)
  let d:=Mz (a:=a) λr b=>h r (d0 _ b)
  rw [e,i7,c,j9]
  omega
def Wb {a d:Lm.Ps} (r:lO a) (sh:Lm.Sh d) (g:∀x,Lm.mem d x↔Lm.mem a x) (p:d.length<=a.length):Wg d:=by
 let i:=r.few;let b:∀q ∈ a,-1000000000000000000<q.1/\q.2<1000000000000000000/\q.2-q.1<=30:=λq c=>by
  let (k,o,e):=y6 c;exact r.lo k q.1 q.2 (by rw [c7 o,e])
 refine {sh,λx f=>?_,λl m h=>?_,∎}
 ·let (q,c,n,j):=(g x).mp f;have:=b q c;omega
 ·let n:=hV m λx f=>jA.mpr ((g x).mp (h x f));let j:=Mz λq c=>(b q c).2.2;omega
theorem fR:∀{a:Lm.Ps} {k:Nat} {c:Pc},c ∈ uF k a->∃q ∈ a,c.l=q.1/\c.h=q.2/\c.m=q.1/\c.o=none/\(k:Int)<=c.n/\c.n<(k:Int)+a.length
 | [],_,c,h=>by cases h
 | q::a,k,c,h=>by
  rcases g8.mp h with rfl|h
  ·exact {q,i0 ..,rfl,rfl,rfl,rfl,j0 _,by show (k:Int)<k+((a.length+1:Nat):Int);omega}
  ·let (r,b,e,d,g,f,i,j):=fR h
   exact {r,d0 _ b,e,d,g,f,∎,by rw [j9];omega}
theorem Lj:∀{a:Lm.Ps} {k:Nat} {q:Int × Int},q ∈ a->∃c ∈ uF k a,c.l=q.1/\c.h=q.2
 | q'::a,k,q,h=>by
  rcases g8.mp h with rfl|h
  ·exact {_,i0 ..,rfl,rfl}
  ·let (c,b,e):=Lj (k:=k+1) h
   exact {c,d0 _ b,e}
theorem zI:∀{a:Lm.Ps} {k:Nat},Lm.Wk a->(uF k a).Pairwise (λc e=>c.h<=e.l\/e.h<=c.l)
 | [],_,_=>G9
 | q::a,k,w=>v9.mpr ⟨λc f=>by
   let (r,b,d,g,_):=fR f
   exact .inl (by rw [d];exact w.2.1 r b),zI w.2.2⟩
theorem Lk:∀{a:Lm.Ps} {k:Nat},((uF k a).map Pc.n).Nodup
 | [],_=>List.nodup_nil
 | q::a,k=>by
  refine C0.mpr {λz=>?_,Lk (a:=a) (k:=k+1)}
  let (c,b,e):=w8.mp z
  let (_,_,_,_,_,_,d,_):=fR b
  have e:c.n=(k:Int):=e
  omega
def rZ (a:Lm.Ps):S8:=⟨a.length,0,0,uF 0 a,[],[],λ_=>0⟩
def Nj {a m:Lm.Ps} {sp:Int} (w:Lm.Wk a) (p:a.length<=4) (o:∀x,Lm.mem m x↔Lm.mem a x):Iv m sp (rZ a):=by
 refine {λc b=>?_,zI w,λx=>(o x).trans {?_,?_},λc b t e=>?_,?_,λx=>{(λz=>nomatch z),?_},Lk,λc b=>?_,{rfl,List.nodup_nil,by show 0<128;decide,(λx f=>nomatch f),(λx f=>nomatch f)},j0 _}
 ·let (q,d,i,h,s,_):=fR b;have:=Lm.Wk.lt w q d;omega
 ·rintro⟨q,d,i,h⟩;let (c,b,g,l):=Lj (k:=0) d;exact {c,b,∎,∎}
 ·rintro⟨c,b,i,h⟩;let (q,d,g,l,_):=fR b;exact {q,d,∎,∎}
 ·let (_,_,_,_,_,j,_):=fR b;rw [j] at e;cases e
 ·refine(zI w).imp_of_mem λ{x y} f _ _ t u g _=>?_;let (_,_,_,_,_,j,_):=fR f;rw [j] at g;cases g
 ·rintro⟨c,b,i,h⟩;let (q,d,g,l,r,_):=fR b;omega
 ·let (_,_,_,_,_,_,v,A):=fR b;exact { ∎,by show c.n<(a.length:Int);omega}
theorem Xl:∀{a:Lm.Ps},Lm.Wk a->((kQ a).length:Int)=Hk a
 | [],_=>rfl
 | q::a,w=>by
  let e:kQ (q::a)=eZ q.1 (q.2-q.1).toNat++kQ a:=by unfold kQ;rw [List.flatMap_cons]
  let b:(eZ q.1 (q.2-q.1).toNat).length=(q.2-q.1).toNat:=by unfold eZ;rw [g7,z8]
  let f:=w.1
  let d:=Xl w.2.2
  let c:Hk (q::a)=(q.2-q.1)+Hk a:=by unfold Hk;rw [r6,List.sum_cons]
  rw [e,i7,b,c]
  omega
def Pa {a:Lm.Ps} {ns:List Int} (w:Lm.Wk a) (c:ns.Nodup) (sub:∀x ∈ ns,Lm.mem a x):(ns.length:Int)=Hk a↔∀x,Lm.mem a x->x ∈ ns:=by
 let g:=Xl w;constructor
 ·intro e x f;refine Classical.byContradiction λd=>?_;have:=hV (l:=x::ns) (m:=kQ a) (C0.mpr {(d),c}) λy b=>jA.mpr ((g8.mp b).elim (λz=>z ▸ f) (sub y));rw [j9] at this;omega
 ·intro h;let j:=hV c λy b=>jA.mpr (sub y b);let i:=hV (Mu (Dj w)) λy b=>h y (jA.mp b);omega
inductive HJ (N:Cn) (H0:Hp) (acc:Addr) (i:Nat) (ys:List V) (H:Hp):Prop|mk (qs:List Addr) (rus:List (Rn × List Int)) (_:ys=qs.map V.ref) (_:qs.length=i) (_:rus.length=i) (_:aM H0 H) (_:∀q ∈ qs,H0 q=none) (_:∀(k l:Nat) q,qs[k]?=some q->qs[l]?=some q->k=l) (_:∀(k:Nat) q ru,qs[k]?=some q->rus[k]?=some ru->Hc N H q ru/\ru.1.tk=.non/\ru.2=[]) (_:H acc=some (.lst ys))
def Hc.mv {N:Cn} {H H':Hp} {q:Addr} {ru:Rn × List Int} (k:∀a o,H a=some o->(∀d,o≠.lst d)->H' a=some o) (h:Hc N H q ru):Hc N H' q ru:=by
 let (m,a,j,i,(d,f,e),p,l,n,r,g):=h;exact {m,a,k _ _ j (λ_ z=>nomatch z),k _ _ i (λ_ z=>nomatch z),{d,k _ _ f (λ_ z=>nomatch z),aK (λv q ⟨b,z1,z2⟩=>{b,z1,k _ _ z2 (λ_ z=>nomatch z)}) e},p,l,n,r,g}
def iE {α:Type} {l:List α} {x y:α} {k:Nat} (h:(l++[x])[k]?=some y):l[k]?=some y\/k=l.length/\y=x:=by
 by_cases z:k<l.length
 ·rw [w5 z] at h;exact .inl h
 ·rw [y7 ∎] at h;have:k-l.length<1:=(c8.mp h).1;let e:k=l.length:=∎;subst e;rw [Nat.sub_self] at h;exact .inr {rfl,(Option.some.inj h).symm}
def HJ.snoc {N:Cn} {v G H:Hp} {d g:Addr} {i:Nat} {ys:List V} {ru:Rn × List Int} (h:HJ N v d i ys G) (na:v d=none) (C:G g=none) (k:∀a o,G a=some o->H a=some o) (r:Hc N H g ru) (t:ru.1.tk=.non) (u:ru.2=[]):HJ N v d (i+1) (ys++[.ref g]) (aR H d (.lst (ys++[.ref g]))):=by
 let (s,y,rfl,O,L,E,X,J,D,T):=h;let F:∀a o,H a=some o->(∀U,o≠.lst U)->(aR H d (.lst (s.map V.ref++[.ref g]))) a=some o:=λa o e n=>by
  rw [aC (aL e (k _ _ T) (n _))];exact e
 let p:∀{j:Nat} {q:Addr},s[j]?=some q->q≠g:=λ{j q} m=>by
  let (dq,a,Q,_):=(D j q _ m (c7 (by have:=(c8.mp m).1;omega))).1;exact aD Q C
 refine {s++[g],y++[ru],by rw [n6];rfl,by rw [i7,O];rfl,by rw [i7,L];rfl,λa o e=>?_,λq m=>?_,λj l q Y Z=>?_,λj q W m A=>?_,aB}
 ·rw [aC (aD e na)];exact k _ _ (E _ _ e)
 ·rcases j1.mp m with z|z
  ·exact X q z
  ·rw [l6.mp z];exact E.free C
 ·rcases iE Y with a|⟨a,b⟩ <;> rcases iE Z with f|⟨f,B⟩
  ·exact J j l q a f
  ·exact absurd B (p a)
  ·exact absurd b (p f)
  ·omega
 ·rcases iE m with a|⟨a,b⟩ <;> rcases iE A with f|⟨f,B⟩
  ·let (I,M,S):=D j q W a f;exact {(I.mv λx o e _=>k x o e).mv F,M,S}
  ·have:=(c8.mp a).1;omega
  ·have:=(c8.mp f).1;omega
  ·subst b B;exact {r.mv F,t,u}
structure Ro where
 r:Addr
 r1:Addr
 ln:Addr
 ys:List V
 xs:List V
 ds:Lm.Ps
 s:S8
 ls:List Ln
 l:Int
 dn:Int
 ov:Int
 t:Nat
structure yD (M:Pm) (a:Lm.Ps) (H:Hp) (o:Ro):Prop where
 hr:H o.r=some (.tup [if o.l=0 then .int o.t else .non,.int o.dn,.int o.ov,.ref o.r1,.ref o.ln])
 hl:H o.ln=some (.lst o.ys)
 lp:Paired (mY H) o.ys o.ls
 h1:H o.r1=some (.lst o.xs)
 it:Paired (uU o.s.vf H) o.xs o.ds
 sh:Lm.Sh o.ds
 mm:∀x,Lm.mem o.ds x↔x ∈ o.s.ns
 tr:Tr M (rZ a) o.ls o.s
 tot:o.l+o.s.ns.length=Hk a
 la:o.t=0\/0<o.l\/∃l,o.ls.getLast?=some l/\l.i=o.t
 few:o.ls.length<=2520
def Kk (H H':Hp):Prop:=∀a o,H a=some o->Ki o=true->H' a=some o
inductive BN (N:Cn) (fD:Addr) (vs:List V) (H:Hp) (Q:VK) (E0_:XK):Prop|mk (q pl:Addr) (a:Lm.Ps) (sp ev le:Int) (xs:List V) (zs:List Pn) (tt:Nat) (_:vs=[.ref q,.int sp,.int ev,.int le,.ref pl,.ref fD,.int tt]) (_:bN H q a) (_:lO a) (_:1<=sp) (_:1<=ev) (_:ev<=4) (_:ev<=le) (_:H pl=some (.tup xs)) (_:Paired (qU H) xs zs) (_:(zs.map Pn.x).Nodup) (_:xs.length<=12) (_:tt<=70) (_:kC H N.T1 lJ gC) (_:kC H N.T2 uG kK)
 (_:∀(ws:Lm.Ps) (o:Ro) (H':Hp),Kk H H'->kC H' N.T1 lJ gC->kC H' N.T2 uG kK->Lm.Sh ws->(∀x,Lm.mem ws x↔Lm.mem a x)->yD ⟨sp,ev,le,ws⟩ a H' o->Q (.ref o.r) H')
def DZ (N:Cn) (fD:Addr):Sp:=BN N fD
section
variable {P:Program} {w:World} {K:Frag} {mg:Str->Option Value} {base:Heap} {N:Cn} {c:Nat->Addr}
def Wh:aJ ["work","span","every","least","plan","doing","ticks","book","course","ended"] ["work","span","every","least","plan","doing","ticks"] (aG ER):={rfl,rfl,rfl,⋯,rfl,⋯,⋯}
def AB {fD:Addr} (hD:mg "_law_result"=some (.ref fD)) (nT:N.T1≠N.T2) (W:Wd P w K mg base N c):jM P w K mg base cX "run" 11 (DZ N fD):=W.d22.of λF=>by
 let (_,_,_,GI,bI,MK):=(wQ W).mk' W.iB 9
 let (_,_,_,GC,bC,MC):=(Mn W).mk' W.iC 9
 let (_,_,_,GR,bR,MR):=(Ma W).mk' W.iR 9
 refine F.ok Wh (λvs H Q E h=>?_) (λbg A am s H vs Q E T h=>?_)
 ·let (q,pl,a,sp,ev,S,O,zs,tt,rfl,_):=h
  rfl
 ·intro X D
  let (q,pl,a,sp,ev,S,O,zs,tt,rfl,hw,M,b1,b2,b3,b4,a4,hp,ba,lx,lt,ao,au,k):=h
  let nd:=Wh.nd
  let sl:sizeLine=16777216:=sizeLine_eq
  let az:=M.few
  let wk:=uA M
  refine Wp.ex (cF (n:=7) nd rfl {_,jU MK GI T rfl W.B.mgC bI .nil aN dE,Av.to (vs:=[.ref q,.int sp,.int ev,.int S]) (by symm) _ λb dx nb as _=>?_})
  let s1:=oA (C:=N.CB) nb as
  let e1:(aR (aR H dx (.own b)) b (.ins N.CB dx [])) b=some (.ins N.CB dx []):=aB
  generalize aR (aR H dx (.own b)) b (.ins N.CB dx [])=H1 at s1 e1 ⊢
  refine {b,dx,q,a,sp,ev,S,rfl,e1,hw.same s1,wk,∎,∎,∎,∎,∎,λsh a5 sd d ws ps H2 k2 _ _ b9 S2 aa I ap _ B2=>?_}
  refine {rfl,?_}
  let s2:aM H H2:=λx o e=>k2 x o (s1 _ _ e) (aD e nb)
  let g2:Go N {(sp),ev,S,ws} H2 {(b),q,sh,d,a5,sd,ps} (rZ a):={{B2,S2,ao.same s2,au.same s2,b9.symm,nT},Nj wk az I,Wb M aa I ap,by show 1<=S;omega,b2}
  let af:Paired (qU H2) O zs:=aK (λ_ _ ⟨y,e,z⟩=>{y,e,z.same s2}) hp
  refine nF (fH (vs:=[.ref pl]) (uK W) T aN (by symm) {pl,O,zs,rfl,s2 _ _ a4,∎,af,ba,λH3 s3=>?_})
  refine nF (fH (vs:=[.int tt]) (Lw W) T aN (by symm) {tt,rfl,∎,∎,?_})
  let a2:=s2.trans s3
  refine cF (n:=8) nd rfl {_,jU MC GC T rfl W.Q.mgC bC .nil aN (aA (pv 7) (aA (pv 5) (aA (aS (Sw W) T aN (aA (pv 0) aE)) aE))),?_}
  refine {_,rfl,_,rfl,_,rfl,q,a,rfl,hw.same a2,wk,∎,λH4 s4=>?_}
  intro p j np aw _
  let s5:=oA (C:=N.CC) np aw
  let e5:(aR (aR H4 j (.own p)) p (.ins N.CC j [])) p=some (.ins N.CC j []):=aB
  let n5:∀x,(aR (aR H4 j (.own p)) p (.ins N.CC j [])) x=none->H4 x=none:=λx=>s5.free
  generalize aR (aR H4 j (.own p)) p (.ins N.CC j [])=H5 at s5 e5 n5 ⊢
  refine {p,j,b,.ref fD,_,rfl,e5,λln H6 ax k6 ac ai=>{rfl,?_}}
  let b0:aM H4 H6:=λx o e=>k6 _ _ (s5 _ _ e) (aD e np)
  let Z:aM H2 H6:=s3.trans (s4.trans b0)
  let s6:aM H H6:=s2.trans Z
  let ak:Paired (qU H6) O zs:=aK (λ_ _ ⟨y,e,z⟩=>{y,e,z.same Z}) af
  refine cF (n:=9) nd rfl {_,bE (pv 8) W.Q.cl (FC hD W) T aN (aA (dM (NB:=["worker","pace","silences"]) (n:=3) (js:=[]) (g:=Gf K 3 (hZ (cS 0) (hZ (cS 1) (hZ (cS 2) Gg)))) (cl:=[]) rfl ⋯ ⋯ rfl (mZ.all {(rfl),rfl,rfl,rfl}).2.2.2.1 (fY (pv 4))
      (λC s H fp pn=>fZ (n:=3) rfl (bH (aW (i:=0) Fm rfl (j5 rfl) (.inr rfl)) (bH (aW (i:=1) Fm rfl (j5 rfl) (.inr rfl)) (bH (aW (i:=2) Fm rfl (j5 rfl) (.inr rfl)) eO)))) (λC s H fp pn=>eC)
      (λC s H fp pn=>jU MR GR (by exact T) (by rfl) W.R.mgC bR .nil aN (aA (pv 0) (aA (pv 1) (aA (pv 2) aE))))) (aA (pv 6) aE)),?_}
  refine {_,rfl,p,j,_,rfl,ai,rfl,_,rfl,pl,rfl,{_,cA.of (s6 _ _ a4)},λag v=>?_}
  refine {λi m ys H'=>m=O.length-i/\i<=O.length/\HJ N H6 ag i ys H',{_,rfl,i5 _,[],[],rfl,rfl,rfl,aI v,(λ_ z=>nomatch z),(λ_ _ _ z=>nomatch z),(λ_ _ _ z=>nomatch z),aB},?_}
  rintro i m ys H7 ⟨rfl,hi,R⟩
  let (Y,a3,rfl,lq,lr,s7,fr,b6,rn,a1):=id R
  refine {a1,?_}
  let L:=s7 _ _ (s6 _ _ a4)
  by_cases a8:i<O.length
  ·refine .inr {{_,_,cA.of L,c7 a8},?_}
   rintro y G ⟨rfl,hy⟩
   let ey:=hy _ (cA.of L)
   let (z,ez,t,rfl,et,wx,sx,p1,p2,hz,wz,lz):=aQ ak ey
   refine {t,_,rfl,cA.of (s7 _ _ et),rfl,_,_,rfl,_,_,rfl,_,_,rfl,rfl,?_}
   refine {rfl,eM (cW ?_)}
   refine {_,rfl,_,rfl,_,rfl,λrp f a0 ae _=>?_}
   let s8:=oA (C:=N.CR) a0 ae
   let e8:(aR (aR G f (.own rp)) rp (.ins N.CR f [])) rp=some (.ins N.CR f []):=aB
   generalize aR (aR G f (.own rp)) rp (.ins N.CR f [])=H8 at s8 e8 ⊢
   refine {rp,f,z.q,z.x,z.pc,z.a,rfl,e8,(hz.same s7).same s8,wz,lz,λav un bb H9 k9 a9 ar b5=>{rfl,?_}}
   let s9:∀x o,G x=some o->H9 x=some o:=λx o e=>k9 _ _ (s8 _ _ e) (aD e a0)
   refine {s9 _ _ a1,by rw [g7];omega,O.length-(i+1),∎,rfl,a8,R.snoc (ru:=({z.x,z.pc,av,0,false,.non,0,0,un},[])) v a0 s9 {f,bb,b5,ar,a9,j0 _,by show (0:Int)<=_;omega,p1,wx,sx} rfl rfl}
  ·refine .inl {{_,cA.of L,∎},?_}
   let ei:i=O.length:=∎
   subst ei
   let b7:=s7 _ _ ai
   let aq:=Z.trans s7
   let tk:∀{k:Nat} {ru:Rn × List Int},a3[k]?=some ru->ru.1.tk=.non/\ru.2=[]:=λ{k ru} e=>by
    let hk:=(c8.mp e).1
    exact(rn k _ ru (c7 ∎) e).2
   let al:Wa N {{(sp),ev,S,ws},fD,Hk a,p,j,Y} 1 0 {H7,{b,.ref fD,Hk a,0,0,ln,0},{(b),q,sh,d,a5,sd,ps},rZ a,[],[],a3}:=
    {b7,rfl,rfl,s7 _ _ ac,.nil,g2.same aq,by show (0:Int)<=1;decide,Int.add_zero _,b3,b4,b1,by rw [lr,lq],b6,λk q ru h1 h2=>(rn k q ru h1 h2).1,λk l x y hx hy _ t et=>(by rw [(tk hx).1] at et;cases et),λk ru h=>.inl (tk h)}
   let bh:Y.length * tt<=12 * 70:=Nat.mul_le_mul ∎ lt
   refine {_,rfl,{{(sp),ev,S,ws},fD,Hk a,p,j,Y},ag,tt,{H7,{b,.ref fD,Hk a,0,0,ln,0},{(b),q,sh,d,a5,sd,ps},rZ a,[],[],a3},rfl,rfl,rfl,a1,(aD ac v).symm,al,rfl,by show 3 * (Y.length * tt)+3<=4000;omega,by show Y.length<=1000;omega,λt y ht gl u la=>?_}
   let (nw,a6,tr,_,ah):=gl.tr
   let (bi,ea):=gl.ad
   let eb:y.A.b=b:=by rw [ea]
   let be:y.co.ln=ln:=gl.ln
   let (db,a7):=u.go.bv.bk.ob
   let U:=a7
   rw [eb] at U
   let bd:Y.length * t<=Y.length * tt:=Nat.mul_le_mul_left _ ht
   refine {_,aH (bB (cE (aA (pv 9) (aA (aV (pv 8) rfl) (aA (aV (pv 8) rfl) (aA (bT (pv 7) W.B.cl (wR W) T aN) (aA (aV (pv 8) rfl) aE))))))),?_}
   refine {_,rfl,_,rfl,p,N.CC,j,_,_,rfl,u.hp,W.Q.cl,W.Q.nN,rfl,_,rfl,p,N.CC,j,_,_,rfl,u.hp,W.Q.cl,W.Q.nO,rfl,_,rfl,b,db,_,rfl,U,rfl,y.s.vf,y.A.b,y.A.pw,y.A.sh,y.A.d,y.A.pw',y.A.d',sp,ev,S,y.s.nn,y.s.nt,y.s.mo,ws,y.s.kv,by rw [eb];rfl,{(db),a7},u.go.bv.st,y.A.sh,y.A.pw',y.A.d',ws,y.s.kv,y.s.ns,rfl,u.go.bv.st,u.go.iv.hd,λr1 ds us H8 s8 _ an b8 aj bc _=>?_}
   refine {_,rfl,p,N.CC,j,_,_,rfl,s8 _ _ u.hp,W.Q.cl,W.Q.nI,rfl,by show 5<=sizeLine;omega,λr nr=>?_}
   let s9:=aI (o:=.tup [if y.co.l=0 then .int t else .non,.int y.co.dn,.int y.co.ov,.ref r1,.ref y.co.ln]) nr
   let J:=s8.trans s9
   refine k ws {(r),r1,y.co.ln,y.ys,us,ds,y.s,y.ls,y.co.l,y.co.dn,y.co.ov,t} _ (λx o e ki=>J _ _ (gl.kr x o (s7 _ _ (s6 _ _ e)) ki ?_ ?_ λz=>?_)) ((u.go.bv.t1).same J) ((u.go.bv.t2).same J) aa I {aB,J _ _ u.hl,aK (λ_ _ z=>z.tup λx O e=>J _ _ e) u.lp,s9 _ _ an,aK (λ_ _ ⟨b,c,e,h1,h2⟩=>{b,c,e,s9 _ _ h1,s9 _ _ h2}) b8,aj,bc,?_,u.tot,la,?_}
   ·exact aD ((a2.trans s4) _ _ e) np
   ·exact aD ((a2.trans s4) _ _ e) (n5 _ ax)
   ·have:=fr x z
    rw [s6 _ _ e] at this
    cases this
   ·show Tr _ _ y.ls y.s
    rw [a6]
    exact tr
   ·show y.ls.length<=2520
    rw [a6]
    let ah:nw.length<=3 * (Y.length * t):=ah
    show nw.length<=2520
    omega
abbrev dN:List Str:=["a","ab","b","abc","c","done","lent","none","z","zz","m","told"]
theorem Bc:∀{ps:Lm.Ps} {a l h:Int},Lm.Wk ps->(∀q ∈ ps,q.2<=a)->a<=l->l<h->Lm.Wk (ps++[(l,h)])
 | [],a,l,h,_,_,_,h2=>{h2,λq hq=>absurd hq (by simp),trivial}
 | p::t,a,l,h,w,hl,h1,h2=>by
  refine {w.1,λq hq=>?_,Bc w.2.2 (λq hq=>hl q (d0 _ hq)) h1 h2}
  rcases j1.mp hq with hq|hq
  ·exact w.2.1 q hq
  ·rw [l6] at hq
   subst hq
   have:=hl p i0
   exact v8 this h1
def bP.on {H H':Hp} {xs:List V} {ps:Lm.Ps} (k:∀b a,H b=some (.tup a)->H' b=some (.tup a)) (h:bP H xs ps):bP H' xs ps:=aK (λv q ⟨b,z1,z2⟩=>{b,z1,k _ _ z2}) h
theorem qU.on {H H':Hp} {v:V} {z:Pn} (k:∀b d,H b=some (.tup d)->H' b=some (.tup d)) (h:qU H v z):qU H' v z:=by
 let (b,e,j,i,o,l,n,(m,p,a),g,f):=h;exact {b,e,k _ _ j,i,o,l,n,{m,k _ _ p,a.on k},g,f}
def EX (x:Str) (a:x ∈ dN):eH x/\PyData.strOk x=true:=by
 let h:=F7.mp (show (dN.all λx=>(HN x && x.cps.all (·<128)) && PyData.strOk x)=true by decide +kernel) x a;rw [B4,B4] at h;exact {CU h.1.1 h.1.2,h.2}
inductive Pq (H0:Hp) (lx lf:Addr) (xs:List Int) (i:Nat) (H:Hp):Prop|mk (vs:List V) (zs:List Pn) (_:H lx=some (.lst (xs.map V.int))) (_:aM H0 H) (_:H lf=some (.lst vs)) (_:Paired (qU H) vs zs) (_:zs.map Pn.x=dN.take i) (_:zs.length=i)
inductive Pi (vs:List V) (H:Hp) (Q:VK) (E0_:XK):Prop|mk (c:Int) (_:vs=[.int c]) (_:∀(r:Addr) (xs:List V) (zs:List Pn) (H':Hp),aM H H'->H' r=some (.tup xs)->Paired (qU H') xs zs->(zs.map Pn.x).Nodup->xs.length<=12->Q (.ref r) H')
def Qw:Sp:=Pi
def Jd:aJ ["_law_cell","_law_xs","_law_found","_law_k","_law_low","_law_silences","_law_j","_law_high","_law_pace","_law_name"] ["_law_cell"] (aG Wt):={rfl,rfl,rfl,⋯,rfl,⋯,⋯}
def Sy (W:Wd P w K mg base N c):jM P w K mg base cX "_law_plan" 2 Qw:=W.d23.of λF=>by
 refine F.ok Jd (λvs H Q E h=>?_) (λam A ag s H vs Q E hr h=>?_)
 ·let (c,rfl,_):=h
  rfl
 ·intro X D
  let (c,rfl,q):=h
  let I:=Jd.nd
  refine Wp.ex (cF (n:=1) I rfl (fH (vs:=[.int c,.int 50]) (pN W) hr aN (by symm) {c,50,rfl,by decide,λlx f H1 s1 hx ap hX=>?_}))
  let pn:∀k:Nat,(hk:k<50)->kB (f.map V.int) (k:Int)=some (.int (f[k]'∎)):=λk hk=>wF ∎
  let p0:kB (f.map V.int) 0=some (.int f[0]):=pn 0 (by decide)
  refine lT (n:=2) I rfl mU (i5 _) λu H3 hf s3 ef=>?_
  let ai:lx≠u:=aD hX hf
  let Hf:H u=none:=s1.free hf
  let (z1,m1,e1):=pF (ns:=[1,2,3,4,2,0,3,12]) (i:=f[0] % 8) (y4 _ (by decide)) (x8 _ (by decide))
  let b1:0<=z1/\z1<=12:=(by decide:∀z ∈ ([1,2,3,4,2,0,3,12]:List Int),0<=z/\z<=12) z1 m1
  refine lS (n:=3) v4 W.G.range I rfl (eF (vs:=[.int 1,.int 2,.int 3,.int 4,.int 2,.int 0,.int 3,.int 12]) (by symm) (by show 8<=1000;decide) (λH' C=>?_) e1 λH4 s4=>{z1,λi σ H5=>(∃u3 u4 u5 u6 u7 u8 u9,σ=[some (.int c),some (.ref lx),some (.ref u),u3,u4,u5,u6,u7,u8,u9])/\Pq H lx u f i H5,rfl,∎,{{_,_,_,_,_,_,_,rfl},[],[],s4 _ _ (s3 _ _ hX),s1.trans (s3.trans s4),s4 _ _ ef,.nil,rfl,rfl},λi σ H5 D' hi h T=>?_,λσ H5 h=>?_})
  ·have:=C _ _ (s3 _ _ hX)
   symm
  ·let ((u3,u4,u5,u6,u7,u8,u9,rfl),vs,zs,a4,s5,L,pr,a5,ln):=h
   let a:i<12:=∎
   let p1:kB (f.map V.int) ((1:Int)+4 * (0+(i:Int)))=some (.int f[1+4 * i]):=by rw [show (1:Int)+4 * (0+(i:Int))=((1+4 * i:Nat):Int) by omega];exact pn _ ∎
   let p2:kB (f.map V.int) ((2:Int)+4 * (0+(i:Int)))=some (.int f[2+4 * i]):=by rw [show (2:Int)+4 * (0+(i:Int))=((2+4 * i:Nat):Int) by omega];exact pn _ ∎
   let p3:kB (f.map V.int) ((3:Int)+4 * (0+(i:Int)))=some (.int f[3+4 * i]):=by rw [show (3:Int)+4 * (0+(i:Int))=((3+4 * i:Nat):Int) by omega];exact pn _ ∎
   let p4:kB (f.map V.int) ((4:Int)+4 * (0+(i:Int)))=some (.int f[4+4 * i]):=by rw [show (4:Int)+4 * (0+(i:Int))=((4+4 * i:Nat):Int) by omega];exact pn _ ∎
   generalize f[1+4 * i]=x1 at p1
   generalize f[2+4 * i]=x2 at p2
   generalize f[3+4 * i]=x3 at p3
   generalize f[4+4 * i]=x4 at p4
   show 4
   refine lT (n:=5) I rfl mU (i5 _) λls H6 hs s6 es=>?_
   let aa:lx≠ls:=aD a4 hs
   let af:u≠ls:=aD L hs
   let Hs:H ls=none:=s5.free hs
   let a3:=s6 _ _ a4
   let (z2,m2,e2):=pF (ns:=[0,1,2,3,1]) (i:=x1 % 5) (y4 _ (by decide)) (x8 _ (by decide))
   let b2:0<=z2/\z2<=3:=(by decide:∀z ∈ ([0,1,2,3,1]:List Int),0<=z/\z<=3) z2 m2
   refine lS (n:=6) v4 W.G.range I rfl (eF (vs:=[.int 0,.int 1,.int 2,.int 3,.int 1]) (by symm) (by show 5<=1000;decide) (λH' C=>?_) e2 λH7 s7=>{z2,λj σ O=>∃(d:Int) (r:List V) (B:Lm.Ps) (u6 u7 u8 u9:Option V),σ=[some (.int c),some (.ref lx),some (.ref u),some (.int (0+(i:Int))),some (.int d),some (.ref ls),u6,u7,u8,u9]/\(∀b o,H6 b=some o->b≠ls->O b=some o)/\O ls=some (.lst r)/\bP O r B/\Lm.Wk B/\(∀q ∈ B,q.2<=d)/\B.length=j,rfl,∎,{0,[],[],_,_,_,_,rfl,λb o e _=>s7 _ _ e,s7 _ _ es,.nil,trivial,(λq hq=>nomatch hq),rfl},λj σ O an hj h T2=>?_,λσ O h=>?_})
   ·have:=C _ _ a3
    symm
   ·let (d,r,B,u6,u7,u8,u9,rfl,k8,Z,pp,wk,m,a8):=h
    let y:=k8 _ _ a3 aa
    let ao:j<3:=∎
    let (z4,m4,e4):=pF (ns:=[1,9,81]) (i:=0+(j:Int)) ∎ (by show _<((3:Nat):Int);omega)
    let b4:1<=z4/\z4<=81:=(by decide:∀z ∈ ([1,9,81]:List Int),1<=z/\z<=81) z4 m4
    let (z5,m5,e5):=pF (ns:=[4,9,9]) (i:=0+(j:Int)) ∎ (by show _<((3:Nat):Int);omega)
    let b5:4<=z5/\z5<=9:=(by decide:∀z ∈ ([4,9,9]:List Int),4<=z/\z<=9) z5 m5
    let (z6,m6,e6):=pF (ns:=[1,8,64]) (i:=0+(j:Int)) ∎ (by show _<((3:Nat):Int);omega)
    let b6:1<=z6/\z6<=64:=(by decide:∀z ∈ ([1,8,64]:List Int),1<=z/\z<=64) z6 m6
    refine cF (n:=4) I rfl {_,cI eR aP (cI iY (cI pJ aP aP) aP),?_}
    refine Vl.to (v:=.int d) (by symm) _ (Vl.to (v:=.int x2) (by symm) _ (eF (vs:=[.int 1,.int 9,.int 81]) (by symm) (by show 3<=1000;decide) (λH' C=>by symm) e4 λH9 s9=>{_,_,rfl,rfl,{ ∎,∎},eF (vs:=[.int 4,.int 9,.int 9]) (by symm) (by show 3<=1000;decide) (λH' C=>by symm) e5 λa2 a0=>{_,_,rfl,rfl,∎,_,_,rfl,rfl,?_}}))
    let q1:0<=x2 / z4 % z5:=y4 _ ∎
    generalize x2 / z4 % z5=d1 at q1 ⊢
    let Y:=s9.trans a0
    let ak:=Y _ _ y
    refine cF (n:=7) I rfl {_,cI eR aP (cI iY (cI pJ aP aP) aP),?_}
    refine Vl.to (v:=.int (d+d1+1)) (by symm) _ (Vl.to (v:=.int x3) (by symm) _ (eF (vs:=[.int 1,.int 8,.int 64]) (by symm) (by show 3<=1000;decide) (λH' C=>by symm) e6 λa1 g=>{_,_,rfl,rfl,{ ∎,∎},Vl.to (v:=.int 8) (by symm) _ {_,_,rfl,rfl,(by decide),_,_,rfl,rfl,?_}}))
    let q2:0<=x3 / z6 % 8:=y4 _ ∎
    generalize x3 / z6 % 8=d2 at q2 ⊢
    let g:=Y.trans g
    let U:=g _ _ Z
    refine gD (vs:=[.int (d+d1),.int (d+d1+1+d2)]) (by symm) (by symm) U (by have:=Paired.length pp;omega) (by show 2<=1000;decide) (λt J nt ae aj ah=>?_) rfl (iX PySem.F.plainAttrs_list PySem.F.slot_list_append PySem.F.type_list_append cV aP (aA (cE dE) aE))
    show 4
    refine bX (T2.nx _ _ {d+d1+1+d2,r++[.ref t],B++[(d+d1,d+d1+1+d2)],_,_,_,_,rfl,λb o e n=>ae _ _ (g _ _ (k8 _ _ e n)) n,aj,?_,Bc wk m ∎ ∎,λq hq=>?_,by rw [i7,a8];rfl})
    ·refine Paired.snoc (bP.on (λb M e=>ae _ _ (g _ _ e) (aL (g _ _ e) U (by intro w;cases w))) pp) {(t),rfl,ah}
    ·rcases j1.mp hq with z|z
     ·have:=m q z
      omega
     ·rw [l6.mp z]
      exact j0 _
   ·let (d,r,B,u6,u7,u8,u9,rfl,k8,Z,pp,wk,m,a8):=h
    let y:=k8 _ _ a3 aa
    let a7:=k8 _ _ (s6 _ _ L) af
    let s8:aM H O:=λb o e=>k8 _ _ (s6 _ _ (s5 _ _ e)) (aD e Hs)
    let ad:Paired (qU O) vs zs:=aK (λ_ _ z=>z.on λb M e=>k8 _ _ (s6 _ _ e) (aD e hs)) pr
    let r4:1<=1+x4 / 8 % 9/\1+x4 / 8 % 9<=1000:=∎
    let (z7,m7,e7):=pF (ns:=[1,2,3,1+x4 / 8 % 9,1000]) (i:=x4 % 5) (y4 _ (by decide)) (x8 _ (by decide))
    let b7:1<=z7/\z7<=1000:=by
     simp only [g8,O9,or_false] at m7;omega
    refine cF (n:=8) I rfl (eF (vs:=[.int 1,.int 2,.int 3,.int (1+x4 / 8 % 9),.int 1000]) (by symm) (by show 5<=1000;decide) (λH' C=>?_) e7 λH9 s9=>?_)
    ·have:=C _ _ y;symm
    let e8:kB (dN.map V.str) (0+(i:Int))=some (.str (dN[i]'a)):=by
     rw [Int.zero_add];exact bW (by rw [i8,c7 a];rfl)
    refine cF (n:=9) I rfl (eF (vs:=dN.map V.str) (by symm) (by show 12<=1000;decide) (λH' C=>by symm) e8 λa2 a0=>?_);let a6:=s9.trans a0;let a9:=a6 _ _ a7;let ac:=a6 _ _ Z;refine {_,aH (cJ (iX PySem.F.plainAttrs_list PySem.F.slot_list_append PySem.F.type_list_append cV (pv 2) (aA (cE (aA (pv 9) (aA (pv 8) (aA (dH cT (by rfl) W.G.tuple eV (aA (pv 5) aE)) aE)))) aE))),?_};refine {_,rfl,.inl {rfl,_,dD.of a9},_,rfl,_,rfl,_,rfl,ls,r,rfl,.inl {dD.of ac,λp np=>?_}};let sp:=aI (o:=.tup r) np;let ep:(aR a2 p (.tup r)) p=some (.tup r):=aB;generalize aR a2 p (.tup r)=a1 at sp ep ⊢;refine {by show 3<=sizeLine;rw [sizeLine_eq];decide,λb nb=>?_};let sb:=aI (o:=.tup [.str (dN[i]'a),.int z7,.ref p]) nb;let eb:(aR a1 b (.tup [.str (dN[i]'a),.int z7,.ref p])) b=_:=aB;let ep:=sb _ _ ep;let sT:=a6.trans (sp.trans sb);generalize aR a1 b (.tup [.str (dN[i]'a),.int z7,.ref p])=J at sb eb ep sT ⊢;let al:vs.length=zs.length:=ad.length;let S:=sT _ _ a7;refine {u,_,_,rfl,rfl,S,gU ∎,?_};let kt:∀x M,J x=some (.tup M)->(aR J u (.lst (vs++[.ref b]))) x=some (.tup M):=λx M e=>by
     rw [aC (aL e S (by intro w;cases w))];exact e
    let k:∀x M,O x=some (.tup M)->(aR J u (.lst (vs++[.ref b]))) x=some (.tup M):=λx M e=>kt _ _ (sT _ _ e);let po:=EX _ (List.getElem_mem (l:=dN) (n:=i) a);refine T.nx _ _ {{_,_,_,_,_,_,_,rfl},vs++[.ref b],zs++[{dN[i]'a,z7,p,B}],?_,λx o e=>?_,aB,Paired.snoc (aK (λ_ _ z=>z.on k) ad) {b,rfl,kt _ _ eb,po.1,po.2,b7.1,b7.2,{r,kt _ _ ep,bP.on k pp},wk,by show B.length<=1000;omega},?_,by rw [i7,ln];rfl}
    ·rw [aC ai];exact sT _ _ y
    ·rw [aC (aD e Hf)];exact sT _ _ (s8 _ _ e)
    ·rw [n6,a5];show dN.take i++[dN[i]'a]=dN.take (i+1);rw [List.take_succ_eq_append_getElem]
  ·let ((u3,u4,u5,u6,u7,u8,u9,rfl),vs,zs,a4,s5,L,pr,a5,ln):=h;refine fI {_,dH cT (by rfl) W.G.tuple eV (aA (pv 2) aE),?_};refine {_,rfl,u,vs,rfl,.inl {dD.of L,λp hp=>?_}};let sp:=aI (o:=.tup vs) hp;refine q p vs zs _ (s5.trans sp) aB (aK (λ_ _ ⟨b,e,z⟩=>{b,e,z.same sp}) pr) ?_ (by have:=pr.length;omega);rw [a5];exact List.Sublist.nodup (N5 _ _) ⋯
section
variable {ws:Lm.Ps} {sp:Int} {s:S8} {M:Pm}
def Iv.best {S:Pc->Bool} {i j:Nat} {c e:Pc} (h:Iv ws sp s) (l:s.cs[i]?=some c) (f:s.cs[j]?=some e) (a:lQ S s.cs c) (b:lQ S s.cs e):i=j/\c=e:=by
 let g:=a.2.2 e b.1 b.2.1;let d:=b.2.2 c a.1 a.2.1;unfold kE Pc.k at g d;dsimp only at g d;have:=h.oneLow l f ∎;subst this;exact {rfl,Option.some.inj (l.symm.trans f)}
def Db {cs:List Pc} {i:Int} {c:Pc} (b:∀c ∈ cs,c.free=false) (h2:∀c ∈ cs,c.late i=false) (a:Vz cs i c):False:=by
 rcases a with a|⟨_,a⟩
 ·exact absurd a.2.1 (by rw [b c a.1];exact Bool.noConfusion)
 ·exact absurd a.2.1 (by rw [h2 c a.1];exact Bool.noConfusion)
def Iv.ch {k j:Nat} {c e:Pc} {i:Int} (h:Iv ws sp s) (d:s.cs[k]?=some c) (f:s.cs[j]?=some e) (a:Vz s.cs i c) (b:Vz s.cs i e):k=j/\c=e:=by
 rcases a with a|⟨l,a⟩ <;> rcases b with b|⟨g,b⟩
 ·exact h.best d f a b
 ·exact absurd a.2.1 (by rw [g c a.1];exact Bool.noConfusion)
 ·exact absurd b.2.1 (by rw [l e b.1];exact Bool.noConfusion)
 ·exact h.best d f a b
def Sc.det (h:Iv ws sp s) {d:Dd} {o o':To} {f e:S8} (a:Sc M s d o f) (b:Sc M s d o' e):o'=o/\e=f:=by
 cases a with
 | lendN a1 a2=>
  cases b with
  | lendN _ _=>exact {(rfl),rfl}
  | lendP _ _ b2=>exact(Db a2.1 a2.2.1 b2).elim
  | lendC _ _ _ _ b4 b5 _=>have:=a2.2.2 _ b4;omega
 | lendP a1 a2 a3=>
  cases b with
  | lendN _ b2=>exact(Db b2.1 b2.2.1 a3).elim
  | lendP _ b2 b3=>
   let (rfl,rfl):=h.ch a2 b2 a3 b3;exact {(rfl),rfl}
  | lendC _ b1 b2 _ _ _ _=>exact(Db b1 b2 a3).elim
 | lendC a1 a2 a3 a4 a5 a6 a7=>
  cases b with
  | lendN _ b2=>have:=b2.2.2 _ a5;omega
  | lendP _ _ b3=>exact(Db a2 a3 b3).elim
  | lendC _ _ _ b4 b5 _ b7=>
   let (rfl,rfl):=h.best a4 b4 a5 b5;subst a7 b7;exact {(rfl),rfl}
 | tell a1 a2 a3 a4 a5 a6 a7 a8=>
  cases b with
  | tell _ b2 b3 _ _ _ _ b8=>
   have:=h.oneTk a2 b2 a3 b3;subst this;cases Option.some.inj (a2.symm.trans b2);subst a8 b8;exact {(rfl),rfl}
theorem Sc.mo {d:Dd} {o:To} {b:S8} (a:Sc M s d o b):match d with | .lend _ i=>s.mo<=i | .tell _ _ i _=>s.mo<=i:=by
 cases a <;> assumption
end
def Xk:Option (Int × Str × Int)->PyData
 | none=>.none
 | some t=>.tuple [.int t.1,.str t.2.1,.int t.2.2]
def Zo (c:Pc):PyData:=.tuple [.int c.n,.int c.l,.int c.h,.int c.m,Xk c.o]
def Kq {K:Frag} {H:Hp} {a:V} {o:Option (Int × Str × Int)} (h:kF H a o):rF K H a (Xk o):=by
 cases a <;> cases o <;> first|exact h.elim|skip
 ·exact .non
 ·exact .tup (cA.of h) (.cons (.int _) (.cons (.str _) (.cons (.int _) .nil)))
def zD {K:Frag} {H:Hp} {a:List V} {cs:List Pc} (p:Paired (iD H) a cs):Au K H a (cs.map Zo):=by
 induction p with
 | nil=>exact .nil
 | cons h _ ih=>
  let (t,e,rfl,d,b):=h;exact .cons (.tup (cA.of d) (.cons (.int _) (.cons (.int _) (.cons (.int _) (.cons (.int _) (.cons (Kq b) .nil)))))) ih
def tZ {cs:List Pc} (h:∀c ∈ cs,∀t,c.o=some t->PyData.strOk t.2.1=true):SeqAt.shaped (.list (cs.map Zo))=true:=(Gd.lst (n:=2) λd b=>by
 let (c,a,rfl):=w8.mp b
 refine Gd.tup (eE (Gd.int _) (eE (Gd.int _) (eE (Gd.int _) (eE (Gd.int _) (eE ?_ mH)))))
 cases e:c.o with
 | none=>exact Gd.non
 | some t=>exact Gd.tup (eE (Gd.int _) (eE (Gd.str (h c a t e)) (eE (Gd.int _) mH)))).shaped (by decide)
def Ez {H:Hp} {a:List V} {cs:List Pc} (p:Paired (iD H) a cs) (f:Pc->Bool):Paired (iD H) (((cs.zip a).filter λz=>f z.1).map λz=>z.2) (cs.filter f):=by
 induction p with
 | nil=>exact .nil
 | @cons r c a cs h t ih=>
  rw [M4,F8,F8];by_cases z:f c=true
  ·rw [if_pos z,if_pos z];exact .cons h ih
  ·rw [if_neg z,if_neg z];exact ih
def jD (ns:List Int):PyData:=.tuple (ns.map PyData.int)
theorem jS {K:Frag} {H:Hp}:∀a:List Int,Au K H (a.map V.int) (a.map PyData.int)
 | []=>.nil
 | n::a=>.cons (.int n) (jS a)
def hG {K:Frag} {H:Hp} {l:Addr} {ns:List Int} (h:H l=some (.tup (ns.map V.int))):rF K H (.ref l) (jD ns):=.tup (cA.of h) (jS ns)
def uN (ns:List Int):∀d ∈ ns.map PyData.int,Gd 0 d:=λd hd=>by
 let (n,_,rfl):=w8.mp hd
 exact Gd.int n
def fS (ns:List Int):SeqAt.shaped (jD ns)=true:=(Gd.tup (uN ns)).shaped (by decide)
def sO (ns:List Int):PyData.eqv (jD ns) (jD ns)=true:=by
 unfold jD;rw [PyData.eqv]
 induction ns with
 | nil=>simp [PyData.eqvAll]
 | cons n ns ih=>rw [r6,PyData.eqvAll];simp only [PyData.eqv] at ih ⊢;simp [ih]
inductive BR (N:Cn) (vs:List V) (H:Hp) (Q:VK) (E0_:XK):Prop|mk (M:Pm) (A:Ad) (s s':S8) (v:V) (l:Ln) (_:vs=[.ref A.b,v]) (_:Go N M H A s) (_:M.ev<=4) (_:mY H v l) (_:Sl M s l s') (_:∀ps' H',Kk H H'->Go N M H' { A with ps:=ps' } s'->Q (.bl true) H')
def ED (N:Cn):Sp:=BR N
def Wj:aJ ["_law_book","_law_line","_law_told","_law_ahead"] ["_law_book","_law_line"] (aG Wx):={rfl,rfl,rfl,⋯,rfl,⋯,⋯}
def wP (W:Wd P w K mg base N c):jM P w K mg base cX "_law_done" 7 (ED N):=W.d24.of λF=>by
 refine F.ok Wj (λvs H Q E h=>?_) (λcdv A outer s H vs Q E hr h=>?_)
 ·let (M,A,s,s',v,l,rfl,_):=h
  rfl
 ·intro X D
  let (M,Ab,s8,s9,v,l,rfl,g,e4,hv,sl,k):=h
  let nd:=Wj.nd
  let (db,hbo):=g.bv.bk.ob
  refine Wp.ex ?_
  cases sl with
  | @lent i tk n m h u x _ wx sx sc=>
   cases hv with
   | @lent a _ _ _ _ ha=>
    apply Hm;symm;exact decide_eq_true rfl
    refine cF (n:=2) nd rfl (jF (vs:=[.str x,.int i]) (by symm) hbo W.B.cl (wU W) hr Lp (by symm) {M,Ab,s8,x,i,rfl,g,sc.mo,wx,sx,λv ps' o s' H1 kp fo fp g' sc' to=>?_})
    let (rfl,rfl):=sc.det g.iv sc'
    let kk:Kk H H1:=λa o e z=>fo.ki g e z
    let ha1:=kk _ _ ha rfl
    cases to with
    | @lent r _ _ _ _ _ hr1=>
     refine fI {_,eQ (dF nZ (pv 2) gB (bO _)) (gA (dF (uH hr.units) (hU yV (pv 2) nK (gF aX)) (hU yV (pv 1) (gF aX) nK) (bO _))),?_}
     refine {_,rfl,rfl,_,rfl,cW ?_}
     refine {_,rfl,_,rfl,r,_,rfl,cA.of hr1,(λz=>absurd z.2 (by show ¬ HT.sIx 5 5 (some 2)=5;decide)),λp np=>?_}
     let sp:=aI (o:=.tup (gR [.int tk,.int n,.int m,.int h,.int u] none (some 2))) np
     let ep:(aR H1 p (.tup (gR [.int tk,.int n,.int m,.int h,.int u] none (some 2)))) p=some (.tup ([tk,n].map V.int)):=aB
     show JU _ _ _ _ _ (aR H1 p (.tup (gR [.int tk,.int n,.int m,.int h,.int u] none (some 2)))) _
     generalize aR H1 p (.tup (gR [.int tk,.int n,.int m,.int h,.int u] none (some 2)))=H2 at sp ep ⊢
     refine {_,rfl,_,rfl,a,_,rfl,cA.of (sp _ _ ha1),(λz=>absurd z.1 (by show ¬ HT.sIx 5 0 (some 3)=0;decide)),λq nq=>?_}
     let sq:=aI (o:=.tup (gR [.str "lent",.int i,.str x,.int tk,.int n] (some 3) none)) nq
     let eq:(aR H2 q (.tup (gR [.str "lent",.int i,.str x,.int tk,.int n] (some 3) none))) q=some (.tup ([tk,n].map V.int)):=aB
     refine {jD [tk,n],jD [tk,n],hG (sq _ _ ep),hG eq,fS _,fS _,?_}
     rw [sO]
     exact k ps' _ (λa o e z=>sq _ _ (sp _ _ (kk a o e z))) (g'.same (sp.trans sq))
  | @told i tk pl h u ns _ n0 le hc sc=>
   cases hv with
   | @told a nr _ _ _ _ ha hn=>
    let GL:=W.G.len
    apply tG;symm;exact decide_eq_false (by intro z;exact absurd (V.str.inj z) ⋯)
    refine {_,aF (bQ (PW.pt (eN fN (dP fN))) aU aY) aU,?_}
    refine Tv.to (b:=!decide (V.str "told"=.str "told")) (by symm) _ (dC ⋯ (Tv.to (b:=!decide (V.int (([.str "told",.int i,.int tk,.int pl,.ref nr]:List V).length:Int)=.int 5)) (by symm) _ (dC (by show (!decide (V.int ((5:Nat):Int)=V.int 5))=false;decide +kernel) ?_)))
    let (c0,mc,hh,em):=hc
    let one:∀c ∈ s8.cs,c.has tk=true->c.m=pl:=λc hc hc'=>by rw [g.iv.oneM c hc c0 mc hc' hh];exact em
    let (t0,eo,et):=eU hh
    let ot:=g.iv.op c0 mc t0 eo
    let few:=g.few
    refine vA (n:=3) (NB:=["_law_piece","_law_line"]) (js:=[1]) (cl:=[("_law_line",s.heap.objs.size+1)]) nd rfl {(rfl),rfl,rfl,rfl} rfl (sN (by symm) hbo W.B.cl (Fh W) hr aN {Ab.b,Ab.pw,Ab.sh,Ab.d,M.sp,M.ev,M.le,s8.nn,s8.nt,s8.mo,Ab.ps,s8.cs,rfl,g.bv.bk,few,g.bv.t2,λr H1 rs cs1 kt _ tb er pm so pr=>?_})
    let g1:Go N M H1 Ab s8:={(g.bv.keepT kt (.inr {(rfl),tb})).1,g.iv,g.wg,g.l1,g.e1}
    let kk1:Kk H H1:=λa o e z=>kt a o (λy=>by
     let (_,hT2,_):=g.bv.t2
     rw [y,hT2] at e
     cases e
     cases z) e
    let ha1:=kk1 _ _ ha rfl
    let ez:H1 r=some (.lst ((cs1.zip rs).map λz=>z.2)):=by rw [er,O8 (by rw [pr.length];omega)]
    refine {_,r,cs1.zip rs,λz=>z.2,λz=>z.2,λz=>z.1.has tk,rfl,ez,by rw [C5,pm.length_eq];omega,λz hz G' sg C s H' fp pn=>?_,λz hz _ G' sg C s H' fp pn=>?_,λacc G1 s1 hA1=>?_}
    ·let (t',lv,e,h1',h2):=dR pr z hz
     let h1:=sg _ _ h1'
     let ha2:=sg _ _ ha1
     rw [e]
     unfold Pc.has
     generalize z.1.o=o at h2
     cases lv <;> cases o <;> first|exact h2.elim|skip
     ·apply Tv.is;apply fG (d:=false);symm;intro z;exact absurd z (by decide);rfl
     ·rename_i q t
      let h2:=sg _ _ h2
      apply Tv.is;apply fG;symm;intro _;symm
      show (!decide (V.ref q=V.non) && decide (V.int t.1=V.int tk))=decide (t.1=tk)
      rw [decide_eq_false (by intro z;cases z)]
      exact decide_eq_decide.mpr {V.int.inj,congrArg _}
    ·symm
    let p1:=aK (λ_ _ z=>iD.same s1 z) (Ez pr λc=>c.has tk)
    let al:∀c ∈ cs1.filter (λc=>c.has tk),c.m=pl/\∀t,c.o=some t->PyData.strOk t.2.1=true:=λc hc=>by
     let (h1,h2):=t7.mp hc
     let h1:=pm.mem_iff.mp h1
     exact {one c h1 h2,λt e=>(g.iv.op c h1 t e).2.2.2.2}
    let ne:cs1.filter (λc=>c.has tk)≠[]:=List.ne_nil_of_mem (t7.mpr {pm.mem_iff.mpr mc,hh})
    generalize cs1.filter (λc=>c.has tk)=fs at p1 al ne
    generalize ((cs1.zip rs).filter λz=>z.1.has tk).map (λz=>z.2)=rs' at p1 hA1
    let kkG:Kk H G1:=λa o e z=>s1 _ _ (kk1 a o e z)
    let haG:=kkG _ _ ha rfl
    let hnG:=kkG _ _ hn rfl
    let gG:=g1.same s1
    let (dG,hbG):=gG.bv.bk.ob
    refine cF (n:=2) nd rfl (jF (vs:=[.int tk,.int pl,.ref nr,.int i]) (by symm) hbG W.B.cl (wT W) hr Lp (by symm) {M,Ab,s8,tk,pl,i,nr,ns,rfl,gG,sc.mo,∎,∎,hnG,le,∎,one,(λno=>by rw [no c0 mc] at hh;cases hh),λv o s' H2 kp fo g2 sc' to=>?_})
    let (rfl,rfl):=sc.det g.iv sc'
    let kk2:Kk G1 H2:=λa o e z=>fo.ki gG e z
    let ha2:=kk2 _ _ haG rfl
    let hn2:=kk2 _ _ hnG rfl
    let hA2:=kk2 _ _ hA1 rfl
    let p2:Paired (iD H2) rs' fs:=aK (λv c ⟨t,lv,e,h1,h2⟩=>{t,lv,e,kk2 _ _ h1 rfl,h2.move λq ys z=>kk2 _ _ z rfl}) p1
    refine {_,aF (bQ (PW.pt (eN (cH (uH hr.units) (pv 3) (pH aE) (bO _)) (eN fN (dP (cH (uH hr.units) aP (cE aE) (bO _)))))) aU aY) aU,?_}
    refine {_,rfl,i5 _,λl2 n2=>?_}
    let (H3,hh3,s3,f3):=Ut n2 (.lst [])
    rw [hh3]
    refine {.list (fs.map Zo),.list [],.lst (dD.of (s3 _ _ hA2)) (zD (aK (λ_ _ z=>iD.same s3 z) p2)),.lst (dD.of f3) .nil,tZ λc hc=>(al c hc).2,(Gd.lst (n:=0) mH).shaped (by decide),_,rfl,?_}
    cases p2 with
    | nil=>exact absurd rfl ne
    | @cons v0 c1 vs0 _ h0 _=>
     let (t0,lv,rfl,h1,_):=h0
     let h1:=s3 _ _ h1
     let ha3:=s3 _ _ ha2
     let hA3:=s3 _ _ hA2
     let a0:kB (V.ref t0::vs0) 0=some (.ref t0):=bW (j:=0) rfl
     let em:=(al c1 (i0 ..)).1
     refine dC (by simp [PyData.eqv,PyData.eqvAll]) ?_
     refine Tv.to (b:=!decide (V.int c1.m=.int pl)) (by symm) _ (dC (by rw [em];simp) ?_)
     refine Vl.to (v:=.ref nr) (by symm) _ {i5 _,λl4 n4=>?_}
     let (H4,hh4,s4,f4):=Ut n4 (.tup [])
     rw [hh4]
     let hn4:=s4 _ _ (s3 _ _ hn2)
     let ha4:=s4 _ _ ha3
     let s34:=s3.trans s4
     refine {jD ns,jD [],hG hn4,hG f4,fS _,fS _,_,rfl,dC ?_ ?_}
     ·cases ns with
      | nil=>exact absurd rfl n0
      | cons n ns=>simp [jD,PyData.eqv,PyData.eqvAll]
     ·cases to with
      | @told r2 _ _ _ hr2=>
       let hr4:=s34 _ _ hr2
       refine Qf (v:=.bl true) ?_ (k Ab.ps H4 (λa o e z=>s34 _ _ (kk2 _ _ (kkG _ _ e z) z)) (g2.same s34))
       exact DJ (v:=.int (pl+ns.length)) (w:=.int (pl+((ns.map V.int).length:Int))) wM (by symm) (by symm) (λQ q=>{rfl,by rw [decide_eq_true (by rw [g7])];exact q}) rfl
end
end Ls
namespace L2
open PySem PySem.Spec PyProof.Rows PySem.W
section
variable {X:Cx}
def Sb (K:Frag):R2:=λx y H Q=>∃dx dys,rF K H x dx/\rF K H y (.tuple dys)/\dx.canLay0=true/\PyData.canLayAll0 dys=true/\dx.depth<=60/\Q (.bl (!dys.any λz=>PyData.eqv z dx)) H
def Ff (p:X.A.units+64<cLine):kM X (compareOp .NotIn) (Sb X.K):=by
 intro b s σ H x y v u Q I j f h;let (c,a,g,d,k,l,dd,q):=h;let (m,e):=g.reads I j;let (o,i):=d.reads I f;let n:min (PyData.depthAll a) c.depth<=c.depth:=Nat.min_le_right _ _;exact SeqAt.notIn_tuple_reads i e l k ∎ {.bl _,H,I,rfl,q}
def Gr:fP X (.type "range") (λa H Q=>∃j:Int,a=[.int j]/\∀r,H r=none->Q (.ref r) (aR H r (.rng 0 j))):=by
 intro c s σ H a d Q I r h;let (j,rfl,q):=h;let (u,rfl,(t,rfl)):=iT r;refine call_range_1 ?_;exact {.ref s.heap.objs.size,_,I.laid (o:=.rng 0 j) (t':=s.toks+1+1) (λb o e=>f6 _ e) (c9 _) {s.toks,t,s.toks+1,i9 _ rfl},rfl,q _ (I.hok.fresh (c9 _))}
def Zp:List V->Hp->VK->Prop:=λxs H Q=>∃(p:Addr) (lo hi:Int),xs=[.ref p]/\H p=some (.rng lo hi)/\(-(2 ^ 62)<=lo/\lo<2 ^ 62/\-(2 ^ 62)<=hi/\hi<2 ^ 62)/\hi-lo<=4000/\∀l,H l=none->Q (.ref l) (aR H l (.lst (wA lo (hi-lo).toNat)))
def Ah (B:X.calm=true):fP X (.type "list") Zp:=by
 intro i s σ H M O Q I r h;let (p,a,c,rfl,K,(G,F,D,J),P,q):=h;let (u,rfl,m):=iT r;cases m;let (t,t',n,e):=(show bL X.prog X.w H s.heap p (.rng a c) from I.hok p _ K);let C:Builtin.Range.rangeSize a c 1=(((c-a).toNat:Nat):Int):=by rw [rangeSize_one];split <;> omega
 refine call_list_range (I.ok.hd B) e (small_one G F D J) C ∎ λN g b E v l f=>?_;let (z,A):=f;refine {.ref s.heap.objs.size,_,I.laid (o:=.lst (wA a (c-a).toNat)) (t':=g) v (c9 _) ?_,rfl,q _ (I.hok.fresh (c9 _))};let S:sizeLine=16777216:=sizeLine_eq;refine {by rw [vZ];omega,b.toList,E,?_,by simpa using l};refine gO (by rw [vZ];simp [z]) λj x y d k=>?_;unfold wA at d;rw [i8] at d;let L:j<(c-a).toNat:=by
  have:=(c8.mp k).1;simp only [l9] at this;omega
 rw [List.getElem?_range L] at d;cases d;let (g,rfl):=A j y (by simpa using k);exact {g,by rw [Int.mul_one]}
end
end L2
namespace Ls
open PySem L2 PySem.W
def Ln.isL:Ln->Bool
 | .lent _ _ _ _=>true
 | .told _ _ _ _=>false
def Ln.tok:Ln->Int
 | .lent _ _ t _=>t
 | .told _ _ _ _=>0
def toks (ls:List Ln):List Int:=(ls.filter Ln.isL).map Ln.tok
def Ib {ls:List Ln}:(toks ls).length<=ls.length:=by
 unfold toks;rw [g7];exact K2 _ _
theorem vI:∀{ls:List Ln} {ys:List V},ls.length=ys.length->((ls.zip ys).filter λz=>z.1.isL).map (λz=>V.int z.1.tok)=(toks ls).map V.int
 | [],[],_=>rfl
 | [],_::_,h=>nomatch h
 | _::_,[],h=>nomatch h
 | l::ls,y::ys,h=>by
  have a:=vI (ls:=ls) (ys:=ys) (Nat.succ.inj h)
  unfold toks at a ⊢
  rw [M4,F8,F8]
  cases e:l.isL
  ·exact a
  ·show V.int l.tok::_=V.int l.tok::_
   rw [<- a]
def Ej (m:Int) (n:Nat):eZ m (n+1)=m::eZ (m+1) n:=by
 unfold eZ;rw [List.range_succ_eq_map,r6,B0,Int.natCast_zero,Int.add_zero];congr 1;refine List.map_congr_left λk _=>?_;show m+((k+1:Nat):Int)=m+1+(k:Int);omega
def Sc.tellE {M:Pm} {s s':S8} {tk pl i:Int} {ns:List Int} {o:To} (h:Sc M s (.tell tk pl i ns) o s'):s'.mo=i/\s'.nt=s.nt:=by
 cases h;exact {(rfl),rfl}
def Sl.ends {M:Pm} {s s':S8} {l:Ln} (h:Sl M s l s'):s'.mo=l.i/\(l.isL=true/\l.tok=s.nt/\s'.nt=s.nt+1\/l.isL=false/\s'.nt=s.nt):=by
 cases h with
 | lent _ _ sc=>
  let (_,a,c,b):=sc.lentN;exact {c,.inl {(rfl),b,a}}
 | told _ _ _ sc=>exact {sc.tellE.1,.inr {(rfl),sc.tellE.2}}
def Qn {M:Pm} {s s':S8} {ls:List Ln} (h:Tr M s ls s'):toks ls=eZ s.nt (toks ls).length:=by
 induction h with
 | nil=>rfl
 | @cons s s1 s2 l ls h _ ih=>
  obtain⟨_,⟨b,a,c⟩|⟨b,a⟩⟩:=h.ends
  ·let e:toks (l::ls)=l.tok::toks ls:=by unfold toks;rw [F8,if_pos b];rfl
   rw [e,j9,Ej,a,<- c,<- ih]
  ·let e:toks (l::ls)=toks ls:=by unfold toks;rw [F8,if_neg (by rw [b];exact Bool.noConfusion)]
   rw [e,<- a];exact ih
def Aj (vf:Int->Int) (ds:Lm.Ps):PyData:=.list (ds.map λq=>.tuple [.int q.1,jD ((List.range (q.2-q.1).toNat).map λ(i:Nat)=>vf (q.1+(i:Int)))])
def vG (ds:Lm.Ps):PyData:=.tuple (ds.map λq=>.tuple [.int q.1,.int q.2])
def Cj {K:Frag} {H:Hp} {vf:Int->Int} {l:Addr} {xs:List V} {a:Lm.Ps} (h:H l=some (.lst xs)) (p:Paired (uU vf H) xs a):rF K H (.ref l) (Aj vf a):=.lst (dD.of h) (by
 clear h
 induction p with
 | nil=>exact .nil
 | cons h _ ih=>
  let (b,c,rfl,e,d):=h
  exact .cons (.tup (cA.of e) (.cons (.int _) (.cons (hG d) .nil))) ih)
def Kp {K:Frag} {H:Hp} {l:Addr} {c:Lm.Ps} (h:bN H l c):rF K H (.ref l) (vG c):=by
 let (e,a,p):=h;refine .tup (cA.of a) ?_;clear a;unfold bP at p
 induction p with
 | nil=>exact .nil
 | cons h _ ih=>
  let (b,rfl,d):=h;exact .cons (.tup (cA.of d) (.cons (.int _) (.cons (.int _) .nil))) ih
def qQ (vf:Int->Int) (b:Lm.Ps):SeqAt.shaped (Aj vf b)=true:=(Gd.lst (n:=2) λd a=>by
 let (q,_,rfl):=w8.mp a
 exact Gd.tup (eE (Gd.int _) (eE (Gd.tup (n:=0) (uN _)) mH))).shaped (by decide)
def vF (b:Lm.Ps):SeqAt.shaped (vG b)=true:=(Gd.tup (n:=1) λd a=>by
 let (q,_,rfl):=w8.mp a
 exact Gd.tup (eE (Gd.int _) (eE (Gd.int _) mH))).shaped (by decide)
def Dq {α:Type} (f:α->PyData) (h:∀x,PyData.eqv (f x) (f x)=true) (l:List α):PyData.eqvAll (l.map f) (l.map f)=true:=by
 induction l with
 | nil=>simp [PyData.eqvAll]
 | cons c l ih=>rw [r6,PyData.eqvAll,ih,h];rfl
def Ui (vf:Int->Int) (a:Lm.Ps):PyData.eqv (Aj vf a) (Aj vf a)=true:=by
 unfold Aj;rw [PyData.eqv];exact Dq _ (λq=>by simp [PyData.eqv,PyData.eqvAll,sO]) a
def xH (ns:List Int):PyData:=.list (ns.map PyData.int)
def Oa (ns:List Int):PyData.eqv (xH ns) (xH ns)=true:=by
 unfold xH;rw [PyData.eqv];exact Dq _ (λn=>by simp [PyData.eqv]) ns
def FY:Stmt->List Stmt
 | .For _ _ b _ _=>b
 | _=>[]
abbrev FG:List Str:=["_law_script","_law_work_here","_law_bounds_here","_law_most","_law_cell","_law_ticks","_law_plan_here","_law_ended","_law_done_here","_law_over","_law_results","_law_lines","_law_book","_law_line","_law_tokens"]
abbrev FM:List Stmt:=FY ((bV zA).getD 3 (.Pass ⟨0,0,0,0⟩))
def Bw:aJ FG ["_law_script"] (aG zA):={rfl,rfl,rfl,⋯,rfl,⋯,⋯}
abbrev CQ (P:Program) (w:World) (K:Frag) (mg:Str->Option Value) (base:Heap) (f:Addr) (cdv:Value) (A:Around) (outer:List Env) (s:Shared) (H:Hp) (E:XK):Cx:=(jH cX P w K mg base FG "law" (aG zA) f cdv A outer s H E).nox
def xJ {α:Type} {ls:List α} {x:α} (h:ls.getLast?=some x):kB ls (-1)=some x:=by
 let (a,rfl):=List.getLast?_eq_some_iff.mp h;exact xY _ _
def Tu {α β:Type} {F:α->β->Prop} {xs:List α} {ys:List β} (p:Paired F xs ys) {y:β} (h:ys.getLast?=some y):∃x,xs.getLast?=some x/\F x y:=by
 let l:=p.length;rw [List.getLast?_eq_getElem?] at h;let b:ys.length-1<xs.length:=by
  have:=(c8.mp h).1;omega
 let (e,a,d):=aQ p (c7 b);rw [h] at a;cases a;exact {_,by rw [List.getLast?_eq_getElem?,l];exact c7 b,d}
def mY.at1 {H:Hp} {v:V} {l:Ln} (h:mY H v l):∃a b,v=.ref a/\H a=some (.tup b)/\kB b 1=some (.int l.i):=by
 cases h with
 | lent e=>exact {_,_,rfl,e,rfl}
 | told e _=>exact {_,_,rfl,e,rfl}
def Mw {a g d:Lm.Ps} {sp l:Int} {s:S8} (b:Iv g sp s) (wk:Lm.Wk a) (f:∀x,Lm.mem g x↔Lm.mem a x) (r:l+s.ns.length=Hk a) (sh:Lm.Sh d) (i:∀x,Lm.mem d x↔Lm.mem g x/\¬ x ∈ s.ns):d=[]↔l=0:=by
 let k:=Pa wk b.hd.nd λx e=>by
  let (c,j,o,u):=(b.nx x).mp e;have:=b.lm c j;exact(f x).mp ((b.cv x).mpr {c,j,o,∎})
 constructor
 ·rintro rfl;have:=k.mpr λx e=>Classical.byContradiction λm=>by
   let (_,q,_):=(i x).mpr {(f x).mpr e,m};cases q
  omega
 ·intro z;let h:=k.mp ∎;cases d with
  | nil=>rfl
  | cons p t=>
   have:=(i p.1).mp {p,i0 ..,j0 _,sh.1};exact absurd (h _ ((f _).mp this.1)) this.2
section
variable {P:Program} {w:World} {K:Frag} {mg:Str->Option Value} {base:Heap} {N:Cn} {c:Nat->Addr}
def Ia {f:Addr} {cdv:Value} {A:Around} {outer:List Env} {s:Shared} {H:Hp} {E:XK} {D:eK} {M:Pm} {Ab:Ad} {a:Lm.Ps} {o:Ro} {ve:V} {o0 o1 o2 o3 o4 o5 o6 o8 o9 o13 o14:Option V} {H2:Hp} (W:Wd P w K mg base N c) (hr:Room 11 (A.deeper (PyProof.Rows.envOfC "law" (aG zA) s.heap.objs.size f cdv))) (g:Go N M H2 Ab o.s) (ra:yD M a H2 o) (wk:Lm.Wk a) (mm:∀x,Lm.mem M.ws x↔Lm.mem a x) (he:ve=if o.l=0 then .int o.t else .non)
  (k:∀o14 H',aM H2 H'->D.nx [o0,o1,o2,o3,o4,o5,o6,some ve,o8,o9,some (.ref o.r1),some (.ref o.ln),some (.ref Ab.b),o13,o14] H'):
  let X:=CQ P w K mg base f cdv A outer s H E;Wp X (FM.drop 6) D [o0,o1,o2,o3,o4,o5,o6,some ve,o8,o9,some (.ref o.r1),some (.ref o.ln),some (.ref Ab.b),o13,o14] H2:=by
 intro X;let nd:=Bw.nd;let GL:=W.G.len;let sl:sizeLine=16777216:=sizeLine_eq;let lw:=g.wg.ln;let nve:(!decide (ve=.non))=decide (o.l=0):=by
  rw [he];by_cases z:o.l=0
  ·rw [if_pos z,decide_eq_true z,decide_eq_false (by intro z;cases z)];rfl
  ·rw [if_neg z,decide_eq_false z,decide_eq_true rfl];rfl
 let (dx,hbo):=g.bv.bk.ob;refine {_,aF (bQ (PW.pt (eN (cH (Lr hr.units) (bT (pv 12) W.B.cl (wR W) hr aN) (pv 10) (bO _)) (dP (cH sC (dF (uH hr.units) (bT (pv 12) W.B.cl (Fj W) hr aN) (cE aE) (bO _)) (dF nZ (pv 7) gB (bO _)) (bO _))))) aU aY) aU,?_};refine {_,rfl,Ab.b,dx,_,rfl,hbo,rfl,o.s.vf,Ab.b,Ab.pw,Ab.sh,Ab.d,Ab.pw',Ab.d',M.sp,M.ev,M.le,o.s.nn,o.s.nt,o.s.mo,M.ws,o.s.kv,rfl,{(dx),hbo},g.bv.st,Ab.sh,Ab.pw',Ab.d',M.ws,o.s.kv,o.s.ns,rfl,g.bv.st,g.iv.hd,λr1 ds1 xs1 H3 s3 _ hr3 it3 sh3 mm3 _=>?_};let ed:ds1=o.ds:=Lm.sh_same sh3 ra.sh λx=>by rw [mm3 x,ra.mm x]
 subst ed;refine {_,rfl,Aj o.s.vf o.ds,Aj o.s.vf o.ds,Cj hr3 it3,Cj (s3 _ _ ra.h1) (aK (λ_ _ ⟨b,c,e,h1,h2⟩=>{b,c,e,s3 _ _ h1,s3 _ _ h2}) ra.it),qQ _ _,qQ _ _,_,rfl,?_};rw [Ui];refine cO ?_;let g3:=g.same s3;refine {_,rfl,Ab.b,dx,_,rfl,s3 _ _ hbo,rfl,Ab.b,Ab.pw,Ab.sh,Ab.d,Ab.pw',Ab.d',M.sp,M.ev,M.le,o.s.nn,o.s.nt,o.s.mo,M.ws,o.s.kv,rfl,{dx,s3 _ _ hbo},g3.bv.st,Ab.sh,Ab.pw',Ab.d',M.ws,o.s.kv,o.s.ns,rfl,g3.bv.st,g3.wg.sh,∎,g3.iv.hd.key,g3.iv.hd.nd,g3.iv.hd.len,λr4 d4 H4 s4 w4 sh4 m4 _=>?_};refine {i5 _,λe5 n5=>?_};let (H5,hh,s5,f5):=Ut n5 (.tup []);rw [hh];refine {vG d4,.tuple [],Kp (w4.same s5),.tup (cA.of f5) .nil,vF _,(Gd.tup (n:=0) mH).shaped (by decide),?_};let ln:=Mw g.iv wk mm ra.tot sh4 m4;let ee:PyData.eqv (vG d4) (.tuple [])=decide (o.l=0):=by
  unfold vG;cases d4 with
  | nil=>rw [decide_eq_true (ln.mp rfl)];simp [PyData.eqv,PyData.eqvAll]
  | cons p t=>rw [decide_eq_false λz=>nomatch ln.mpr z];simp [PyData.eqv,PyData.eqvAll]
 rw [ee];refine {_,rfl,rfl,rfl,_,rfl,dC (by rw [nve];simp) ?_};let t5:=s3.trans (s4.trans s5);let hl5:=t5 _ _ ra.hl;let lp5:Paired (mY H5) o.ys o.ls:=aK (λ_ _ z=>z.tup λ_ _ e=>t5 _ _ e) ra.lp;let ll:=lp5.length;let few:=ra.few;let ez:H5 o.ln=some (.lst ((o.ls.zip o.ys).map λz=>z.2)):=by rw [hl5,O8 ∎]
 refine vA (n:=14) (NB:=["_law_line"]) (js:=[]) (cl:=[]) nd rfl {(rfl),rfl,rfl,rfl} rfl (Vl.ex (v:=.ref o.ln) (by symm) {_,o.ln,o.ls.zip o.ys,λz=>z.2,λz=>.int z.1.tok,λz=>z.1.isL,rfl,ez,by rw [C5];omega,λz hz G' sg C s H' fp pn=>?_,λz hz hp G' sg C s H' fp pn=>?_,λacc G s6 hA=>?_})
 ·let h:=(dR lp5 z hz).tup λ_ _ e=>sg _ _ e;generalize z.2=v at h;generalize z.1=l at h;cases h with
  | lent e=>apply Tv.is;symm;exact decide_eq_true rfl
  | told e _=>apply Tv.is;symm;exact decide_eq_false (by intro z;exact absurd (V.str.inj z) ⋯)
 ·let h:=(dR lp5 z hz).tup λ_ _ e=>sg _ _ e;generalize z.2=v at h;generalize z.1=l at h hp;cases h with
  | lent e=>symm
  | told e _=>cases hp
 rw [vI ∎] at hA;let t6:=t5.trans s6;let tt:=Qn ra.tr;let tl:(toks o.ls).length<=2520:=l7 Ib few;refine {_,aH (bQ (PW.pt (eN (cH (Lr hr.units) (pv 14) (dH (Ah rfl) (by rfl) W.G.list BF (aA (dH Gr (by rfl) W.G.range PyProof.Rows.boot_range (aA aP aE)) aE)) (bO _)) (dP (PW.pt (iV (cH (Ff hr.units) (pv 7) (cE (aA gB (aA aX aE))) (by rfl)) (gE fN)))))) aU aY),?_};refine {_,rfl,Vl.to (v:=.int ((toks o.ls).map V.int).length) (by symm) _ {_,rfl,λr7 n7=>?_}};let (H7,hh7,s7,f7):=Ut n7 (.rng 0 ((toks o.ls).map V.int).length);rw [hh7];rw [g7] at f7;refine {r7,0,(toks o.ls).length,rfl,f7,∎,∎,λl8 n8=>?_};let (H8,hh8,s8,f8):=Ut n8 (.lst (wA 0 (((toks o.ls).length:Int)-0).toNat));rw [hh8];let e8:wA 0 (((toks o.ls).length:Int)-0).toNat=(toks o.ls).map V.int:=by
  rw [Int.sub_zero,N6]
  conv=>rhs;rw [tt]
  unfold wA eZ;rw [B0];rfl
 rw [e8] at f8;let t8:=t6.trans (s7.trans s8);let gd:∀d ∈ (toks o.ls).map PyData.int,Gd 0 d:=uN _;refine {xH (toks o.ls),xH (toks o.ls),.lst (dD.of ((s7.trans s8) _ _ hA)) (jS _),.lst (dD.of f8) (jS _),(Gd.lst gd).shaped (by decide),(Gd.lst gd).shaped (by decide),_,rfl,?_};rw [Oa];refine cO ?_;refine {_,rfl,by show 2<=sizeLine;omega,λe9 n9=>?_};let (H9,hh9,s9,f9):=Ut n9 (.tup [.non,.int 0]);rw [hh9];let t9:=t8.trans s9;let fin:=k (some (.ref acc)) H9 t9;let rt:rF K H9 (.ref e9) (.tuple [.none,.int 0]):=.tup (cA.of f9) (.cons .non (.cons (.int _) .nil));by_cases z:o.l=0
 ·rw [if_pos z] at he;subst he;refine {.int o.t,[.none,.int 0],.int _,rt,rfl,rfl,by rw [PyData.depth];decide,_,rfl,?_};by_cases zt:o.t=0
  ·exact dC (by rw [zt];decide +kernel) (cO fin)
  ·refine eT (by simp [PyData.eqv];omega) ?_;rcases ra.la with q|q|⟨l,q1,q2⟩
   ·exact absurd q zt
   ·omega
   ·let (v,q3,q4):=Tu ra.lp q1;let (b,xs,rfl,q5,q6):=q4.at1;let q3:=xJ q3;let q5:=t9 _ _ q5;let q7:=t9 _ _ ra.hl;refine Tv.to (b:=!decide (V.int l.i=.int o.t)) (by symm) _ (dC (by rw [q2];simp) fin)
 ·rw [if_neg z] at he;subst he;exact {.none,[.none,.int 0],.non,rt,rfl,rfl,by rw [PyData.depth];decide,_,rfl,dC ⋯ (cO fin)}
def Oj (xs:List V) (m:Nat):gR xs none (some (m:Int))=xs.take m:=by
 unfold gR;rw [HT.sIx_none,HT.sIx_nat,K0,Nat.sub_zero];by_cases z:m<=xs.length
 ·rw [y0 z]
 ·rw [Nat.min_eq_right ∎,p8 (c9 _),p8 ∎]
def wK {α β:Type} {F:α->β->Prop} {xs:List α} {ys:List β} (p:Paired F xs ys):∀m,Paired F (xs.take m) (ys.take m):=by
 induction p with
 | nil=>intro m;rw [Q5,Q5];exact .nil
 | cons h _ ih=>
  intro m;cases m with
  | zero=>exact .nil
  | succ m=>exact .cons h (ih m)
def Kk.trans {H d b:Hp} (x:Kk H d) (y:Kk d b):Kk H b:=λa o e z=>y a o (x a o e z) z
def HF {H H':Hp} (s:aM H H'):Kk H H':=λa o e _=>s a o e
def yD.kk {M:Pm} {a:Lm.Ps} {H H':Hp} {o:Ro} (k:Kk H H') (h:yD M a H o):yD M a H' o:=
 {k _ _ h.hr rfl,k _ _ h.hl rfl,aK (λ_ _ z=>z.tup λ_ _ e=>k _ _ e rfl) h.lp,k _ _ h.h1 rfl,aK (λ_ _ ⟨b,c,e,h1,h2⟩=>{b,c,e,k _ _ h1 rfl,k _ _ h2 rfl}) h.it,h.sh,h.mm,h.tr,h.tot,h.la,h.few}
def bN.kk {H H':Hp} {p:Addr} {a:Lm.Ps} (k:Kk H H') (h:bN H p a):bN H' p a:=by
 let (f,d,b):=h;exact {f,k _ _ d rfl,bP.on (λ_ _ e=>k _ _ e rfl) b}
structure HG (N:Cn) (a:Lm.Ps) (q bd:Addr) (sp ev le:Int) (H:Hp):Prop where
 w:bN H q a
 b:H bd=some (.tup [.int sp,.int ev,.int le])
 t1:kC H N.T1 lJ gC
 t2:kC H N.T2 uG kK
inductive Lb (N:Cn) (M:Pm) (A:Ad) (ls:List Ln) (s':S8) (k:Nat) (H:Hp):Prop|mk (ps:List Addr) (s:S8) (_:Go N M H { A with ps:=ps } s) (_:Tr M s (ls.drop k) s')
def Xr {f fD:Addr} {cdv:Value} {A:Around} {outer:List Env} {s:Shared} {H:Hp} {E:XK} {D:eK} {a:Lm.Ps} {q bd:Addr} {sp y I j:Int} {g:Nat} {o0 o5 o6 o7 o8 o9 a2 a6 a1 u S:Option V} {H0:Hp} (hD:mg "_law_result"=some (.ref fD)) (nT:N.T1≠N.T2) (W:Wd P w K mg base N c) (hr:Room 11 (A.deeper (PyProof.Rows.envOfC "law" (aG zA) s.heap.objs.size f cdv))) (T:HG N a q bd sp y I H0) (F:lO a) (b1:1<=sp) (b2:1<=y) (b3:y<=4) (b4:y<=I)
  (k:∀o5 o6 o7 o8 o9 a2 a6 a1 u S H',Kk H0 H'->HG N a q bd sp y I H'->D.nx [o0,some (.ref q),some (.ref bd),some (.int ((4:Nat):Int)),some (.int j),o5,o6,o7,o8,o9,a2,a6,a1,u,S] H'):
  let X:=CQ P w K mg base f cdv A outer s H E;Wp X FM D [o0,some (.ref q),some (.ref bd),some (.int (g:Int)),some (.int j),o5,o6,o7,o8,o9,a2,a6,a1,u,S] H0:=by
 let (_,_,_,GI,bI,MK):=(wQ W).mk' W.iB 10;intro X;let U:=Bw.nd;let sl:sizeLine=16777216:=sizeLine_eq;let ak:=F.few;let wk:=uA F;let (z1,m1,e1):=pF (ns:=[0,1,5,20,70,40]) (i:=j % 6) (y4 _ (by decide)) (x8 _ (by decide));let hz:0<=z1/\z1<=70:=(by decide:∀z ∈ ([0,1,5,20,70,40]:List Int),0<=z/\z<=70) z1 m1;let (tt,rfl):=F9 hz.1;refine cF (n:=5) U rfl (eF (vs:=[.int 0,.int 1,.int 5,.int 20,.int 70,.int 40]) (by symm) (by show 6<=1000;decide) (λH' s'=>by symm) e1 λH1 s1=>?_);refine cF (n:=6) U rfl {_,hU Iu (aS (Sy W) hr aN (aA aP aE)) nK (gF (pv 3)),?_};refine Vl.to (v:=.int (j / 6)) (by symm) _ {j / 6,rfl,λr xs zs H2 s2 ad pr an lx=>{_,rfl,_,rfl,r,xs,rfl,ad,λp H3 s3 hp=>?_}};rw [Oj] at hp;let O:=s1.trans (s2.trans s3);let ai:Paired (qU H3) (xs.take g) (zs.take g):=wK (aK (λ_ _ z=>z.on λ_ _ e=>s3 _ _ e) pr) g;let aa:((zs.take g).map Pn.x).Nodup:=by rw [List.map_take];exact List.Sublist.nodup (N5 _ _) an
 let l3:(xs.take g).length<=12:=by rw [l0];omega
 show 3;let ap:=O _ _ T.b;refine {_,aF (La (aS (AB hD nT W) hr aN (aA (pv 1) (aA aP (aA aP (aA aP (aA (pv 6) (aA (Sn (v:=.ref fD) (by rfl) hD rfl) (aA (pv 5) aE)))))))) (fZ (n:=5) rfl (bH (aW (i:=7) U rfl (j5 rfl)) (bH (aW (i:=8) U rfl (j5 rfl)) (bH (aW (i:=9) U rfl (j5 rfl)) (bH (aW (i:=10) U rfl (j5 rfl)) (bH (aW (i:=11) U rfl (j5 rfl)) eO))))))) aU,?_};refine {_,rfl,Vl.to (v:=.int sp) (by symm) _ (Vl.to (v:=.int y) (by symm) _ (Vl.to (v:=.int I) (by symm) _ {_,rfl,_,rfl,q,p,a,sp,y,I,_,_,tt,rfl,T.w.same O,F,b1,b2,b3,b4,hp,ai,aa,l3,∎,T.t1.same O,T.t2.same O,λws o H4 k4 t1 t2 af a8 ra=>?_}))};refine {o.r,_,rfl,cA.of ra.hr,rfl,_,_,rfl,_,_,rfl,_,_,rfl,_,_,rfl,_,_,rfl,rfl,?_};let a5:Kk H0 H4:=(HF O).trans k4;let ar:=a5 _ _ T.b rfl;let ah:=T.w.kk a5;generalize hve:(if o.l=0 then V.int o.t else .non)=ve;refine cF (n:=12) U rfl {_,jU MK GI hr rfl W.B.mgC bI .nil aN dE,Av.to (vs:=[.ref q,.int sp,.int y,.int I]) (by symm) _ λb dx nb ag _=>?_};let s5:=oA (C:=N.CB) nb ag;let e5:(aR (aR H4 dx (.own b)) b (.ins N.CB dx [])) b=some (.ins N.CB dx []):=aB;generalize aR (aR H4 dx (.own b)) b (.ins N.CB dx [])=H5 at s5 e5 ⊢;refine {b,dx,q,a,sp,y,I,rfl,e5,ah.same s5,wk,∎,∎,∎,∎,∎,λsh Z sd d L ps H6 k6 _ _ al S6 a0 m ae _ B6=>?_};refine {rfl,?_};let aj:L=ws:=Lm.sh_same a0 af λx=>by rw [m x,a8 x]
 subst aj;let Y:aM H4 H6:=λx o e=>k6 x o (s5 _ _ e) (aD e nb);let g6:Go N {(sp),y,I,L} H6 {(b),q,sh,d,Z,sd,ps} (rZ a):={{B6,S6,t1.same Y,t2.same Y,al.symm,nT},Nj wk ak m,Wb F a0 m ae,by show 1<=I;omega,b2};let J:=ra.kk (HF Y);refine {_,aF (eJ v4 rfl (iF (pv 11)) (aW (i:=13) U rfl (j5 rfl)) (aH (bQ (PW.pt (eN (cC (bY (bF dB (by rfl) W.G.isi eW (aA (pv 13) (aA (fQ (v:=.ty "tuple") (by rfl) W.G.tuple eV rfl) aE))))) (eN (cC (bY (aS (wP W) hr aN (aA (pv 12) (aA (pv 13) aE))))) (dP (cH sC (bT (pv 12) W.B.cl (AD W) hr aN) aP (bO _)))))) aU aY))) aU,?_};refine {_,rfl,o.ln,rfl,{_,dD.of J.hl},lM (xs:=o.ys) (λi σ G=>(∃u,σ=[o0,some (.ref q),some (.ref bd),some (.int ((4:Nat):Int)),some (.int j),some (.int tt),some (.ref p),some ve,some (.int o.dn),some (.int o.ov),some (.ref o.r1),some (.ref o.ln),some (.ref b),u,S])/\Kk H6 G/\Lb N {(sp),y,I,L} {(b),q,sh,d,Z,sd,ps} o.ls o.s i G) {{_,rfl},λ_ _ e _=>e,ps,_,g6,ra.tr} (λi σ G _ h=>dD.of (h.2.1 _ _ J.hl rfl)) (λi v σ G hv h=>?_) (λσ G h=>?_)}
 ·let ((u,rfl),kG,a4,sG,gG,Q):=h;let (l,el,hl):=aQ J.lp hv;let hl:=hl.tup λ_ _ e=>kG _ _ e rfl;let li:i<o.ls.length:=(c8.mp el).1;rw [A6 li,show o.ls[i]=l from(c8.mp el).2] at Q;cases Q with
  | @cons _ s1 _ _ _ hs htr=>
   let (av,xv,rfl,a9,aq):=hl.at1;let (ty,am,e):=iA (K:=K) a9;refine {_,rfl,_,_,_,_,rfl,.ty "tuple",.inl {(ty),am,e},_,rfl,cO ?_};refine {_,rfl,_,rfl,{(sp),y,I,L},{ b:=b,pw:=q,sh:=sh,d:=d,pw':=Z,d':=sd,ps:=a4 },sG,s1,_,l,rfl,gG,b3,hl,hs,λac G2 k2 g2=>{_,rfl,cO ?_}};let (dz,a7):=g2.bv.bk.ob;let ao:=k2 _ _ a9 rfl;refine {_,rfl,b,dz,_,rfl,a7,rfl,b,q,sh,d,sp,y,I,s1.nn,s1.nt,s1.mo,rfl,{(dz),a7},Vl.to (v:=.int l.i) (by symm) _ {rfl,_,rfl,dC (by rw [hs.ends.1];simp) ?_}};exact {{_,rfl},kG.trans k2,ac,s1,g2,htr}
 ·let ((u,rfl),kG,a4,sG,gG,Q):=h;rw [E7 (by have:=J.lp.length;omega)] at Q;have:=Q.nil_eq;subst this;refine Ia (M:={(sp),y,I,L}) (Ab:={ b:=b,pw:=q,sh:=sh,d:=d,pw':=Z,d':=sd,ps:=a4 }) W hr gG (J.kk kG) wk m hve.symm λS H7 s7=>?_;let a3:=a5.trans ((HF Y).trans (kG.trans (HF s7)));exact k _ _ _ _ _ _ _ _ _ _ H7 a3 {T.w.kk a3,a3 _ _ T.b rfl,gG.bv.t1.same s7,gG.bv.t2.same s7}
inductive BT (K:Frag) (TG TP:Addr) (vs:List V) (H:Hp) (Q:VK) (E0_:XK):Prop|mk (a:Addr) (ns:List Int) (_:vs=[.ref a]) (_:dD K H a (ns.map V.int)) (_:ns.length<=63) (_:H TG=some (.tbl #[])) (_:H TP=some (.tbl #[])) (_:∀H',Q (.bl true) H')
def Bo (K:Frag) (TG TP:Addr):Sp:=BT K TG TP
def AF {f fD:Addr} {fd:FuncData} (F:tD K "law" "law" zA f fd) (hD:mg "_law_result"=some (.ref fD)) (nT:N.T1≠N.T2) (W:Wd P w K mg base N c):bK P w K mg base cX 12 f fd ["_law_script"] (Bo K N.T1 N.T2):=by
 refine F.ok Bw (λvs H Q E h=>?_) (λa5 A Y s H vs Q E u h=>?_)
 ·let (a,e,rfl,_):=h;rfl
 intro X D;let (a,e,rfl,C,U,a3,a1,q):=h;let nd:=Bw.nd;let sl:sizeLine=16777216:=sizeLine_eq;refine Wp.ex (cF (n:=1) nd rfl {_,aS (Sz W) u aN (aA aP aE),fH (vs:=[.ref a,.int 0]) (uL W) u aN (by symm) {a,e,0,rfl,C,U,λc0=>{c0,rfl,λp wk H1 s1 a2=>?_}}});refine cF (n:=2) nd rfl {_,aS (AG W) u aN (aA aP aE),fH (vs:=[.ref a,.int 1]) (uL W) u aN (by symm) {a,e,1,rfl,s1.seq C,U,λc1=>{c1,rfl,λbd sp ev le H2 s2 a0 b1 b2 b3 b4 b5 b6=>?_}}};let t2:=s1.trans s2;let (us,u1,u2,y):=a2.same s2;show 3;refine {_,aF (eJ v4 rfl (iF (cI AA (hU Bq (pv 0) (gF aX) (gF aX)) (pH (aA (aS (uL W) u aN (aA (pv 0) (aA aX aE))) aE)))) (aW (i:=4) nd rfl (j5 rfl)) aU) aU,?_};refine {_,rfl,_,rfl,_,rfl,a,_,rfl,t2.seq C,λl nl=>?_};rw [Om];let a4:(fT e (some 2) (some 6)).length<=63:=l7 (Nv _ _ _) U;let (H3,z,s3,f3):=Ut nl (.lst ((fT e (some 2) (some 6)).map V.int));rw [z];let t3:=t2.trans s3;refine {_,rfl,a,e,6,rfl,t3.seq C,U,λB=>{by show 1<=sizeLine;omega,λl4 n4=>?_}};let (H4,z,s4,f4):=Ut n4 (.lst [.int B]);rw [z];refine {l,l4,_,_,rfl,rfl,s4 _ _ f3,f4,by rw [g7];show _+1<=_;omega,λl5 n5=>?_};let (H5,z,s5,M):=Ut n5 (.lst ((fT e (some 2) (some 6)).map V.int++[.int B]));rw [z];let e5:(fT e (some 2) (some 6)).map V.int++[.int B]=(fT e (some 2) (some 6)++[B]).map V.int:=by rw [n6];rfl
 rw [e5] at M;let t:=s3.trans (s4.trans s5);let t5:=t2.trans t;generalize fT e (some 2) (some 6)++[B]=b at M;let T5:HG N wk p bd sp ev le H5:={bN.same t {(us),u1,u2},t _ _ a0,Bi (t5 _ _ a3),Bi (t5 _ _ a1)};refine {l5,rfl,{_,dD.of M},lM (xs:=b.map V.int) (λk σ G=>(∃(d:Nat) (o4 O L J S I m r g j o:Option V),σ=[some (.ref a),some (.ref p),some (.ref bd),some (.int (d:Int)),o4,O,L,J,S,I,m,r,g,j,o])/\G l5=some (.lst (b.map V.int))/\HG N wk p bd sp ev le G) {{12,_,_,_,_,_,_,_,_,_,_,_,rfl},M,T5} (λk σ G _ h=>dD.of h.2.1) (λk x σ G v h=>?_) (λσ G h=>?_)}
 ·let ((d,o4,O,L,J,S,I,m,r,g,j,o,rfl),Z,T):=h;rw [i8] at v;cases ex:b[k]? with
  | none=>rw [ex] at v;cases v
  | some cell=>
   rw [ex] at v;cases v;exact Xr hD nT W u T y b1 b3 b4 b5 λO L J S I m r g j o H' kk T'=>{{4,_,_,_,_,_,_,_,_,_,_,_,rfl},kk _ _ Z rfl,T'}
 ·let ((d,o4,O,L,J,S,I,m,r,g,j,o,rfl),_,_):=h;exact fI {_,mM,q _}
section
variable {h:Heap} {C f c T:Addr} {x q:Str} {st:Stmt} {oc:Value} {od an:Option Addr} {osl:Array (Option Value)} {kV doc pm cdv ct:Value} {fd:FuncData}
def Df.mk (X:K.In h) (G:h.Ns mainGlobals mg) (a:nsIn K mainGlobals x=some (some (.ref f))) (l:K.lookup f=some ⟨oc,od,.func (fnOf x x (eG st) (bV st) (aG st) .none kV doc pm an cdv ct),osl⟩) (h:codeIn K cdv x=true) (k:keepIn K (.ref f)=true):Df K mg x st:=⟨f,_,mg_of X G a,Ac l h k⟩
def Dc.mk (X:K.In h) (G:h.Ns mainGlobals mg) (a:nsIn K mainGlobals x=some (some (.ref f))) (l:K.lookup f=some ⟨oc,od,.func (fnOf x x (eG st) (bV st) (aG st) .none kV doc pm an (.ref c) ct),osl⟩) (h:codeIn K (.ref c) x=true) (k:keepIn K (.ref f)=true) (t:codeHdIn K c T=true):Dc K mg x st T:=⟨f,_,c,mg_of X G a,Dl l h k,t⟩
def Mf.mk (a:findIn K (.ref C) x=some (some (.ref f))) (i:isFn K (.ref f)=true) (l:K.lookup f=some ⟨oc,od,.func (fnOf x q (eG st) (bV st) (aG st) .none kV doc pm an cdv ct),osl⟩) (h:codeIn K cdv q=true) (k:keepIn K (.ref f)=true):Mf K C x q st:=⟨f,_,⟨a,i,k⟩,Ac l h k⟩
def Mc.mk (a:findIn K (.ref C) x=some (some (.ref f))) (i:isFn K (.ref f)=true) (l:K.lookup f=some ⟨oc,od,.func (fnOf x q (eG st) (bV st) (aG st) .none kV doc pm an (.ref c) ct),osl⟩) (h:codeIn K (.ref c) q=true) (k:keepIn K (.ref f)=true) (t:codeHdIn K c T=true):Mc K C x q st T:=⟨f,_,c,⟨a,i,k⟩,Dl l h k,t⟩
end
def IT (K:Frag) (l:List Addr):Bool:=(List.range 9).all λj=>(List.range 9).all λi=>kitOne K (.ref (l.getD j 0)) (.ref (l.getD i 0)) == some (decide (i=j))
def Zq {K:Frag} {l:List Addr} (h:IT K l=true) {j i:Nat} (hj:j<9) (hi:i<9):kitOne K (.ref (l.getD j 0)) (.ref (l.getD i 0))=some (decide (i=j)):=by
 unfold IT at h;rw [F7] at h;have h:=h j (C7.mpr hj);rw [F7] at h;exact eq_of_beq (h i (C7.mpr hi))
def nine {p:Nat->Prop} (h0:p 0) (h1:p 1) (h2:p 2) (h3:p 3) (h4:p 4) (h5:p 5) (h6:p 6) (h7:p 7) (h8:p 8) (j:Nat) (h:j<9):p j:=
 match j,h with
 | 0,_=>h0|1,_=>h1|2,_=>h2|3,_=>h3|4,_=>h4|5,_=>h5|6,_=>h6|7,_=>h7|8,_=>h8
def wcs {K:Frag} {l:List Addr} (e:∀j,j<9->uW K (l.getD j 0)) (pw:IT K l=true) (j:Nat) (hj:j<9):KH K (λi=>l.getD i 0) (l.getD j 0) j:=⟨e j hj,λ_ hi=>Zq pw hj hi⟩
def all_mk {l:OpenLaw} {w:World} {K:Frag} {mg:Str->Option Value} {fa:Addr} {N:Cn} {c:Nat->Addr} (nT:N.T1≠N.T2) (hfa:mg "law"=some (.ref fa)) (D:Df K mg "law" zA) (W:∀base,uY base mg->Wd l.prog w K mg base N c):
  ∃fd:FuncData,(∀(s:Shared) (v:Value),BindsTo s fd ⟨[v],[]⟩ [("_law_script",v)])/\∀base:Heap,K.In base->base.Ns mainGlobals mg->uY base mg->bK l.prog w K mg base cX 12 fa fd ["_law_script"] (Bo K N.T1 N.T2):=by
 obtain⟨f,fd,m,F⟩:=D;cases hfa.symm.trans m;obtain⟨oc,od,kV,doc,pm,an,cdv,ct,osl,rfl,lk,hcd⟩:=F.ex;have F:=Ac lk hcd F.kp;exact⟨_,λs v=>.of_eq rfl,λbase _ _ hB=>by
  obtain⟨fD,_,hD,_⟩:=(W base hB).d19
  exact AF F hD nT (W base hB)⟩
def tabsOk {h:Heap} {TG cTG:Addr} {TP cTP:Addr} (aTG:h.get? TG=some (tabObj #[])) (bTG:CodeHd h cTG TG) (aTP:h.get? TP=some (tabObj #[])) (bTP:CodeHd h cTP TP):∀p ∈ [TG,TP],h.get? p=some (tabObj #[])/\isCodeTable h p:=bA ⟨aTG,(bTG.tab aTG).isCodeTable⟩ (bA ⟨aTP,(bTP.tab aTP).isCodeTable⟩ cL)
def walk {l:OpenLaw} {q:Program} {loose:List Str} {XP:(Str->Option Value)->Heap->Prop} {YP:World->Heap->Prop} {d:DefRec} {K:Params->Frag} {TG TP:Addr} (hn:l.most=some 63) (hdf:d.params.defaults=[])
  (hY:∀(w:World) (h:Heap),YP w h->(K w.params).In h/\noTabs (K w.params)=true/\∀p ∈ [TG,TP],h.get? p=some (tabObj #[])/\isCodeTable h p)
  (F:∀(w:World) (mg:Str->Option Value) (fa:Addr) (h:Heap),(K w.params).In h->h.Ns mainGlobals mg->mg d.name=some (.ref fa) ->
   ∃fd:FuncData,(∀(s:Shared) (u:Value),BindsTo s fd ⟨[u],[]⟩ [("_law_script",u)])/\∀base:Heap,(K w.params).In base->base.Ns mainGlobals mg->uY base mg->bK l.prog w (K w.params) mg base cX 12 fa fd ["_law_script"] (Bo (K w.params) TG TP)):
  WalkO q loose XP YP l.row.toRowW d [] (λf vs=>PySem.call f vs):=
 L2.walk_ofT (z:=[TG,TP]) (n:=63) (k:=12) (x:="_law_script") (CX:=λ_=>cX) (sp:=λw=>Bo (K w.params) TG TP) hn (by decide) hdf ⟨rfl,by decide,by decide⟩ hY F (λ_ _ a ns hl _ hT hS=>⟨a,ns,rfl,hS,hl,hT _ (by simp),hT _ (by simp),λ_=>rfl⟩) λ_ _ _ _ _ z=>z
end
end Ls
end
local macro_rules | `(command|#check $s:str)=>do
 let l:=s.getString.toList
 let c<-(List.range (l.length/10)).mapM fun i=>`(command|theorem $(Lean.mkIdent (.str `PySem.W.Fast s!"tw{((l.drop (10*i)).take 10).foldl (fun n c=>n*90+c.toNat-35-(if c.toNat>64 then 1 else 0)-if c.toNat>92 then 1 else 0) 0}")):ident:True:=⟨⟩)
 return Lean.mkNullNode (c.toArray.map (·.raw))
#check ")M=~C+z$+-9.fw9,W~=01w|Jdjh)bWCF2(a9wa>UKi|eUp>Vl_?{q[hNa{PXC,|wj80-Nj,?;O4Q~3I&FwoSk<~bD*:Y4U|vX9^A0'dG&]Xu*G#LxM[C=1.CA99]tw%b^w6~j8OIEoS)&`Wm+H.%c'?'ZdJb0X3%4xoVm1#3jr'3:5KMn*D0-QT)+}Z'D~A~0ApA0PT:Oy9&`k_6hJADSVJ^tqr(&M`547}G4:).>PS?hWLdHm%;v2kNvh?28*ZPeqybRU[?CN`0`C=62q+?7zWZAI0-gy>3L,$k43AC5ij,KM^GF38Wf_-nBK(Uo_)`2Ks79;ZDZaIY>XMUZKwdGd}*B3z/GWA[7TrAR%w+Qm~3Z8/DA~LD^foHO->8PtR<63~YJS;<9Yuq&^b7=.2=tQY1<vH)(KxJ;gG-9]x+LV(F;CB*mSN9P7eZBm>/.msrpc&b{>^3cgi[+70_(]]rO~3F/Ct'b?%:Ebb=Ezo4eI&98(J4'Y2XJ5W4,EPeK~5+QVu&>~NEOyXONaU*gPDZHk}LL^nvCA(5km$DQoNX3_INI^4L>L%Elv2x-jS5X[^J_46sMVMaRf.(p&D]{.YdJg_E%Cx<X>lkOpG+t&7{{;06$2A_[u{W$f&2)nT09(kR*K^kvVBW_p2fS~8k/XTB<xUi't>FjX3f_2V=*wZ8Qct_t`Jo.o$c:7`{Fl;O7W}{qo7_S{By%zdzisY<,V8Wnyem}(9W=8fr}O>>MaV$a3BY^4$sI561aJ)LF2>EY0USyo#?%:/R4S{CPtCO3vv=jG2<1&+A*K#A<1e{V)K/2OQ4Tykn)-:b2r=:jIR`$R>CTov(H&^%PH=GH|0j_ZAR#*}WEj[>5#k)nFT=0;:'F5KOd2Vq>y)G415fB;9`&2ME37amD{3$_=;X_QN:Giw7lhl%2c}y+ae(vJD,84(ez%P%.*(OD6T$fr93L+`~}Lp5JQr4buH`.C<P+&'QiaiAEm)>9o2Eyy4FX*Y)'-4DB;QQDlKR#v;R#s-17RR8-Jc+CqC)PuSND+<5zEyT)u]4e_Fk,FCn|z~/5Scg*46ZjnH?3n<lbG^iu#k%4s.K'?VUpSDjqCY7<]A+QxFO-g7gmg/MXxL`*M5x?+-~71(?YFQ$9{FnH8b='umqOc|p-X=zIGdNcFF]8S3b/uJu;K,cNb~})Z0_.Yv.9<Qf)PPk{1J)0goz+X-*-9C,lZ()[ox3^5['5<.w0ec*`-Jg%SGO/h9V1Qun^YRw^MC*rB'Sr(lG6i9+CxTg^8)BGTUV$cAfGF=&=829RQ6Oi0E,C`UMGPfn'v&-p>4zx~a`vf>(BD0tVP:U}9SAH7sj*6x:=mn`w04,wyNdZYTLr3ph%%AIlj]KR{>HV_cwZ1-#%Mk7otA=[t)a9YZ~P>(a1nNHZVY2{0E_Z0A&Knc#G_xjbyXDa2EX_v480{3`R<80#RAz$o<-I1dsLCcJ2?xEO9o#+$JP|x:9BdnH5/-VXyli:nIzW?he[uZ)OFK{W8]J>oR:2PGE1t=OMp26pn{WOz*)[vS5EO<K=RZewoIFpVH5{73{ZPy1*eA9xW%U8/Ce,j/%qb.2AxKWF2alJpHSOk/Fm*re(1jW+K:U_0%y#p-sQ<}c3>x_r=:HfT-R;.Z3.`E<)i{;><UeDj2h1N~#QWas5taU;-=QK])<*kU6XC(j0l_=VzNTUFJ8Z4Zl/DBMCX(rV#0tuU7UPI$#$?(cAW/6r)YEA#)_R^|,U>'&>65%_YvOHu=M?su[-,?9Q.aD#SlYTsOu-HAwj]ol0Hm$%%+qj52t>D`5/q+cL8#Rr01)0o*Ug4d|XHk#5HdSLuaXbqMJkASsS;T`HfWBm%}jg90jI9Q):#t6)3q7*/.=OD=l)prfZ63u/x9`p^x(V(4B7UbMNy[7+304y8qN'84-1fDHdv>9$s/[D;E<VF=^=%vA/caQP^g=A[T7|R?u^nFH/>pD7O5BRGdZTCPWtFPB>TJ.,{wMJ'K*~z<Q9p^=?Hkx*[F>mJy.CY$}o%RK8g1?&*-c6~KYtvM0'STXC]|%,8UrR?VU,L=la|{*6&_-.jHzm;)c-S$X?)%Zwr[ONv1`]=vw<oB/xb6fWz-G7bBn}7]^u=,rg>vG?<154:$~fDYulz;O[)WYb-HlF)OG(>Q+6);CIgDc29D<H9QA5fqtLwDG6/pgVW6;&v#8^S=L/T8*`ge^:=S::rU6_6w_Kt/Oa<*b4MnR010Qql'LDr3h0GfRMdj<I,3BAnqz=<'0q{U?^^RXPa;+oS'T~q7FuIrR4}c82ehHnQcQo35jEB}M5cUpRT|WrlP545E'l]<1eb`6&-UD%[~>O<A:gYQ&hb`FNoxEbom*6,$rT:fR|v>a(BR`vx)8v~+&X~RcjEkrAn#:M?E}7b;=|yv,%R,d.6[Pt><pU~J-Dvo1#YtL6fMiRV/An0.4<IQ,oumb28bL*3FyiNL#=eme([Na<hD9HV7)8wCD`+y;xb)N4ZO:xd:.B0;_&|5J?*y>+ENdGQAi+W/CB)oD%58c+q+pq[b#,Y&u]^[{NrX8>}i)(C0EI5+:s2?iwqqY/S(.UKV=3H/q$ZBN*W9+;|L;g?);-w99Cw45SZ.DDJ/'%aRN:aHgCp[H/x8|PHMzoU3+z'FSzZaRzn)l-34$J_<f&~;,36Iu,:|/&9NlkE>kYIMG7PkIsT^mG2xM~:248bDM5qP.*d>s54:eW7ibTj)|0E-+22]1GMl_NP2K0NFJrPA_c;Ft$3cuH`|SC5=a5LD2_]{}FWIeT~+0+[<0-9)CtkBz;*a0-CZ)>x92':Oxm4}9+*:.D.?h5$*bWpWMTi8;RVEJ6ajBu[?[R9|D9S{-9H~kRkkUH/1m?F}<:'|*S*NKqPl{Z[H97a>ig27O4h&*^x33mG>8ENYbu[d4Q#a~[-?2}KE:;IJaY?L&$0|K~5ijC)AOy}11<:.%.][VtLL+SF>2F%*I?d?1B}pe>/]v}wCKq64um])L2hi]iGMylJ:F[dGe$kfRFtC*cQ)}(y8|:{2W$:e[SNI{I]D*7F)mroc>0a-1Q_rlrh(L_+.aj/~q}IzW9z>I_mt5k]GCqnXSvo]5#:~4J8&&X}6l|nRkq?-8:1~w4GQMv;Q`3E&(*x(r2}K?;{VKnd<ReDP=v^|?&zhGU9NjTlE(0-oVoAmdR==SH'pMF7#8C$#,I[hY$SWQxC8O:u#'b(==&BJQ6S|>M$7-%]<#W*V#Y=-C)v;,OX5gk-#]V^R2Fx=vIdL3Hww|q8P}q+rX<vpIRQw`*WW)kXC_<;uZur2E)3Q$>Hsexa+G)a*G>)xO$9F+av5N4aBmpvmX]ji3;a^zlr0?X0>7OLf(_$*T,vt}CCF`2wHlt'ykbWYRAc3Xm_CRR^;{7fvJGH?`>u;hb*0c+O7ejJ&b7h%^0-1pxo&[PmHW6?zR>fMUHOHk38E=U+Mwn7DY368k-M&ryC13T=7P3B{7JoD$6Xq}L>FM6`RH<aS}jEQp?MEj|b(gi01zG=nm_n.*,gCs44Rgd0RX]*}'PZ<]4T<y2CY,Ds,DBdbL,Xlj*gZB+P+cD<+H]&lo|#ls)QjZOdFKO'9kYm3Iv{=<)<7z5sdWg67DZ'CQO6#]0(Pxzs$e'OAXdnXvobbx#ZC0f|n]uN>GCF^^'-:xJcVLaWd2).6C`A$kTuWc'48>ExmdODHMS,2ZoOpEHbR$.A=toOJDytonM)nTBhoFmkoNSeK'}o?EZE`#NP8~b_iP0y3U~}P*j&w0/$9]iTK|*WG_q[PDb^A;+_M7T>e7`0,AXYHv^(ll>FkWKS>edYQYg`OQW3nv'+W9^w}r0.4?j2lN]Me#0$E(2m.Gr`RwM+,O,y0oLP`+,{:CO0C3IXP&C5sf>U{(<`<ZJg;CHnU-k,aG0Cw)oYJc(f;u^}j=W&qdCd81=qA6Ea(6+nf;}$y&.*OTn#-CD9QI.WQ:QlEg;ROhh?cFP^F^7{8s'LXVSKmT''4;^$ADL8kO<)ag-H`xK(E%VzLWD>e]=g:;O#'bxi8})D?>rRVR(,0299)/fi5f3z-|:V$n6Db.&VeqG#OY}lCU;Ov%MiErH[n*Mlkj#u6{beOf2LllN))1*O_R1|#xZCFjIuR.&JIIxy#=}eJ3cu3(|*>|8NgG%0D^4d)h?yv){m(-IE`wo~oii(Nae&Q/:o^s'I/i/g.6`.JtFVgSvmyLQLq}t|'-kj&m>ZZruSmpI;s^mO'itw6-?uT;8((c.JNB>du;W&R`x46}6rRT%r:MhtOW888X/Wg[LQ;pBS|Av$pR<e/mW(8A{Y?6F3XSuL`*N]O);G9Q1q$;(BQV},iBPw(mt3T;q.p2',FFFTcU^gOD^?x4n[=:Rj4/t3DF;26=EU+`|>,f8_MNz4lVtKMs8%]]_'?NLQ2uw5ydl/AcHGpn;g~wAee8w(.Coy=>kR_9f|*r2xxeEHa*J^*H];rRgzwq&{.MGgJBO$((D2peveaZ$to`6l*(ZZSC`eOc&~_/BD+F[:h46NCvy34Dc$.??G1C1,?A$K$I00'k5sVe#}O:HEz-u*/5.*Z}$/*#GxDr0)FYk`Nq$_?.b}K[9C3Lv7(G0LH`2n<>bAx-Ma}VyKaDms-O&;)hBp~8*[;8rENxAZDV;|dZ>~<lBm}kn[*w%{-30^?oNr221+&~:EPQ[[&Duc*Q*1]3$]I~aOH7D.1MLK2HdR*x-L6T59v?NN5%F6IJddN**jBs|ir&&.4=AAm.lI2GQu[5A|+^pz-c[c(zQEE.MGN.3YWN4p3H~1ECsdQS#]rl0Xu[cW%'rTWDD-?^7&f_&kl`8qCc>DX'eG#&Q1;sW;oi1>7V'hy[uwfa'4`GwE0MF?+Q[3X+k=0#=MX-nMT?5COBcmANFS&z&4}1zWnb2:7U:HEmeLaoM,g[szjWm6FNk.y-89AC<ilVZjSJE3CJ&3R'sQ1|JPzd~z]anV?rKEMi5KvxEx^^/l<]:^0NMQ,rR]W0<&3^h%rfw21a$%R>k6h&:qs#J1E#ADGY]de_*%UwMD4u0LFp=7#Om#^5x}YH;/%J0VtPyo9&+Y*_WnQ.7'q,&pwBdcB6#^*Y'W5b4F-cZAn1Z6L;wmGQ1D{X?_[Y`rulU9-G}klXs34R1y,Maa`]=v8E(v7%DNHn4wogea3UFaD]-q'ecFBq-hhR{p(k#%;[248r<d6a4Od(2<+rxV/Cay[wXe]I%gm1hO]fH#JC$.A`n0g,MHIY9n)hT[)O{=%OCJoVG~-.{(*ZY8.S$lKf,<p6>S,mc_0Er{9*IJ)%u<xVC'S/vQUW?65sKTY_A4*01lt|F=;6./97tsBQ(zGsEJa4[wHU(t8#Xi+adCc,JDsR9(N?=*'}I%Kij|WVHQ%0_x]K}T73#w:oc$>W>DfG{<A}c1+p94*:8<}Z2#%HW,Piq]KxT1wRN79P0#C82C+,U)7h$qk#wpFY<_YV(U,wnxQ_jn=wFfex(0S.(b:nMb4(h_H[~stZEz3E>eH~5a%x3wwI`E2V.3-Jk?IA/v<j1IesDySe;~|kJpf-K0MRPIS)71sf*XJ)oc$Q7:(Q{`HR`Q>ALxm.&X>6cg-av[#38Z*kHqYQ1iW9XMN(=X})^`8h6F~Q=C~rsT+I`d29y.W4#:V(d0$hdc>%k_EkHhuP*QcN}.0Y=>=v*'ZvQrl)(Xr3p-).C[K:;Csf(D,L#7pE':O.OG=2Y1J.8RW_E&>n2Tx<G.$5;8g/,`J=G+E,g$).vZ+'=fw7AF0~Rd0O=UCu<^:z]l/s,nYEC{p}pV.LTS%C/mb2w(c/#D?rV0/cExSVSL'-GFnZ#^>UjnFg;rDos~%5LHFF,`4&>}0B4WS79kIanj%6+<rJ%Po}(v2l%UJXY6agPL|?c3OcC5;{td1yS-P{-}b,`q[PV>/J14Dt/06J$y&Ve7WNO>P8-:t_mc&t8EA6VL|Z?:HEy#^+k7oiHjYTF9'VoN#gnAge'S]y);>qo~*B-WQPuR?PAOb-HzsJbMt,lmLmd7A=?g&/12Q;tZ%JuzNy..gJ'seNL}:>/F.D:NG3RV7J]p432j{WNE=1(dIF5>GvQ}d{#$5XxH`rwz#:hZD-%N}$MSsaPQ$|IP6.mO(,$1/?5^H{Z2nmj0DI'5(vio.(KY=EWBBTBoI/_T^78*RDRqz{}YTieHIjQhr(-vdm4ntQPm4VrK2$6DSeg*Li&Q?Om.'8z)657GWqG(S.:Hag>2=P+bRCuYGR8H6OGQIy583M5+2b)}~wGL'%KR6bAqv7PD83^1*(.ZY{3yl9~cugXf6X<slDBkS:*D_-&cIq{B-r]Wrr-z}%)vS'EbU=eG0b^X9&.8~+-UgUT6gZ%+<ckmgK.cbrD~Ja%N}.Nq-m(_A[_L_i/*)Oftxb`}=))VI8ExP3*3.ujGN#.)6/zwBol62b9^G~Tz)W<&?7mc%?R(a98,~cR[U8|J?USn?wA=%S/SV/uYgM-(Fysn-':_S)IjrQJ(H|fmHOn{ik[&%[A=ub+dqrHQK.)zbCQU|pL>)<|D/CJ<LfIIJ?~H;(S&Wl0I|jZsL|{7K0._%S0(?jwMryAS3Ac`y~^iQ]?'F$%H%OP9*]*D/s<>jS%?|dl+'rynE0..|djc~%D_W>-3p(8sAIMg?U|%5gA(^3shcLMoBw{t*TxkeYK_%OnCUD7x02=?j`J}Cg4rL7'1e*]%PGU=Pfc,*1&Jz8S#^7]E6Rz}`nWVjm6a_Va%1F.;()3mK|%bhRRTr5~C]AjXIth'aAvem/DcTRP`%5J]/2k:HxK|c{5Cdc]^8GBU*Iy5-.,1mID+?6N<jX(PKTu;rL5w=BA#z}s1DZOB;TbW}eD4Gq$ZC8^s[rxkB+J_UcUfEI9%(gc&BdW|,=4:41x|T5&>mH}Iy`d>BV0^HevtM~B~Gru0o7&'2b|>=e*/E$Mbv&W9?ZAtG,C>.>ik-uGv}1k[v?Zw%1T(eAZCYk=<tDaMOP*aIcL#M[^Qrm1{$=G:1(.c;x4~-x%f#5ME;B/pDu~>5}|:&u7fNd,_rlcLSn]/(txM.oux1PI_4-KXjqC_</`PJ3$N7aF[nGAHo=9c.3,V*x{,sr;9uwQ6(oOkRPTz1Q#_c=;V)ZK1OC066~%4Xa=-(<QU+xlwZ)>[:BLg<HQk6_.C63,FCt^I=UZoK{]I$M=x<5mIgzhH=hsq#fu?kP>IMUUbYMZ5/U~Tp6%S3^6cd`SRZ6Q)0`sEIgCnKW:-'/1iMmdI8'EK}A0l_9<mxcXNUEu{9UFVZzb>OsR_HgLSK72A-v/DY3sZl&JB~5HM:*.T-0L0_%RWee'tKC',`?X89Yo?(*F|}j%=?Jfi0IKp?AbWkpa{;V$Pd9:LT]SKC14R])8vm|LC.jmvDL=%3dxjl-9BmP%Nh3DnT76xDF,'RF>/512)|rY:>aEp.y^wwbbTm?K}r=:to^V$'_ak,s?1fmQbD=CIEF|u>v%$qENj$ZR7x3$owq=*$p%#?kgo;032xX]L.^U).t-?E6L%g;FCSe/Sqp6u>Tx:b)B,5(%2{,OQbq)s3+~{vG8uXB'BfF1)N=DF3I9##;T'Vd3jy/|If#KIPeIarJ^&G]&8`E~Ctt'p3B9W`-6-Kj65U(mlE$of7DeC*^qx/wC=H+0>B36<5Z^}xa7-rd<8a;'b9LmcN(k*q[i-=)#q~l$|Tdj{*BU4ad7azv*;UwXtEH2k9h)xWE=m9C&AtBpdndgb76BXSFTisWN^Oo^c<s;q?>_NX^~{TlD]~2bc1a?n%b[vAel]ip#n{`6VTt7v2tvcO~vy'U#<N4,/`%H:(JW5&;=Z3b%_jdB(6zG9GfQ*yR;m.`6Yl*d/<<K?KZr>x8QA85*fi'>43{/u'Mff2oM}M#.FwA]R_Bk:'2kjqx~5kK4oK7&&LBgf.SkOJ5WcH}FQN)4RhFs#Oa1p]ODl0~N&gGWs*4fn9iUB$c33>b<4a~$]}YvPEPbgq'*B~EEtEq5Sg:jhBr`G85y#X-HOhi$.p(;`<U(zZDX0z==S#D3lrE9_Od`uDxo{-{4Xgkyas#Ju2+-:$ASwK-5vYg9l-Rb$4.R:pstWvQ+g4^c4HXm=Q7r%pgR$m-/<kKRdwk}G=.CX{)dkl[A#>rn`wVd}"
open PySem PySem.W PyProof.Rows
set_option maxRecDepth 100000 in
set_option maxHeartbeats 0 in
theorem PySem.Challenge.cw_lentwork_k58_whole_runs_lines_done_again_holds : PySem.Challenge.rw_lentwork_k58_whole_runs_lines_done_again.Holds := by
  w_on; o_law; k_head; (case hw => w_witness2)
  k_fill
  refine Ls.walk (l := PySem.Challenge.rw_lentwork_k58_whole_runs_lines_done_again) (TG := 409) (TP := 470) rfl rfl (fun w h Y => ⟨km_in_of Y, by kernel_rfl, Ls.tabsOk (km_tabs_of Y 409 (by k_mem)) (codeHd_of_K (c := 413) (P := 409) (km_in_of Y) (by kernel_rfl)) (km_tabs_of Y 470 (by k_mem)) (codeHd_of_K (c := 472) (P := 470) (km_in_of Y) (by kernel_rfl))⟩) ?F
  case F =>
    intro w mg fa h KX G hmg
    refine Ls.all_mk (N := ⟨574, 384, 263, 409, 470, 628, 696⟩) (c := fun i => ([92, 104, 116, 128, 140, 152, 164, 176, 188, 68] : List Addr).getD i 0) (by decide) hmg (Ls.Df.mk KX G (by k_is) (by k_is) (by k_is) (by k_is)) fun base hB => ?_
    refine ⟨?G, hB, ?S, ?P, ?B, ?T, ?R, ?Q, ?iR, ?iC, ?iP, ?iS, ?iB, ?W, Ls.wcs (Ls.nine ?e0 ?e1 ?e2 ?e3 ?e4 ?e5 ?e6 ?e7 ?e8) (by kernel_rfl), by kernel_rfl, Ls.Df.mk KX G (by k_is) (by k_is) (by k_is) (by k_is), Ls.Df.mk KX G (by k_is) (by k_is) (by k_is) (by k_is), Ls.Df.mk KX G (by k_is) (by k_is) (by k_is) (by k_is), Ls.Df.mk KX G (by k_is) (by k_is) (by k_is) (by k_is), Ls.Df.mk KX G (by k_is) (by k_is) (by k_is) (by k_is), Ls.Df.mk KX G (by k_is) (by k_is) (by k_is) (by k_is), Ls.Df.mk KX G (by k_is) (by k_is) (by k_is) (by k_is), Ls.Df.mk KX G (by k_is) (by k_is) (by k_is) (by k_is), Ls.Df.mk KX G (by k_is) (by k_is) (by k_is) (by k_is), Ls.Df.mk KX G (by k_is) (by k_is) (by k_is) (by k_is), Ls.Df.mk KX G (by k_is) (by k_is) (by k_is) (by k_is), Ls.Dc.mk KX G (by k_is) (by k_is) (by k_is) (by k_is) (by kernel_rfl), Ls.Df.mk KX G (by k_is) (by k_is) (by k_is) (by k_is), Ls.Df.mk KX G (by k_is) (by k_is) (by k_is) (by k_is), Ls.Df.mk KX G (by k_is) (by k_is) (by k_is) (by k_is), Ls.Df.mk KX G (by k_is) (by k_is) (by k_is) (by k_is), Ls.Df.mk KX G (by k_is) (by k_is) (by k_is) (by k_is), Ls.Mf.mk (by k_is) (by k_is) (by k_is) (by k_is) (by k_is), Ls.Mf.mk (by k_is) (by k_is) (by k_is) (by k_is) (by k_is), Ls.Mf.mk (by k_is) (by k_is) (by k_is) (by k_is) (by k_is), Ls.Mf.mk (by k_is) (by k_is) (by k_is) (by k_is) (by k_is), Ls.Mf.mk (by k_is) (by k_is) (by k_is) (by k_is) (by k_is), Ls.Mf.mk (by k_is) (by k_is) (by k_is) (by k_is) (by k_is), Ls.Mf.mk (by k_is) (by k_is) (by k_is) (by k_is) (by k_is), Ls.Mf.mk (by k_is) (by k_is) (by k_is) (by k_is) (by k_is), Ls.Mf.mk (by k_is) (by k_is) (by k_is) (by k_is) (by k_is), Ls.Mf.mk (by k_is) (by k_is) (by k_is) (by k_is) (by k_is), Ls.Mf.mk (by k_is) (by k_is) (by k_is) (by k_is) (by k_is), Ls.Mf.mk (by k_is) (by k_is) (by k_is) (by k_is) (by k_is), Ls.Mf.mk (by k_is) (by k_is) (by k_is) (by k_is) (by k_is), Ls.Mf.mk (by k_is) (by k_is) (by k_is) (by k_is) (by k_is), Ls.Mf.mk (by k_is) (by k_is) (by k_is) (by k_is) (by k_is), Ls.Mf.mk (by k_is) (by k_is) (by k_is) (by k_is) (by k_is), Ls.Mf.mk (by k_is) (by k_is) (by k_is) (by k_is) (by k_is), Ls.Mf.mk (by k_is) (by k_is) (by k_is) (by k_is) (by k_is), Ls.Mf.mk (by k_is) (by k_is) (by k_is) (by k_is) (by k_is), Ls.Mf.mk (by k_is) (by k_is) (by k_is) (by k_is) (by k_is), Ls.Mc.mk (by k_is) (by k_is) (by k_is) (by k_is) (by k_is) (by kernel_rfl), Ls.Mf.mk (by k_is) (by k_is) (by k_is) (by k_is) (by k_is), Ls.Mf.mk (by k_is) (by k_is) (by k_is) (by k_is) (by k_is), Ls.Mf.mk (by k_is) (by k_is) (by k_is) (by k_is) (by k_is), Ls.Mf.mk (by k_is) (by k_is) (by k_is) (by k_is) (by k_is), Ls.Mf.mk (by k_is) (by k_is) (by k_is) (by k_is) (by k_is), Ls.Mf.mk (by k_is) (by k_is) (by k_is) (by k_is) (by k_is), Ls.Mf.mk (by k_is) (by k_is) (by k_is) (by k_is) (by k_is), Ls.Mf.mk (by k_is) (by k_is) (by k_is) (by k_is) (by k_is), Ls.Mf.mk (by k_is) (by k_is) (by k_is) (by k_is) (by k_is), Ls.Df.mk KX G (by k_is) (by k_is) (by k_is) (by k_is), Ls.Df.mk KX G (by k_is) (by k_is) (by k_is) (by k_is), Ls.Df.mk KX G (by k_is) (by k_is) (by k_is) (by k_is), Ls.Df.mk KX G (by k_is) (by k_is) (by k_is) (by k_is), Ls.Df.mk KX G (by k_is) (by k_is) (by k_is) (by k_is), Ls.Df.mk KX G (by k_is) (by k_is) (by k_is) (by k_is), Ls.Df.mk KX G (by k_is) (by k_is) (by k_is) (by k_is), Ls.Mf.mk (by k_is) (by k_is) (by k_is) (by k_is) (by k_is), Ls.Mf.mk (by k_is) (by k_is) (by k_is) (by k_is) (by k_is), Ls.Mf.mk (by k_is) (by k_is) (by k_is) (by k_is) (by k_is), Ls.Mf.mk (by k_is) (by k_is) (by k_is) (by k_is) (by k_is), Ls.Mf.mk (by k_is) (by k_is) (by k_is) (by k_is) (by k_is), Ls.Mf.mk (by k_is) (by k_is) (by k_is) (by k_is) (by k_is), Ls.Mf.mk (by k_is) (by k_is) (by k_is) (by k_is) (by k_is), Ls.Mf.mk (by k_is) (by k_is) (by k_is) (by k_is) (by k_is), Ls.Mf.mk (by k_is) (by k_is) (by k_is) (by k_is) (by k_is), Ls.Mf.mk (by k_is) (by k_is) (by k_is) (by k_is) (by k_is), Ls.Mf.mk (by k_is) (by k_is) (by k_is) (by k_is) (by k_is)⟩
    case G => exact ⟨mg_none_of KX G (by k_is), mg_none_of KX G (by k_is), mg_none_of KX G (by k_is), mg_none_of KX G (by k_is), mg_none_of KX G (by k_is), mg_none_of KX G (by k_is), mg_none_of KX G (by k_is), mg_none_of KX G (by k_is), mg_none_of KX G (by k_is), mg_none_of KX G (by k_is), mg_none_of KX G (by k_is), mg_none_of KX G (by k_is), mg_none_of KX G (by k_is), mg_none_of KX G (by k_is), mg_none_of KX G (by k_is), mg_none_of KX G (by k_is)⟩
    case S => exact ⟨by refine ⟨?_,?_,?_,?_⟩ <;> k_is, by (unfold L2.NoAttr; k_is), by (unfold L2.NoAttr; k_is), mg_of KX G (by k_is)⟩
    case P => exact ⟨by refine ⟨?_,?_,?_,?_⟩ <;> k_is, by (unfold L2.NoAttr; k_is), by (unfold L2.NoAttr; k_is), by (unfold L2.NoAttr; k_is), by (unfold L2.NoAttr; k_is), by (unfold L2.NoAttr; k_is), mg_of KX G (by k_is)⟩
    case B => exact ⟨by refine ⟨?_,?_,?_,?_⟩ <;> k_is, by (unfold L2.NoAttr; k_is), by (unfold L2.NoAttr; k_is), by (unfold L2.NoAttr; k_is), by (unfold L2.NoAttr; k_is), by (unfold L2.NoAttr; k_is), by (unfold L2.NoAttr; k_is), by (unfold L2.NoAttr; k_is), by (unfold L2.NoAttr; k_is), by (unfold L2.NoAttr; k_is), mg_of KX G (by k_is)⟩
    case R => exact ⟨by refine ⟨?_,?_,?_,?_⟩ <;> k_is, by (unfold L2.NoAttr; k_is), by (unfold L2.NoAttr; k_is), by (unfold L2.NoAttr; k_is), by (unfold L2.NoAttr; k_is), by (unfold L2.NoAttr; k_is), by (unfold L2.NoAttr; k_is), by (unfold L2.NoAttr; k_is), by (unfold L2.NoAttr; k_is), by (unfold L2.NoAttr; k_is), mg_of KX G (by k_is)⟩
    case Q => exact ⟨by refine ⟨?_,?_,?_,?_⟩ <;> k_is, by (unfold L2.NoAttr; k_is), by (unfold L2.NoAttr; k_is), by (unfold L2.NoAttr; k_is), by (unfold L2.NoAttr; k_is), by (unfold L2.NoAttr; k_is), by (unfold L2.NoAttr; k_is), by (unfold L2.NoAttr; k_is), mg_of KX G (by k_is)⟩
    case T => exact ⟨mg_of KX G (by k_is), by unfold L2.ExcIs; k_exc⟩
    case iR | iC | iP | iS | iB => exact ⟨by k_is, by k_is⟩
    case W => exact ⟨mg_of KX G (by k_is), mg_of KX G (by k_is), mg_of KX G (by k_is), mg_of KX G (by k_is), mg_of KX G (by k_is), mg_of KX G (by k_is), mg_of KX G (by k_is), mg_of KX G (by k_is), mg_of KX G (by k_is)⟩
    case e0 | e1 | e2 | e3 | e4 | e5 | e6 | e7 | e8 => exact ⟨by unfold L2.ExcIs; k_exc, by kernel_rfl, by k_is, by k_is, by k_is, by k_is, by k_is, by k_is, by k_is⟩

