import PyProof.Rows.All
import Wide.All
import OpenK.AllK
import Wide.FinOn
import Lean
import PyProof.EqAt
import PyProof.EqKinds
import PyProof.TupleCall
import PySem.Challenge.RW_lentwork_k84_whole_done_again_and_in_tim
set_option Elab.async false
set_option linter.all false
set_option maxRecDepth 100000
set_option compiler.extract_closed false
set_option autoImplicit true
open Lean Parser Tactic in
local macro_rules(kind:=«term{_}»)|s=>return s.setKind ``Term.anonymousCtor
open Lean Parser Tactic in
local macro_rules(kind:=Lean.Parser.Tactic.tacticLet__)
|s=>do
 let p:=s[2][0]
 let f s:=mkNode ``rcasesPatLo #[mkNode ``rcasesPatMed #[mkNullNode #[s]],mkNullNode]
 if p[0].isOfKind ``Term.tuple then
  let q<-p[0].rewriteBottomUpM fun s=>return if s.isIdent then f (mkNode ``rcasesPat.one #[s]) else if s.isOfKind ``Term.hole then f (mkNode ``rcasesPat.ignore s.getArgs) else if s.isOfKind ``Term.tuple then f (mkNode ``rcasesPat.tuple #[mkAtom "",mkNullNode (#[s[1][0],s[1][1]]++s[1][2].getArgs),mkAtom ""]) else s
  return mkNode ``obtain #[mkAtom "",mkNullNode #[q[0]],mkNullNode,mkNullNode #[p[3],mkNullNode #[p[4]]]]
 else return s.setKind ``tacticHave__
local macro_rules|`(∎)=>`(by omega)
local macro_rules|`(⋯)=>`(by decide +kernel)
theorem ρ {α:Sort u} {a:α}:a=a:=rfl
set_option maxHeartbeats 4000000
section
open PySem PySem.Spec PyProof.Rows PySem.W
abbrev c7:=@wpAny_bind
abbrev c8:=@List.getElem?_eq_getElem
abbrev c9:=@List.getElem?_eq_some_iff
abbrev d0:=@List.mem_cons_of_mem
abbrev d7:=@Nat.le_refl
abbrev f1:=@Heap.get?_push_of_some
abbrev f8:=@List.length_map
abbrev g6:=@List.mem_of_getElem?
abbrev g7:=@List.mem_cons
abbrev g8:=@List.mem_cons_self
abbrev g9:=@Int.le_refl
abbrev i0:=@wpAny_pure
abbrev i4:=@wpS_bind
abbrev i5:=@Heap.lt_size
abbrev i6:=@List.length_append
abbrev i7:=@List.getElem?_map
abbrev i8:=@Nat.zero_le
abbrev i9:=@List.mem_append_right
abbrev j0:=@Or.inl
abbrev j1:=@List.mem_append
abbrev j3:=@Heap.get?_push_size
abbrev j4:=@List.length_cons
abbrev j5:=@wpS_pure
abbrev j6:=@List.size_toArray
abbrev j7:=@Nat.lt_of_lt_of_le
abbrev j8:=@Nat.ne_of_lt
abbrev j9:=@List.mem_iff_getElem?
abbrev k7:=@List.map_cons
abbrev l7:=@List.length_take
abbrev l9:=@List.mem_singleton
abbrev m9:=@List.map_append
abbrev n8:=@Nat.le_trans
abbrev o4:=@Array.toList_append
abbrev o7:=@List.take_of_length_le
abbrev o8:=@List.mem_or_eq_of_mem_set
abbrev o9:=@List.getElem?_drop
abbrev p7:=@List.getElem?_append_left
abbrev p9:=@List.mem_map
abbrev q0:=@Bool.false_ne_true
abbrev q7:=@Array.getElem?_eq_getElem
abbrev q8:=@List.append_assoc
abbrev r6:=@Array.length_toList
abbrev r9:=@List.getElem_of_mem
abbrev t9:=@List.getElem?_take_of_lt
abbrev u8:=@List.getElem?_append_right
abbrev v4:=@PassesOwn.never
abbrev v5:=@Int.le_trans
abbrev v6:=@List.pairwise_cons
abbrev v7:=@wpAny_mono
abbrev v8:=@Nat.lt_irrefl
abbrev v9:=@List.mem_filter
abbrev w5:=@List.getElem?_set_ne
abbrev w8:=@List.getElem?_eq_none
abbrev w9:=@List.pairwise_iff_getElem
abbrev x0:=@Nat.min_eq_left
abbrev x6:=@List.length_range
abbrev x8:=@Int.le_of_lt
abbrev x9:=@List.nodup_cons
abbrev y0:=@wpAny_holding
abbrev y4:=@List.mem_of_mem_take
abbrev y6:=@List.getElem?_zip_eq_some
abbrev y7:=@Int.emod_lt_of_pos
abbrev y9:=@Int.emod_nonneg
abbrev z8:=@Bool.and_eq_true
abbrev z9:=@List.take_append_drop
abbrev A0:=@wpAny_truthy_bool
abbrev A1:=@wpAny_field
abbrev A2:=@List.take_add_one
abbrev A3:=@List.getD_eq_getElem?_getD
abbrev A4:=@List.mem_append_left
abbrev A5:=@Bool.false_eq_true
abbrev A6:=@List.sum_cons
abbrev A7:=@Nat.le_of_lt
abbrev A8:=@Ne.symm
abbrev A9:=@List.length_replicate
abbrev B0:=@List.length_singleton
abbrev B1:=@wpAny_callSpecial?_slot
abbrev B4:=@List.getElem?_set_self
abbrev B5:=@wpAny_of_eq
abbrev B6:=@wpAny_newObj_type
abbrev B7:=@wpAny_ite_false
abbrev B8:=@Nat.not_lt_zero
abbrev B9:=@Int.mul_le_mul_of_nonneg_left
abbrev C0:=@codeAny_mono
abbrev C1:=@wpAny_Call_Name_kw
abbrev C2:=@List.length_drop
abbrev C3:=@List.mem_range
abbrev C4:=@List.pairwise_append
abbrev C5:=@List.append_nil
abbrev C6:=@Heap.get?_update_other
abbrev C7:=@List.drop_drop
abbrev C8:=@PyProof.Rows.slot_tuple_getitem
abbrev C9:=@codeAny_builtin
abbrev D0:=@wpS_forRange
abbrev D1:=@List.mem_of_mem_drop
abbrev D2:=@Bool.not_eq_true'
abbrev D3:=@Heap.size_push
abbrev D4:=@wpAny_call_entry
abbrev D5:=@True.intro
abbrev D6:=@wpAny_passesOwn
abbrev D7:=@Bool.eq_iff_iff
abbrev D8:=@List.of_mem_zip
abbrev D9:=@wpAny_call
abbrev E1:=@List.extract_eq_take_drop
abbrev E2:=@List.drop_eq_getElem_cons
abbrev E3:=@Array.toList_reverse
abbrev E4:=@Around.under_plainId
abbrev E5:=@List.getElem?_eq_none_iff
abbrev E6:=@Nat.le_succ
abbrev E7:=@List.drop_zero
abbrev E8:=@Option.isSome_iff_exists
abbrev E9:=@Or.inr
abbrev F0:=@List.all_eq_true
abbrev F1:=@Int.eq_ofNat_of_zero_le
abbrev F2:=@List.mem_filterMap
abbrev F3:=@List.find?_cons
abbrev F4:=@wpAny_rule
abbrev F6:=@wpAny_setField_rec
abbrev F7:=@Nat.eq_or_lt_of_le
abbrev F8:=@List.filter_append
abbrev F9:=@List.length_zip
abbrev G4:=@Int.toNat_natCast
abbrev G6:=@List.Pairwise.nil
abbrev G7:=@Bool.eq_false_iff
abbrev G9:=@Nat.add_sub_of_le
abbrev J0:=@List.ext_getElem?
abbrev J3:=@Nat.le_of_eq
abbrev J4:=@Heap.get?_update_self
abbrev J5:=@F.slot_enumerate_next
abbrev J6:=@wpS_get
abbrev J7:=@wpAny_tryCatch
abbrev J8:=@List.length_filter_le
abbrev J9:=@PyProof.Rows.callWith_type1
abbrev K0:=@Nat.lt_succ_self
abbrev K1:=@codeAny_call_builtin
abbrev K2:=@wpS_mono
abbrev K3:=@Int.not_lt
abbrev K4:=@Array.toList_extract
abbrev K5:=@Array.getElem?_eq_some_iff
abbrev K6:=@Array.perm_iff_toList_perm
abbrev K7:=@List.filterMap_cons
abbrev K8:=@Heap.SameBut.update
abbrev K9:=@List.reverse_append
abbrev L0:=@wpAny_execs_nil
abbrev L1:=@List.length_set
abbrev L3:=@List.foldl_cons
abbrev L4:=@Nat.ne_of_gt
abbrev L5:=@Obj.data_mapFields
abbrev L6:=@wpAny_setField
abbrev L7:=@wpAny_seqItems
abbrev L8:=@wpS_modify
abbrev L9:=@List.take_take
abbrev M0:=@Bool.and_false
abbrev M2:=@F.plain_set_update_loop
abbrev M3:=@Option.some.injEq
abbrev M4:=@wpAny_pyIter_list
abbrev M5:=@List.take_sublist
abbrev M6:=@Array.toList_push
abbrev M7:=@Array.size_append
abbrev M8:=@PassesOwn.leaving
abbrev M9:=@List.nodup_append
abbrev N0:=@Nat.lt_trichotomy
abbrev N1:=@Calls.callWith_builtin
abbrev N2:=@List.drop_eq_nil_of_le
abbrev N3:=@wpAny_standAt
abbrev N4:=@wpAny_attempt
abbrev N5:=@List.any_cons
abbrev N6:=@Nat.le_add_right
abbrev N7:=@Nat.succ_le_succ
abbrev N8:=@List.take_length
abbrev N9:=@List.not_mem_nil
abbrev O0:=@Obj.isFreed_of_fields
abbrev O1:=@wpAny_loadPart'
abbrev O2:=@List.length_nil
abbrev O3:=@List.map_nil
abbrev O4:=@Calls.evalArgs_plain
abbrev O5:=@Array.size_push
abbrev O6:=@List.replicate_succ'
abbrev O7:=@List.range_succ
abbrev O8:=@List.map_map
abbrev O9:=@Int.add_zero
abbrev P1:=@List.mem_map_of_mem
abbrev P2:=@wpAny_ite_true
abbrev P3:=@wpS_lift
abbrev P4:=@Int.mul_nonneg
abbrev P5:=@wpAny_letGo
abbrev P6:=@wpAny_pyIter_tuple
abbrev P7:=@Nat.lt_of_le_of_lt
abbrev P8:=@Code.quiet_builtin
abbrev P9:=@Int.lt_of_lt_of_le
abbrev Q0:=@List.getElem?_take
abbrev Q1:=@List.take_nil
abbrev Q3:=@List.take_add
abbrev Q4:=@Int.lt_irrefl
end
namespace L2
open PySem PySem.Spec PyProof.Rows
abbrev cC:=Sum Int Str
def sI:cC->Value->Bool
 | .inl k,v=>Value.isInt k v
 | .inr x,v=>Value.isStrOf x v
def JN (w:World):cC->Int
 | .inl k=>hashInt k
 | .inr x=>hashStr w x
theorem cW:∀{k:cC} {v:Value},sI k v=true->(∃i t,k=Sum.inl i/\v=Value.int i t)\/(∃x t,k=Sum.inr x/\v=Value.str x t)
 | .inl i,v,h=>by
  let (t,e):=Value.isInt_shape (k:=i) (v:=v) h
  exact .inl {(i),t,rfl,e}
 | .inr x,v,h=>by
  let (t,e):=Value.isStrOf_shape (x:=x) (v:=v) h
  exact .inr {(x),t,rfl,e}
def Fq (i:Int) (t:Tok):sI (.inl i) (.int i t)=true:=by simp [sI,Value.isInt]
def Fp (x:Str) (t:Tok):sI (.inr x) (.str x t)=true:=by simp [sI,Value.isStrOf]
def AQ (a b:Int):decide ((Sum.inl a:cC)=Sum.inl b)=(a == b):=by
 by_cases e:a=b
 ·subst e;simp
 ·let h:¬ (Sum.inl a:cC)=Sum.inl b:=λq=>e (Sum.inl.inj q);rw [decide_eq_false h];exact(beq_eq_false_iff_ne.mpr e).symm
def AM (a b:Str):decide ((Sum.inr a:cC)=Sum.inr b)=decide (a=b):=by
 by_cases e:a=b
 ·subst e;simp
 ·let h:¬ (Sum.inr a:cC)=Sum.inr b:=λq=>e (Sum.inr.inj q);rw [decide_eq_false h,decide_eq_false e]
def AO (a:Int) (b:Str):decide ((Sum.inl a:cC)=Sum.inr b)=false:=decide_eq_false (λq=>nomatch q)
def AN (a:Str) (b:Int):decide ((Sum.inr a:cC)=Sum.inl b)=false:=decide_eq_false (λq=>nomatch q)
def cK (prog:Program) (w:World):PySem.KeyKind prog w cC where
 is:=sI
 hash:=JN w
 inj:=λv a b ha hb=>by
  rcases cW ha with ⟨i,t,rfl,rfl⟩|⟨x,t,rfl,rfl⟩
  ·rcases cW hb with ⟨j,u,rfl,e⟩|⟨y,u,rfl,e⟩
   ·injection e with e1 _;rw [e1]
   ·exact nomatch e
  ·rcases cW hb with ⟨j,u,rfl,e⟩|⟨y,u,rfl,e⟩
   ·exact nomatch e
   ·injection e with e1 _;rw [e1]
 byValue:=λk v h=>by
  rcases cW h with ⟨i,t,rfl,rfl⟩|⟨x,t,rfl,rfl⟩ <;> rfl
 pyHash:=λhv h=>by
  rcases cW hv with ⟨i,t,rfl,rfl⟩|⟨x,t,rfl,rfl⟩
  ·exact wpAny_pyHash_int h
  ·exact wpAny_pyHash_str h
 eqBool:=λhu hv h=>by
  rcases cW hu with ⟨i,t,rfl,rfl⟩|⟨x,t,rfl,rfl⟩
  ·rcases cW hv with ⟨j,u,rfl,rfl⟩|⟨y,u,rfl,rfl⟩
   ·rw [AQ] at h;exact wpAny_eqBool_int h
   ·rw [AO] at h;exact SeqAt.EqAt.int_str i t y u _ _ _ _ h
  ·rcases cW hv with ⟨j,u,rfl,rfl⟩|⟨y,u,rfl,rfl⟩
   ·rw [AN] at h;exact SeqAt.EqAt.str_int x t j u _ _ _ _ h
   ·rw [AM] at h;exact wpAny_eqBool_str h
 «strs»:=λk x t v h=>by
  rcases cW h with ⟨i,u,rfl,e⟩|⟨y,u,rfl,e⟩
  ·exact nomatch e
  ·injection e with e1 _
   subst e1
   cases v <;> rfl
def wN (prog:Program) (w:World) (i:Int) (t:Tok):(cK prog w).is (.inl i) (.int i t)=true:=Fq i t
def wM (prog:Program) (w:World) (x:Str) (t:Tok):(cK prog w).is (.inr x) (.str x t)=true:=Fp x t
inductive V where
 | non|bl (b:Bool)|int (i:Int)|str (x:Str)|byt (b:Array UInt8)|flt (b:UInt64)|ref (a:Addr)|ty (n:String)
 deriving DecidableEq
def bK:V->Value->Prop
 | .non,u=>u=Value.none
 | .bl b,u=>u=Value.bool b
 | .int i,u=>∃t,u=Value.int i t
 | .str x,u=>∃t,u=Value.str x t
 | .byt b,u=>∃t,u=Value.bytes b t
 | .flt b,u=>∃t,u=Value.float b t
 | .ref a,u=>u=Value.ref a
 | .ty n,u=>u=Value.type n
abbrev bG:List V->List Value->Prop:=Paired bK
theorem bG.length {xs:List V} {us:List Value} (r:bG xs us):xs.length=us.length:=Paired.length r
def aM {α β:Type} {F:α->β->Prop} {xs:List α} {ys:List β} {i:Nat} {x:α} (p:Paired F xs ys) (e:xs[i]?=some x):∃y,ys[i]?=some y/\F x y:=by
 induction p generalizing i with
 | nil=>cases e
 | cons r t ih=>
  cases i with
  | zero=>cases e;exact {_,rfl,r}
  | succ i=>exact ih (i:=i) e
def bG.get {xs:List V} {us:List Value} {i:Nat} {x:V} (p:bG xs us) (e:xs[i]?=some x):∃u,us[i]?=some u/\bK x u:=aM p e
theorem bG.set {x:V} {u:Value} (r:bK x u) {xs:List V} {us:List Value} (i:Nat) (p:bG xs us):bG (xs.set i x) (us.set i u):=by
 induction p generalizing i with
 | nil=>exact .nil
 | cons q t ih=>
  cases i with
  | zero=>exact .cons r t
  | succ i=>exact .cons q (ih i)
def bG.append {xs ys:List V} {us ws:List Value} (p:bG xs us) (s:bG ys ws):bG (xs++ys) (us++ws):=by
 induction p with
 | nil=>exact s
 | cons r _ t=>exact .cons r t
theorem bG.take {xs:List V} {us:List Value} (n:Nat) (p:bG xs us):bG (xs.take n) (us.take n):=by
 induction p generalizing n with
 | nil=>rw [Q1,Q1];exact .nil
 | cons q t ih=>
  cases n with
  | zero=>exact .nil
  | succ n=>exact .cons q (ih n)
theorem bG.drop {xs:List V} {us:List Value} (n:Nat) (p:bG xs us):bG (xs.drop n) (us.drop n):=by
 induction p generalizing n with
 | nil=>rw [List.drop_nil,List.drop_nil];exact .nil
 | cons q t ih=>
  cases n with
  | zero=>exact .cons q t
  | succ n=>exact ih n
def iJ:Option V->Option Value->Prop
 | some v,some u=>bK v u
 | none,none=>True
 | _,_=>False
def KV {κ:Type}:List (κ × V)->List (κ × Value)->Prop:=Paired λ(p:κ × V) (q:κ × Value)=>p.1=q.1/\bK p.2 q.2
def kV:cC->V
 | .inl i=>.int i
 | .inr x=>.str x
inductive HO where
 | lst (xs:List V)
 | tup (xs:List V)
 | dK (kvs:List (cC × V))|dT (kvs:List (List cC × V))
 | set (S:Int->Bool) (n:Nat)
 | ins (C dx:Addr) (fs:List (Str × V))
 | own (x:Addr)
 | xd (fs:List (Str × V))
 | met (f x:Addr)
 | rng (lo hi:Int)
 | frz (o:Obj) (u:HO)
 | tbl (ps:Array Value)
 | ext (φ:Heap->Prop)
abbrev Hp:=Addr->Option HO
def aS (H:Hp) (a:Addr) (o:HO):Hp:=λb=>if b=a then some o else H b
def aB {H:Hp} {a:Addr} {o:HO}:aS H a o a=some o:=by unfold aS;rw [if_pos rfl]
def aC {H:Hp} {a b:Addr} {o:HO} (h:b≠a):aS H a o b=H b:=by unfold aS;rw [if_neg h]
def bO {H:Hp} {a:Addr} {o u:HO}:aS (aS H a o) a u=aS H a u:=by
 funext b;unfold aS;split <;> rfl
def aI {H:Hp} {a b:Addr} {o u:HO} (h:H a=some o) (h':H b=some u) (d:o≠u):a≠b:=by
 intro e;subst e;rw [h] at h';exact d (Option.some.inj h')
def aD {H:Hp} {a b:Addr} {o:HO} (h:H a=some o) (h':H b=none):a≠b:=by
 intro e;subst e;rw [h] at h';cases h'
section
variable (P:Program) (w:World)
def bL (H:Hp) (h:Heap) (a:Addr):HO->Prop
 | .lst xs=>xs.length<=sizeLine/\∃(its:List Value) (n:Nat),bG xs its/\h.get? a=some { cls:=.type "list",data:=.seq its.toArray n }
 | .tup xs=>xs.length<=sizeLine/\∃its:List Value,bG xs its/\IsTup h a its.toArray
 | .dK kvs=>kvs.length<=sizeLine/\(a == sysModules)=false/\∃vs,KV kvs vs/\h.DictOf (cK P w) a vs
 | .dT kvs=>kvs.length<=sizeLine/\(a == sysModules)=false/\∃xs:List (List cC × Addr × Value),
   Paired (λ(p:List cC × V) (q:List cC × Addr × Value)=>p.1=q.1/\H q.2.1=some (.tup (p.1.map kV))/\bK p.2 q.2.2) kvs xs /\
   ∃o es ep,h.get? a=some o/\o.ExactDict/\o.data=.dict es ep/\es.toList=xs.map (entryOfKey (tupleKind (cK P w)))/\(xs.map (·.1)).Nodup
 | .set S n=>h.SetOf (intKind P w) a S n
 | .ins C dx fs=>H dx=some (.own a)/\fs.length<=1000/\dx≠a/\h.get? a=some (PySem.W.instObj C dx) /\
   ∃mA,h.Ns1 dx mA/\(∀f,iJ (fs.lookup f) (mA f))/\PySem.Within mA (fs.map (·.1))
 | .own _=>∃o,h.get? a=some o
 | .xd fs=>∃mA,h.Ns1 a mA/\∀f,iJ (fs.lookup f) (mA f)
 | .rng lo hi=>∃t u v,h.get? a=some { cls:=.type "range",data:=.fields #[.int lo t,.int hi u,.int 1 v] }
 | .frz o u=>h.get? a=some o/\bL H h a u
 | .tbl ps=>h.get? a=some { cls:=.none,data:=.fields ps }
 | .met f x=>h.get? a=some (PySem.W.methodObj (.ref f) (.ref x))
 | .ext φ=>φ h/\(∃o,h.get? a=some o)/\∀h1 h2:Heap,φ h1->(∀o,h1.get? a=some o->h2.get? a=some o)->φ h2
def iH (H:Hp) (h:Heap):Prop:=∀a o,H a=some o->bL P w H h a o
end
section
variable {P:Program} {w:World} {H H':Hp} {h h':Heap} {a:Addr} {o:HO}
theorem bL.lt (x:bL P w H h a o):a<h.objs.size:=by
 cases o with
 | lst xs=>let (_,_,_,_,e):=x;exact i5 e
 | tup xs=>let (_,_,_,p):=x;exact p.lt
 | dK kvs=>let (_,_,_,_,o,_,_,e,_):=x;exact i5 e
 | dT kvs=>let (_,_,_,_,o,_,_,e,_):=x;exact i5 e
 | set S n=>let (o,_,_,_,e,_):=x;exact i5 e
 | ins C dx fs=>let (_,_,_,e,_):=x;exact i5 e
 | own y=>let (_,e):=x;exact i5 e
 | xd fs=>let (_,(_,_,_,e,_),_):=x;exact i5 e
 | rng lo hi=>let (_,_,_,e):=x;exact i5 e
 | frz ob u=>let (e,_):=x;exact i5 e
 | tbl ps=>exact i5 (show h.get? a=some _ from x)
 | met f y=>exact i5 (show h.get? a=some _ from x)
 | ext φ=>let (_,(_,e),_):=x;exact i5 e
def Paired.mapP {α β:Type} {F G:α->β->Prop} {l₁:List α} {d:List β} (p:Paired F l₁ d) (f:∀a b,F a b->G a b):Paired G l₁ d:=PySem.Paired.mono f p
def bL.stay (x:bL P w H h a o) (k:∀b u,(b=a\/H b=some (.own a))->h.get? b=some u->h'.get? b=some u)
  (F:∀b,H b=some (.own a)->H' b=some (.own a)) (J:∀b xs,H b=some (.tup xs)->H' b=some (.tup xs)):bL P w H' h' a o:=by
 induction o with
 | lst xs=>let (z,B,n,r,e):=x;exact {z,B,n,r,k _ _ (.inl rfl) e}
 | tup xs=>let (z,B,r,i,e,c):=x;exact {z,B,r,i,k _ _ (.inl rfl) e,c}
 | dK kvs=>let (z,y,L,r,i,es,j,e,c):=x;exact {z,y,L,r,i,es,j,k _ _ (.inl rfl) e,c}
 | dT kvs=>
  let (z,y,xs,r,i,es,j,e,c):=x;exact {z,y,xs,Paired.mapP r λp q z=>{z.1,J _ _ z.2.1,z.2.2},i,es,j,k _ _ (.inl rfl) e,c}
 | set S n=>let (i,es,j,t,e,c):=x;exact {i,es,j,t,k _ _ (.inl rfl) e,c}
 | ins C dx fs=>
  let (d,z,I,e,mA,(D,es,j,G,c),r):=x;exact {F _ d,z,I,k _ _ (.inl rfl) e,mA,{D,es,j,k _ _ (.inr d) G,c},r}
 | own y=>let (i,e):=x;exact {i,k _ _ (.inl rfl) e}
 | xd fs=>let (mA,(D,es,j,e,c),r):=x;exact {mA,{D,es,j,k _ _ (.inl rfl) e,c},r}
 | rng lo hi=>let (t,u,v,e):=x;exact {t,u,v,k _ _ (.inl rfl) e}
 | frz i u ih=>let (e,q):=x;exact {k _ _ (.inl rfl) e,ih q}
 | tbl ps=>
  let e:h.get? a=some { cls:=.none,data:=.fields ps }:=x;show h'.get? a=some { cls:=.none,data:=.fields ps };exact k a _ (.inl rfl) e
 | met f y=>
  let e:h.get? a=some (PySem.W.methodObj (.ref f) (.ref y)):=x;show h'.get? a=some (PySem.W.methodObj (.ref f) (.ref y));exact k a _ (.inl rfl) e
 | ext φ=>let (p,(o,e),st):=x;exact {st _ _ p λo q=>k _ _ (.inl rfl) q,{o,k _ _ (.inl rfl) e},st}
theorem iH.lt (x:iH P w H h) (e:H a=some o):a<h.objs.size:=(x a o e).lt
def iH.fresh (x:iH P w H h) (e:h.objs.size<=a):H a=none:=by
 cases q:H a with
 | none=>rfl
 | some u=>exact absurd (j7 (x.lt q) e) (v8 _)
def iH.kept (x:iH P w H h) (k:∀b u,h.get? b=some u->h'.get? b=some u):iH P w H h':=λa o e=>
 (x a o e).stay (λb u _ q=>k b u q) (λ_ q=>q) λ_ _ q=>q
def iH.laid (x:iH P w H h) (k:∀b u,h.get? b=some u->h'.get? b=some u) (n:h.objs.size<=a) (d:bL P w (aS H a o) h' a o):iH P w (aS H a o) h':=λb u e=>by
 have j:=x.fresh n
 by_cases i:b=a
 ·subst i;rw [aB] at e;cases e;exact d
 ·rw [aC i] at e
  exact(x b u e).stay (λc v _ q=>k c v q) (λc q=>by rw [aC (aD q j)];exact q) λc xs q=>by rw [aC (aD q j)];exact q
end
def Rd (H:Hp) (a:Addr) (u:HO):Prop:=H a=some u\/∃o,H a=some (.frz o u)
def Rd.ok {P:Program} {w:World} {H:Hp} {h:Heap} {a:Addr} {u:HO} (r:Rd H a u) (x:iH P w H h):bL P w H h a u:=by
 rcases r with r|⟨o,r⟩
 ·exact x a u r
 ·let (_,q):=x a _ r;exact q
def HE:Option HO->Prop
 | some (.lst _)=>True
 | some (.dK _)=>True
 | some (.dT _)=>True
 | some (.set _ _)=>True
 | some (.ins _ _ _)=>True
 | some (.ext _)=>True
 | _=>False
section
variable {P:Program} {w:World} {H:Hp} {h h':Heap} {x e:Addr} {o':HO}
def iH.write (J:iH P w H h) (n:HE (H x)) (G:e=x\/H e=some (.own x)) (k:∀b u,b≠e->h.get? b=some u->h'.get? b=some u) (D:∃u,h'.get? e=some u)
  (F:bL P w (aS H x o') h' x o'):iH P w (aS H x o') h':=λb u q=>by
 let i:∀c y,H c=some (.own y)->c≠x:=λc y r z=>by subst z;rw [r] at n;exact n
 let j:∀c xs,H c=some (.tup xs)->c≠x:=λc xs r z=>by subst z;rw [r] at n;exact n
 by_cases B:b=x
 ·subst B;rw [aB] at q;cases q;exact F
 ·rw [aC B] at q
  by_cases d:b=e
  ·let I:H b=some (.own x):=by
    rcases G with z|z
    ·exact absurd (d.trans z) B
    ·rw [d];exact z
   rw [q] at I;cases I;let (v,L):=D;exact {v,by rw [d];exact L}
  ·refine(J b u q).stay (λc v hc r=>k c v ?_ r) (λc r=>by rw [aC (i c b r)];exact r) λc xs r=>by rw [aC (j c xs r)];exact r
   rcases hc with rfl|hc
   ·exact d
   ·rintro rfl;rcases G with z|z
    ·exact i c b hc z
    ·rw [hc] at z;cases z;exact B rfl
end
structure Un (fs ex:List Addr) (H H':Hp) (h h':Heap):Prop where
 keep:∀b o,h.get? b=some o->H b=none->b ∉ fs->b ∉ ex->h'.get? b=some o
 slot:∀b o,h.get? b=some o->H b=none->b ∈ fs->b ∉ ex->∃sl,h'.get? b=some { o with slots:=sl }
 free:∀b o,h.get? b=some o->H b=none->b ∉ ex->H' b=none
 there:∀b o,h.get? b=some o->b ∉ ex->∃o',h'.get? b=some o'
 tups:∀b xs,H b=some (.tup xs)->H' b=some (.tup xs)
 frzs:∀b o u,H b=some (.frz o u)->H' b=some (.frz o u)
 tbls:∀b ps,H b=some (.tbl ps)->∃more,H' b=some (.tbl (ps++more))
section
variable {fs fs' ex ex':List Addr} {H H1 H2:Hp} {h h1 h2 h':Heap} {a x e:Addr} {o:HO}
def Un.any (u:Un fs ex H H1 h h1) {b:Addr} {d:Obj} (q:h.get? b=some d) (n:H b=none) (i:b ∉ ex):∃y,h1.get? b=some { d with slots:=y }:=by
 by_cases j:b ∈ fs
 ·exact u.slot b d q n j i
 ·exact {d.slots,u.keep b d q n j i}
def Un.kept (k:∀b u,h.get? b=some u->h'.get? b=some u):Un fs ex H H h h':=
 {λb d q _ _ _=>k b d q,λb d q _ _ _=>{d.slots,k b d q},λ_ _ _ n _=>n,λb d q _=>{d,k b d q},λ_ _ q=>q,λ_ _ _ q=>q,λ_ ps q=>{#[],by rw [q];simp}}
def Un.refl:Un fs ex H H h h:=Un.kept λ_ _ q=>q
def Un.laid (k:∀b u,h.get? b=some u->h'.get? b=some u) (i:h.objs.size<=a) (d:H a=none):Un fs ex H (aS H a o) h h' where
 keep:=λb u q _ _ _=>k b u q
 slot:=λb u q _ _ _=>{u.slots,k b u q}
 free:=λb u q n _=>by rw [aC (j8 (j7 (i5 q) i))];exact n
 there:=λb u q _=>{u,k b u q}
 tups:=λb xs q=>by rw [aC (aD q d)];exact q
 frzs:=λb u xs q=>by rw [aC (aD q d)];exact q
 tbls:=λb ps q=>{#[],by rw [aC (aD q d),q];simp}
def Un.write (i:HE (H x)) (F:e=x\/H e=some (.own x)) (k:∀b u,b≠e->h.get? b=some u->h'.get? b=some u) (y:∃u,h'.get? e=some u):Un fs ex H (aS H x o) h h':=by
 let D:∀b,H b=none->b≠x:=λb n z=>by subst z;rw [n] at i;exact i
 let B:∀b,H b=none->b≠e:=λb n z=>by
  subst z;rcases F with r|r
  ·exact D b n r
  ·rw [n] at r;cases r
 let j:∀b u,H b=some u->¬ HE (some u)->b≠x:=λb u q nm z=>by subst z;rw [q] at i;exact nm i
 refine {λb u q n _ _=>k b u (B b n) q,λb u q n _ _=>{u.slots,k b u (B b n) q},λb u q n _=>by rw [aC (D b n)];exact n,λb u q _=>?_,
  λb xs q=>by rw [aC (j b _ q λz=>z)];exact q,λb u xs q=>by rw [aC (j b _ q λz=>z)];exact q,λb ps q=>{#[],by rw [aC (j b _ q λz=>z),q];simp}};by_cases d:b=e
 ·subst d;exact y
 ·exact {u,k b u d q}
end
def HK (h:Heap) (H:Hp):List Addr:=(List.range h.objs.size).filter λa=>(H a).isSome
def qZ (h:Heap) (H:Hp):Heap:=PySem.W.hideAll h (HK h H)
def Fv (h:Heap) (H:Hp):(qZ h H).objs.size=h.objs.size:=PySem.W.hideAll_size _ _
def My {h:Heap} {H:Hp} {b:Addr} {o:Obj} (e:h.get? b=some o) (n:H b=none):(qZ h H).get? b=some o:=
 PySem.W.hideAll_get _ e λd=>by
  have q:(H b).isSome=true:=(v9.mp d).2
  rw [n] at q;simp at q
def Sw {h:Heap} {H:Hp} {b:Addr} {o:Obj} (e:(qZ h H).get? b=some o):h.get? b=some o/\H b=none:=by
 let d:h.get? b=some o:=PySem.W.of_hideAll (HK h H) e;refine {d,?_};cases q:H b with
 | none=>rfl
 | some x=>
  let i:b ∈ HK h H:=v9.mpr {C3.mpr (i5 d),by simp [q]};let z:(qZ h H).get? b=none:=PySem.W.hideAll_none (HK h H) i;rw [z] at e;cases e
def oJ (g h:Heap) (L:Addr):List (Addr × Obj):=(List.range h.objs.size).filterMap λa=>if a=L\/(g.get? a).isSome=true then none else(h.get? a).map λo=>(a,o)
def iY {g h:Heap} {L a:Addr} {o:Obj} (h1:a≠L) (h2:g.get? a=none) (d:h.get? a=some o):(a,o) ∈ oJ g h L:=
 F2.mpr {a,C3.mpr (i5 d),by simp [h1,h2,d]}
def pN {g h:Heap} {L:Addr} {p:Addr × Obj} (hp:p ∈ oJ g h L):p.1≠L/\g.get? p.1=none/\h.get? p.1=some p.2:=by
 let (b,_,e):=F2.mp hp;split at e
 ·cases e
 ·rename_i hn;cases q:h.get? b with
  | none=>rw [q] at e;simp at e
  | some u=>
   rw [q] at e;simp only [Option.map_some,M3] at e;subst e;refine {λz=>hn (.inl z),?_,q};show g.get? b=none;cases r:g.get? b with
   | none=>rfl
   | some v=>exact(hn (.inr (by simp [r]))).elim
def pO {g h:Heap} {L:Addr}:News g L h (oJ g h L):=λp d=>let ⟨a,b,c⟩:=pN d;{(c),a,b}
structure Mod (K:PySem.W.Frag) (mg:Str->Option Value) (base:Heap):Prop where
 kin:K.In base
 glob:base.Ns mainGlobals mg
 blt:∃mb,base.Ns builtinsNs mb/\∀x:Str,x≠"__name__"->mb x=bootBuiltins x
 nolimit:base.NoLimit
structure Cx where
 prog:Program
 w:World
 K:PySem.W.Frag
 mg:Str->Option Value
 base:Heap
 A:Around
 N:List Str
 s₀:Shared
 H₀:Hp
 env:Env
 outer:List Env
 stack:List Env
 ex:List Addr
 fn:Str->Bool
 calm:Bool
 pn:List (Addr × Obj)
 xe:Value->Shared->Prop
def iZ (l:List Env):List Addr:=l.filterMap (·.frame)
abbrev Cx.fs (X:Cx):List Addr:=iZ X.outer
def BN (sc:Scope) (x:Str):Prop:=sc.names.lookup x=some .local\/sc.names.lookup x=some .cell\/sc.names.lookup x=some .free
def Au (sc:Scope) (x:Str):Prop:=sc.names.lookup x=some .local\/sc.names.lookup x=some .cell
def KB (env:Env) (h:Heap) (m:Str->Option Value) (x:Str) (u:Value):Prop:=
 (env.kindOf x=some .local/\m x=some u)\/((env.kindOf x=some .cell\/env.kindOf x=some .free)/\∃c,env.cells.lookup x=some c/\h.IsCell c (some u))
structure Cx.Ok (X:Cx):Prop where
 mod:Mod X.K X.mg X.base
 kind:X.env.scope.kind=.function
 glob:X.env.globals=mainGlobals
 blt:X.env.builtins=builtinsNs
 above:X.s₀.heap.objs.size<=X.env.locals
 inj:∀x y c,X.env.cells.lookup x=some c->X.env.cells.lookup y=some c->x=y
 has:∀x,(X.env.kindOf x=some .cell\/X.env.kindOf x=some .free)->∃c,X.env.cells.lookup x=some c
 cab:∀x c,X.fn x=true->X.env.cells.lookup x=some c->X.s₀.heap.objs.size<=c
 hd:X.calm=true->X.A.handled=none
 frames:X.A.frames=some X.stack
 stk:X.stack=X.outer\/(X.stack=X.env::X.outer/\X.env.frame=some X.env.locals)
 exf:∀b ∈ X.ex,b≠X.env.locals/\∀x c,X.env.cells.lookup x=some c->c≠b
 bs:∀b o,X.base.get? b=some o->X.s₀.heap.get? b=some o/\X.H₀ b=none
 bsz:X.base.objs.size<=X.s₀.heap.objs.size
 noex:∀b o,X.base.get? b=some o->b ∉ X.ex
 exfs:∀b ∈ X.ex,b ∉ X.fs
 funs:X.s₀.heap.FunFrames X.base X.outer
 frf:∀b ∈ X.fs,X.H₀ b=none
structure aP (X:Cx) (pins:List (Addr × Obj)) (σ:List (Option V)) (H:Hp) (s:Shared):Prop where
 ok:X.Ok
 os:s.os=X.s₀.os
 bare:AllBare s.gens
 base:Un X.fs X.ex X.H₀ H X.s₀.heap s.heap
 loc:∃m,s.heap.Ns X.env.locals m/\∀(i:Nat) (x:Str) (v:V),X.N[i]?=some x->σ[i]?=some (some v)->BN X.env.scope x->∃u,bK v u/\KB X.env s.heap m x u
 cell:∀x c,X.env.cells.lookup x=some c->∃v,s.heap.IsCell c v
 free:H X.env.locals=none
 freeC:∀x c,X.env.cells.lookup x=some c->H c=none
 pin:∀p ∈ X.pn++pins,s.heap.get? p.1=some p.2/\H p.1=none/\p.1≠X.env.locals/\p.1 ∉ X.fs/\∀v,p.2.data≠.cell v
 hok:iH X.prog X.w H s.heap
 len:σ.length=X.N.length
section
variable {X:Cx} {pins:List (Addr × Obj)} {σ:List (Option V)} {H H':Hp} {s:Shared} {h':Heap}
def Cx.Ok.nofr (d:X.Ok) {b:Addr} {o:Obj} (e:X.base.get? b=some o):b ∉ X.fs:=λi=>by
 have:=(d.funs.mem i).1
 rw [e] at this;cases this
theorem aP.bs (I:aP X pins σ H s):∀b o,X.base.get? b=some o->s.heap.get? b=some o/\H b=none:=λb o e=>
 {I.base.keep b o (I.ok.bs b o e).1 (I.ok.bs b o e).2 (I.ok.nofr e) (I.ok.noex b o e),I.base.free b o (I.ok.bs b o e).1 (I.ok.bs b o e).2 (I.ok.noex b o e)}
def aP.bk (I:aP X pins σ H s):∀b o,X.base.get? b=some o->s.heap.get? b=some o:=λb o e=>(I.bs b o e).1
theorem aP.mod (I:aP X pins σ H s):Mod X.K X.mg X.base:=I.ok.mod
def aP.kIn (I:aP X pins σ H s):X.K.In s.heap:=I.ok.mod.kin.keeps I.bk
def aP.fr (I:aP X pins σ H s):∃m,Fr X.base X.env.locals s.heap m:=
 let ⟨m,hn,_⟩:=I.loc
 {m,hn,I.bk,n8 I.ok.bsz I.ok.above}
theorem aP.lt (I:aP X pins σ H s):X.env.locals<s.heap.objs.size:=let ⟨_,hn,_⟩:=I.loc;hn.lt
def aP.sz (I:aP X pins σ H s):X.s₀.heap.objs.size<=s.heap.objs.size:=n8 I.ok.above (A7 I.lt)
def aP.nofs (I:aP X pins σ H s) {a:Addr} (h:s.heap.objs.size<=a):a ∉ X.fs:=λi=>by
 let (_,o,d,_):=I.ok.funs.mem i
 exact absurd (j7 (i5 d) (n8 I.sz h)) (v8 _)
def aP.cne (I:aP X pins σ H s):∀x c,X.env.cells.lookup x=some c->c≠X.env.locals:=λx c e z=>by
 let (v,o,j,n):=I.cell x c e
 let (m,(o',es,q,i,d,_),_):=I.loc
 rw [z,i] at j;cases j;rw [d] at n;cases n
theorem aP.funs (I:aP X pins σ H s):s.heap.FunFrames X.base X.outer:=by
 let n:∀(l:List Env),(∀b ∈ iZ l,b ∈ X.fs)->X.s₀.heap.FunFrames X.base l->s.heap.FunFrames X.base l:=by
  intro l
  induction l with
  | nil=>intro _ _;trivial
  | cons env r ih=>
   intro q y;let (J,(L,o,i,D,B,G),F):=y;let j:L ∈ X.fs:=q L (by unfold iZ;rw [K7,i];exact g8);let (M,e):=I.base.slot L o B (I.ok.frf L j) j λz=>I.ok.exfs L z j;exact {J,{L,_,i,D,e,G},ih (λb d=>q b (by unfold iZ;rw [K7,i];exact d0 _ d)) F}
 exact n X.outer (λ_ d=>d) I.ok.funs
theorem aP.stack (I:aP X pins σ H s):s.heap.FunFrames X.base X.stack:=by
 rcases I.ok.stk with e|⟨e,d⟩
 ·rw [e];exact I.funs
 ·rw [e];let (m,i,_):=I.loc;refine .cons (by rw [I.ok.kind];decide) d i ?_ I.funs;exact Heap.get?_none_of_le (n8 I.ok.bsz I.ok.above)
def aP.stkSub (I:aP X pins σ H s):∀b ∈ iZ X.stack,b ∈ X.env.locals::X.fs:=λb d=>by
 rcases I.ok.stk with e|⟨e,i⟩
 ·rw [e] at d;exact d0 _ d
 ·rw [e] at d
  unfold iZ at d
  rw [K7,i] at d
  exact d
def aP.stkFree (I:aP X pins σ H s):∀b ∈ iZ X.stack,H b=none:=λb hb=>by
 rcases g7.mp (I.stkSub b hb) with e|hb
 ·rw [e];exact I.free
 ·let (_,o,d,_):=I.ok.funs.mem hb
  exact I.base.free b o d (I.ok.frf b hb) λz=>I.ok.exfs b z hb
def aP.step {g':Array GenState} {t':Nat} {d':Drawn} {ch:List Addr} (I:aP X pins σ H s)
  (F:∀b ∈ ch,(b ∈ X.ex\/X.s₀.heap.objs.size<=b)/\b≠X.env.locals/\(∀x c,X.env.cells.lookup x=some c->c≠b)/\∀p ∈ X.pn++pins,p.1≠b)
  (G:∀b o,b≠X.env.locals->b ∉ X.fs->b ∉ ch->s.heap.get? b=some o->H b=none->h'.get? b=some o)
  (M:∀b o,b≠X.env.locals->b ∈ X.fs->b ∉ ch->s.heap.get? b=some o->H b=none->∃sl,h'.get? b=some { o with slots:=sl }) (y:∀b o,b ∉ ch->s.heap.get? b=some o->H b=none->H' b=none)
  (N:∀b o,b ∉ ch->s.heap.get? b=some o->∃o',h'.get? b=some o')
  (a0:∀b xs,H b=some (.tup xs)->H' b=some (.tup xs)) (W:∀b o u,H b=some (.frz o u)->H' b=some (.frz o u)) (U:∀b ps,H b=some (.tbl ps)->∃Y,H' b=some (.tbl (ps++Y)))
  (ns:∀m,s.heap.Ns X.env.locals m->h'.Ns X.env.locals m) (a2:iH X.prog X.w H' h') (hg:AllBare g'):
  aP X pins σ H' { s with heap:=h',gens:=g',drawn:=d',toks:=t' }:=by
 let a1:∀b o,X.s₀.heap.get? b=some o->b≠X.env.locals:=λb o e=>j8 (j7 (i5 e) I.ok.above);let L:∀b o,X.s₀.heap.get? b=some o->b ∉ X.ex->b ∉ ch:=λb o e j O=>by
  rcases (F b O).1 with z|z
  ·exact j z
  ·exact absurd (j7 (i5 e) z) (v8 _)
 let B:∀x c,X.env.cells.lookup x=some c->∀v,s.heap.IsCell c v->h'.IsCell c v:=λx c e v ⟨o,S,hd⟩=>by
  let D:c ∉ ch:=λz=>(F c z).2.2.1 x c e rfl;by_cases hc:c ∈ X.fs
  ·let (sl,q):=M c o (I.cne x c e) hc D S (I.freeC x c e);exact {_,q,hd}
  ·exact {o,G c o (I.cne x c e) hc D S (I.freeC x c e),hd}
 refine {I.ok,I.os,hg,{λb o e n O j=>?_,λb o e n O j=>?_,λb o e n j=>?_,λb o e j=>?_,λb xs e=>a0 b xs (I.base.tups b xs e),λb o xs e=>W b o xs (I.base.frzs b o xs e),λb ps e=>?_},?_,λx c e=>?_,?_,λx c e=>?_,λp hp=>?_,a2,I.len}
 ·exact G b o (a1 b o e) O (L b o e j) (I.base.keep b o e n O j) (I.base.free b o e n j)
 ·let (sl,J):=I.base.slot b o e n O j;let (a3,Z):=M b _ (a1 b o e) O (L b o e j) J (I.base.free b o e n j);exact {(a3),Z}
 ·let (o',J):=I.base.there b o e j;exact y b o' (L b o e j) J (I.base.free b o e n j)
 ·let (o',J):=I.base.there b o e j;exact N b o' (L b o e j) J
 ·let (m1,J):=I.base.tbls b ps e;let (m2,Z):=U b _ J;exact {m1++m2,by rw [Z,Array.append_assoc]}
 ·let (m,hn,hl):=I.loc;refine {m,ns m hn,λi x v J Z e3=>?_};let (u,r,l):=hl i x v J Z e3;refine {u,r,?_};rcases l with l|⟨k,c,e,z⟩
  ·exact .inl l
  ·exact .inr {k,c,e,B x c e _ z}
 ·let (v,z):=I.cell x c e;exact {v,B x c e v z}
 ·let (m,(o,_,_,S,_),_):=I.loc;exact y _ o (λz=>(F _ z).2.1 rfl) S I.free
 ·let (v,o,S,hd):=I.cell x c e;exact y c o (λz=>(F c z).2.2.1 x c e rfl) S (I.freeC x c e)
 ·let (e,n,ne,nf,d):=I.pin p hp;let D:p.1 ∉ ch:=λz=>(F p.1 z).2.2.2 p hp rfl;exact {G p.1 p.2 ne nf D e n,y p.1 p.2 D e n,ne,nf,d}
def aP.un {t':Nat} (I:aP X pins σ H s) (u:Un X.fs [] H H' s.heap h') (i:iH X.prog X.w H' h'):aP X pins σ H' { s with heap:=h',toks:=t' }:=by
 let (m,(o,es,J,B,r),_):=id I.loc;let (L,G):=u.any B I.free (by simp);exact I.step (g':=s.gens) (d':=s.drawn) (ch:=[]) (λ_ z=>nomatch z) (λb o _ j _ e n=>u.keep b o e n j (by simp)) (λb o _ j _ e n=>u.slot b o e n j (by simp)) (λb o _ e n=>u.free b o e n (by simp)) (λb o _ e=>u.there b o e (by simp)) u.tups u.frzs u.tbls (λM D=>by
  let (o',q,y,d,F):=D
  rw [B] at d;cases d
  exact {_,q,y,G,F}) i I.bare
def aP.call {g':Array GenState} {t':Nat} {d':Drawn} {ch:List Addr} (I:aP X pins σ H s) (u:Un (iZ X.stack) ch H H' s.heap h') (q:iH X.prog X.w H' h') (G:AllBare g')
  (i:∀b ∈ ch,(b ∈ X.ex\/X.s₀.heap.objs.size<=b)/\b≠X.env.locals/\(∀x c,X.env.cells.lookup x=some c->c≠b)/\∀p ∈ X.pn++pins,p.1≠b):
  aP X pins σ H' { s with heap:=h',gens:=g',drawn:=d',toks:=t' }:=by
 let (m,(o,es,N,F,r),_):=id I.loc;let (O,y):=u.any F I.free λz=>(i _ z).2.1 rfl;exact I.step (ch:=ch) i (λb o y M d e n=>u.keep b o e n (λz=>(g7.mp (I.stkSub b z)).elim y M) d) (λb o _ _ d e n=>u.any e n d) (λb o d e n=>u.free b o e n d) (λb o d e=>u.there b o e d) u.tups u.frzs u.tbls (λS J=>by
  let (o',B,D,j,L):=J
  rw [F] at j;cases j
  exact {_,B,D,y,L}) q G
def aP.turned {t':Nat} {it:Addr} (I:aP X pins σ H s) (k:∀b o,b≠it->s.heap.get? b=some o->h'.get? b=some o) (D:H it=none) (j:it≠X.env.locals)
  (h1:it ∈ X.ex\/X.s₀.heap.objs.size<=it) (h2:∀x c,X.env.cells.lookup x=some c->c≠it) (G:∀p ∈ X.pn++pins,p.1≠it):aP X pins σ H { s with heap:=h',toks:=t' }:=by
 let i:∀b u,H b=some u->b≠it:=λb u e z=>by rw [z,D] at e;cases e
 refine I.step (g':=s.gens) (d':=s.drawn) (ch:=[it]) (λb F=>?_) (λb o _ _ d e _=>k b o (λz=>d (by simp [z])) e) (λb o _ _ d e _=>{o.slots,k b o (λz=>d (by simp [z])) e}) (λ_ _ _ _ n=>n)
  (λb o d e=>{o,k b o (λz=>d (by simp [z])) e}) (λ_ _ e=>e) (λ_ _ _ e=>e) (λb ps e=>{#[],by rw [e];simp}) (λm y=>?_) (λb u e=>?_) I.bare
 ·let e:b=it:=by simpa using F
  subst e;exact {(h1),j,h2,G}
 ·let (o,es,J,B,r):=y;exact {o,es,J,k _ o (A8 j) B,r}
 ·refine(I.hok b u e).stay (λc v d q=>k c v ?_ q) (λ_ q=>q) λ_ _ q=>q;rcases d with z|z
  ·rw [z];exact i b u e
  ·exact i c _ z
def aP.tok (I:aP X pins σ H s) (t:Nat):aP X pins σ H { s with toks:=t }:=I.un (h':=s.heap) (t':=t) Un.refl I.hok
theorem aP.kept {t':Nat} (I:aP X pins σ H s) (k:∀b u,s.heap.get? b=some u->h'.get? b=some u):aP X pins σ H { s with heap:=h',toks:=t' }:=I.un (Un.kept k) (I.hok.kept k)
theorem aP.laid {a:Addr} {o:HO} {t':Nat} (I:aP X pins σ H s) (k:∀b u,s.heap.get? b=some u->h'.get? b=some u) (i:s.heap.objs.size<=a) (d:bL X.prog X.w (aS H a o) h' a o):
  aP X pins σ (aS H a o) { s with heap:=h',toks:=t' }:=I.un (Un.laid k i (I.hok.fresh i)) (I.hok.laid k i d)
theorem aP.write {x e:Addr} {o:HO} {t':Nat} (I:aP X pins σ H s) (n:HE (H x)) (j:e=x\/H e=some (.own x)) (k:∀b u,b≠e->s.heap.get? b=some u->h'.get? b=some u) (d:∃u,h'.get? e=some u)
  (i:bL X.prog X.w (aS H x o) h' x o):aP X pins σ (aS H x o) { s with heap:=h',toks:=t' }:=I.un (Un.write n j k d) (I.hok.write n j k d i)
def aP.weak {d:List (Option V)} (I:aP X pins σ H s) (j:d.length=σ.length) (w:∀(i:Nat) v,d[i]?=some (some v)->σ[i]?=some (some v)):aP X pins d H s:=
 ⟨I.ok,I.os,I.bare,I.base,let ⟨m,hn,hl'⟩:=I.loc;{m,hn,λi x v q n y=>hl' i x v q (w i v n) y},I.cell,I.free,I.freeC,I.pin,I.hok,j.trans I.len⟩
def aP.pins_of {pins':List (Addr × Obj)} (I:aP X pins σ H s) (h:∀p ∈ pins',s.heap.get? p.1=some p.2/\H p.1=none/\p.1≠X.env.locals/\p.1 ∉ X.fs/\∀v,p.2.data≠.cell v):aP X pins' σ H s:=
 {I.ok,I.os,I.bare,I.base,I.loc,I.cell,I.free,I.freeC,λp d=>(j1.mp d).elim (λz=>I.pin p (A4 _ z)) (h p),I.hok,I.len}
def wL {N:List Str} (d:N.Nodup) {i j:Nat} {x:Str} (a:N[i]?=some x) (b:N[j]?=some x):i=j:=by
 let (h1,n):=c9.mp a;let (h2,q):=c9.mp b;exact(List.getElem_inj d).mp (n.trans q.symm)
def rT {M:Model} {A:Around} {E:Value->Shared->Prop} {i:Nat} {x:Str} {v:V} {u:Value} {Q:Unit->Shared->Prop} (I:aP X pins σ H s) (hN:X.N.Nodup) (hi:X.N[i]?=some x) (G:Au X.env.scope x) (r:bK v u)
  (h:∀s',aP X pins (σ.set i (some v)) H s'->(∃a,Heap.SameBut a s.heap s'.heap/\(a=X.env.locals\/X.env.cells.lookup x=some a))->Q () s') (hf:X.fn x=true\/X.env.scope.names.lookup x=some .local:=by first|exact .inl rfl|exact .inr rfl|assumption):wpAny M A (storeName X.env x u) Q E s:=by
 let (m,hn,hl):=id I.loc;let a2:(X.env.scope.kind == .class || (X.env.scope.kind == .module && X.env.locals != X.env.globals))=false:=by rw [I.ok.kind];rfl
 let Y:i<σ.length:=by rw [I.len];exact(c9.mp hi).1
 let O:=I.cne;let D:∀{a:Addr} {h':Heap},(∃o,s.heap.get? a=some o/\H a=none)->Heap.SameBut a s.heap h'->iH X.prog X.w H h':=λ{a h'} ha B b ob e=>by
  let (_,_,J):=ha;refine(I.hok b ob e).stay (λc w' hc q=>(B.2 c ?_).trans q) (λ_ q=>q) λ_ _ q=>q;rintro rfl;rcases hc with rfl|hc
  ·rw [J] at e;cases e
  ·rw [J] at hc;cases hc
 rcases G with hk|hk
 ·refine wpAny_storeName_local hk hn (λh' a5 B=>?_) a2;let (oL,_,_,a4,_):=id hn;refine h _ {I.ok,I.os,I.bare,{λb o e n U G=>?_,λb o e n U G=>?_,I.base.free,λb o e G=>?_,I.base.tups,I.base.frzs,I.base.tbls},{_,a5,λj y v' F L e3=>?_},λy c e=>?_,I.free,I.freeC,λp hp=>?_,D {(oL),a4,I.free} B,by simpa using I.len} {_,B,.inl rfl}
  ·exact(B.2 b (j8 (j7 (i5 e) I.ok.above))).trans (I.base.keep b o e n U G)
  ·let (sl,F):=I.base.slot b o e n U G;exact {sl,(B.2 b (j8 (j7 (i5 e) I.ok.above))).trans F}
  ·let (o',F):=I.base.there b o e G;exact {o',(B.2 b (j8 (j7 (i5 e) I.ok.above))).trans F}
  ·by_cases W:j=i
   ·subst W;rw [hi] at F;cases F;rw [B4 Y] at L;cases L;exact {u,r,.inl {hk,by simp}}
   ·rw [w5 (A8 W)] at L;let (u',r',q):=hl j y v' F L e3;refine {u',r',?_};rcases q with ⟨k,e⟩|⟨k,c,e,z⟩
    ·refine .inl {k,?_};have:y≠x:=λe=>W (wL hN F (e ▸ hi));simp [this,e]
    ·exact .inr {k,c,e,z.sameBut B (O y c e)}
  ·let (w',z):=I.cell y c e;exact {w',z.sameBut B (O y c e)}
  ·let (e,n,ne,nf,d):=I.pin p hp;exact {(B.2 p.1 ne).trans e,n,ne,nf,d}
 ·let S:X.fn x=true:=by
   rcases hf with z|z
   ·exact z
   ·rw [z] at hk;cases hk
  let (c,hc):=I.ok.has x (.inl hk);let (w',z):=I.cell x c hc;refine wpAny_storeName_cell I.ok.kind hk hc z (λh' a1 B=>?_);let (oc,a0,a3):=id z;refine h { s with heap:=h' } {I.ok,I.os,I.bare,{λb o e n U G=>?_,λb o e n U G=>?_,I.base.free,λb o e G=>?_,I.base.tups,I.base.frzs,I.base.tbls},{m,hn.sameBut B (A8 (O x c hc)),λj y v' F L e3=>?_},λy c' e=>?_,I.free,I.freeC,λp hp=>?_,D {oc,a0,I.freeC x c hc} B,by simpa using I.len} {c,B,.inr hc}
  ·exact(B.2 b (j8 (j7 (i5 e) (I.ok.cab x c S hc)))).trans (I.base.keep b o e n U G)
  ·let (sl,F):=I.base.slot b o e n U G;exact {sl,(B.2 b (j8 (j7 (i5 e) (I.ok.cab x c S hc)))).trans F}
  ·let (o',F):=I.base.there b o e G;exact {o',(B.2 b (j8 (j7 (i5 e) (I.ok.cab x c S hc)))).trans F}
  ·by_cases W:j=i
   ·subst W;rw [hi] at F;cases F;rw [B4 Y] at L;cases L;exact {u,r,.inr {.inl hk,c,hc,a1}}
   ·rw [w5 (A8 W)] at L;let (u',r',q):=hl j y v' F L e3;refine {u',r',?_};rcases q with q|⟨k,c',e,z'⟩
    ·exact .inl q
    ·refine .inr {k,c',e,z'.sameBut B ?_};rintro rfl;exact W (wL hN F (I.ok.inj _ _ _ e hc ▸ hi))
  ·by_cases Z:c'=c
   ·subst Z;exact {_,a1}
   ·let (w2,z2):=I.cell y c' e;exact {w2,z2.sameBut B Z}
  ·let (e,n,ne,nf,d):=I.pin p hp;refine {(B.2 p.1 ?_).trans e,n,ne,nf,d};intro q;rw [q,a0] at e;let q':oc=p.2:=Option.some.inj e;exact d w' (by rw [<- q'];exact a3)
def lE {M:Model} {A:Around} {E:Value->Shared->Prop} {i:Nat} {x:Str} {v:V} {u:Value} {Q:Unit->Shared->Prop} (I:aP X pins σ H s) (n:X.N.Nodup) (hi:X.N[i]?=some x) (j:Au X.env.scope x) (r:bK v u)
  (h:∀s',aP X pins (σ.set i (some v)) H s'->Q () s') (q:X.fn x=true\/X.env.scope.names.lookup x=some .local:=by first|exact .inl rfl|exact .inr rfl|assumption):wpAny M A (storeName X.env x u) Q E s:=
 rT I n hi j r (λs' d _=>h s' d) q
def aP.call' {s':Shared} {ch:List Addr} (I:aP X pins σ H s) (n:s'.os=s.os) (u:Un (iZ X.stack) ch H H' s.heap s'.heap) (i:iH X.prog X.w H' s'.heap) (j:AllBare s'.gens)
  (d:∀b ∈ ch,(b ∈ X.ex\/X.s₀.heap.objs.size<=b)/\b≠X.env.locals/\(∀x c,X.env.cells.lookup x=some c->c≠b)/\∀p ∈ X.pn++pins,p.1≠b):aP X pins σ H' s':=by
 let (h',g',d',t',o'):=s';let e:o'=s.os:=n;subst e;exact I.call (g':=g') (t':=t') (d':=d') u i j d
end
abbrev XK:=Value->Option Addr->Hp->Prop
abbrev St:=List (Option V)
abbrev VK:=V->Hp->Prop
abbrev TE:=St->Hp->VK->Prop
abbrev TT:=St->Hp->(Bool->Hp->Prop)->Prop
abbrev TA:=St->Hp->(List V->Hp->Prop)->Prop
structure eO where
 nx:St->Hp->Prop
 rt:VK
 bk:St->Hp->Prop:=λ_ _=>False
 ct:St->Hp->Prop:=λ_ _=>False
abbrev TS:=eO->St->Hp->Prop
def EP (X:Cx) (pins:List (Addr × Obj)) (σ:St) (Q:VK) (u:Value) (s':Shared):Prop:=∃v H',aP X pins σ H' s'/\bK v u/\Q v H'
def TP (X:Cx) (pins:List (Addr × Obj)) (σ:St) (Q:Bool->Hp->Prop) (b:Bool) (s':Shared):Prop:=∃H',aP X pins σ H' s'/\Q b H'
def AP (X:Cx) (pins:List (Addr × Obj)) (σ:St) (Q:List V->Hp->Prop) (us:List Value) (s':Shared):Prop:=∃vs H',aP X pins σ H' s'/\bG vs us/\Q vs H'
def SP (X:Cx) (pins:List (Addr × Obj)) (D:eO) (f:Flow) (s':Shared):Prop:=
 match f with
 | .next=>∃ σ' H',aP X pins σ' H' s'/\D.nx σ' H'
 | .brk=>∃ σ' H',aP X pins σ' H' s'/\D.bk σ' H'
 | .cont=>∃ σ' H',aP X pins σ' H' s'/\D.ct σ' H'
 | .ret u=>∃v σ' H',aP X pins σ' H' s'/\bK v u/\D.rt v H'
def PE (X:Cx) (e:Expr) (t:TE):Prop:=
 ∀ ⦃pins:List (Addr × Obj)⦄ (s:Shared) (σ:St) (H:Hp) (Q:VK),aP X pins σ H s->t σ H Q->wpAny (model X.prog X.w) X.A (eval e X.env) (EP X pins σ Q) X.xe s
def PT (X:Cx) (e:Expr) (t:TT):Prop:=
 ∀ ⦃pins:List (Addr × Obj)⦄ (s:Shared) (σ:St) (H:Hp) (Q:Bool->Hp->Prop),aP X pins σ H s->t σ H Q->wpAny (model X.prog X.w) X.A (isTrue e X.env (eval e X.env)) (TP X pins σ Q) X.xe s
def PW (X:Cx) (e:Expr) (t:TT):Prop:=
 ∀ ⦃whole:Sem Value⦄ (pins:List (Addr × Obj)) (s:Shared) (σ:St) (H:Hp) (Q:Bool->Hp->Prop),aP X pins σ H s->t σ H Q->wpAny (model X.prog X.w) X.A (isTrue e X.env whole) (TP X pins σ Q) X.xe s
def PW.pt {X:Cx} {e:Expr} {t:TT} (h:PW X e t):PT X e t:=@h _
def PA (X:Cx) (es:List Expr) (t:TA):Prop:=
 ∀ ⦃pos:Pos⦄ (pins:List (Addr × Obj)) (s:Shared) (σ:St) (H:Hp) (Q:List V->Hp->Prop),aP X pins σ H s->t σ H Q->wpAny (model X.prog X.w) X.A (spliced (backTo pos (starEach es X.env))) (AP X pins σ Q) X.xe s
def PS (X:Cx) (st:Stmt) (t:TS):Prop:=
 ∀ ⦃pins:List (Addr × Obj)⦄ (s:Shared) (σ:St) (H:Hp) (D:eO),aP X pins σ H s->t D σ H->wpAny (model X.prog X.w) X.A (exec st X.env) (SP X pins D) X.xe s
def qS (X:Cx) (st:List Stmt) (t:TS):Prop:=
 ∀ ⦃pins:List (Addr × Obj)⦄ (s:Shared) (σ:St) (H:Hp) (D:eO),aP X pins σ H s->t D σ H->wpAny (model X.prog X.w) X.A (execs st X.env) (SP X pins D) X.xe s
def gK {α:Type} {t:Sem α} {Q d:α->Shared->Prop} {M:Model} {A:Around} {E:Value->Shared->Prop} {s:Shared} (h:wpAny M A t Q E s) (i:∀a s,Q a s->d a s):wpAny M A t d E s:=v7 h i λ_ _ x=>x
def eH {X:Cx} {pins:List (Addr × Obj)} {σ:St} {Q:VK} {R:Value->Shared->Prop} {t:Sem Value} {M:Model} {A:Around} {E:Value->Shared->Prop} {s:Shared} (h:wpAny M A t (EP X pins σ Q) E s) (k:∀v s x H,aP X pins σ H s->bK x v->Q x H->R v s):wpAny M A t R E s:=gK h λ_ _ z=>z.elim λ_ z=>z.elim λ_ z=>k _ _ _ _ z.1 z.2.1 z.2.2
def vF {X:Cx} {pins:List (Addr × Obj)} {σ:St} {Q:List V->Hp->Prop} {R:List Value->Shared->Prop} {t:Sem (List Value)} {M:Model} {A:Around} {E:Value->Shared->Prop} {s:Shared} (h:wpAny M A t (AP X pins σ Q) E s) (k:∀v s x H,aP X pins σ H s->bG x v->Q x H->R v s):wpAny M A t R E s:=gK h λ_ _ z=>z.elim λ_ z=>z.elim λ_ z=>k _ _ _ _ z.1 z.2.1 z.2.2
section
variable {X:Cx}
inductive CA (i:Nat) (σ:St) (H:Hp) (Q:VK):Prop|mk (v:_) (_:σ[i]?=some (some v)) (_:Q v H)
def iN (i:Nat):TE:=λσ H Q=>CA i σ H Q
def tC (v:V):TE:=λ_ H Q=>Q v H
def zA {i:Nat} {x:Str} {pos:Pos} (F:X.N[i]?=some x) (G:BN X.env.scope x) (q:(x == ("__debug__":Str))=false:=by decide) (n:(x == ("__classdict__":Str))=false:=by decide):PE X (.Name x pos) (iN i):=by
 intro pins s σ H Q I h;let (v,e,h):=h;let (m,D,z):=I.loc;let (u,r,l):=z i x v F e G;let j:EP X pins σ Q u s:={(v),H,I,r,h};rcases l with ⟨hk,B⟩|⟨hk,c,y,d⟩
 ·exact wpAny_Name (wpAny_loadName_local I.ok.kind hk D B j) q
 ·rcases hk with hk|hk
  ·exact wpAny_Name (wpAny_loadName_cell I.ok.kind hk y d j) q
  ·exact wpAny_Name (wpAny_loadName_free I.ok.kind hk y d j n) q
def aY {i j pos}:PE X (.Constant (.int i) j pos) (tC (.int i)):=λ_ _ _ H _ I h=>wpAny_Constant_int {.int i,H,I.tok _,{_,rfl},h}
def lK {b j pos}:PE X (.Constant (.bool b) j pos) (tC (.bl b)):=λ_ _ _ H _ I h=>Constant_bool {.bl b,H,I,rfl,h}
def iV {j pos}:PE X (.Constant .none j pos) (tC .non):=λ_ _ _ H _ I h=>Constant_none {.non,H,I,rfl,h}
def eI {x j pos}:PE X (.Constant (.str x) j pos) (tC (.str x)):=λ_ _ _ H _ I h=>Calls.Constant_str {.str x,H,I.tok _,{_,rfl},h}
def Gl (X:Cx) (x:Str):Prop:=X.env.kindOf x=some .globalImplicit
def lN {E:Value->Shared->Prop} {pins:List (Addr × Obj)} {s:Shared} {σ:St} {H:Hp} {x:Str} {u:Value} {pos:Pos} {Q:Value->Shared->Prop} (I:aP X pins σ H s) (i:Gl X x) (j:X.mg x=some u) (h:Q u s)
  (d:(x == ("__debug__":Str))=false:=by decide):wpAny (model X.prog X.w) X.A (eval (.Name x pos) X.env) Q E s:=
 Calls.Name_function_global I.ok.kind i (Calls.loadGlobal_global (by rw [I.ok.glob];exact I.mod.glob.keeps I.bk) j h) d
def kR {E:Value->Shared->Prop} {pins:List (Addr × Obj)} {s:Shared} {σ:St} {H:Hp} {x:Str} {u:Value} {pos:Pos} {Q:Value->Shared->Prop} (I:aP X pins σ H s) (d:Gl X x) (i:X.mg x=none) (n:bootBuiltins x=some u) (h:Q u s)
  (j:x≠"__name__":=by decide) (q:(x == ("__debug__":Str))=false:=by decide):wpAny (model X.prog X.w) X.A (eval (.Name x pos) X.env) Q E s:=by
 let (y,h1,h2):=I.mod.blt;exact Calls.Name_function_global I.ok.kind d (Calls.loadGlobal_builtin (by rw [I.ok.glob];exact I.mod.glob.keeps I.bk) i (by rw [I.ok.blt];exact h1.keeps I.bk) ((h2 x j).trans n) h) q
def gF {x:Str} {v:V} {u:Value} {pos:Pos} (d:Gl X x) (i:X.mg x=none) (n:bootBuiltins x=some u) (r:bK v u) (j:x≠"__name__":=by decide) (q:(x == ("__debug__":Str))=false:=by decide):PE X (.Name x pos) (tC v):=
 λ_ _ _ H _ I h=>kR I d i n {(v),H,I,r,h} j q
variable {a b:Expr} {ta tb:TE} {pos:Pos}
def PC (X:Cx) (op:CmpOp) (a b:Expr) (t:TE):Prop:=
 ∀ ⦃pins:List (Addr × Obj)⦄ (s:Shared) (σ:St) (H:Hp) (Q:VK),aP X pins σ H s->t σ H Q ->
  wpAny (model X.prog X.w) X.A (eval a X.env) (λv s₁=>wpAny (model X.prog X.w) X.A (eval b X.env) (λu s₂=>wpAny (model X.prog X.w) X.A (compareOp op v u) (EP X pins σ Q) X.xe s₂) X.xe s₁) X.xe s
def tB (t:TE):TT:=λσ H Q=>t σ H λx H1=>∃c,x=.bl c/\Q c H1
def Kd {op:CmpOp} {t:TE} (h:PC X op a b t) (h1:behindInMarks op b=false:=by first|exact nobehind _ (by decide) (by decide)|rfl):PT X (.Compare a [op] [b] pos) (tB t):=by
 intro pins s σ H Q I y;refine wpAny_isTrue_Compare1 (gK (h s σ H _ I y) λv B h1=>gK h1 λu D h2=>gK h2 λc F i=>?_) h1;let (x,H1,j,z,n):=i;let (d,rfl,q):=n;cases z;exact A0 {(H1),j,q}
def bX {e:Expr} {t:TE} (h:PE X e t) (j:∀i,isTrue e X.env i=(do let v <- i;standAt e.pos;holding [v] (truthy v)):=by intro _;rfl):PT X e (tB t):=by
 intro pins s σ H Q I z;refine isTrue_plain (eH (h s σ H _ I z) λv D x H1 n B y=>?_) (j _);let (d,rfl,q):=y;cases B;exact A0 {(H1),n,q}
variable {tA tB':TT} {rest:List Expr}
def IQ (t u:TT):TT:=λσ H Q=>t σ H λc H1=>if c=true then u σ H1 Q else Q false H1
def KJ (t u:TT):TT:=λσ H Q=>t σ H λc H1=>if c=true then Q true H1 else u σ H1 Q
def DW (t:TT):TT:=λσ H Q=>t σ H λc H1=>Q (!c) H1
def eW (d:PT X a tA):PW X (.BoolOp .And [a] pos) tA:=by
 intro i pins s σ H Q I h;refine isTrue_and (gK (d s σ H Q I h) λc j e=>?_);cases c with
 | true=>exact isTrue_and_nil e
 | false=>exact e
def eQ (d:PT X a tA):PW X (.BoolOp .Or [a] pos) tA:=by
 intro i pins s σ H Q I h;refine isTrue_or (gK (d s σ H Q I h) λc j e=>?_);cases c with
 | false=>exact isTrue_or_nil e
 | true=>exact e
def fX (q:PT X a tA) (y:PW X (.BoolOp .And (b::rest) pos) tB'):PW X (.BoolOp .And (a::b::rest) pos) (IQ tA tB'):=by
 intro z pins s σ H Q I h;refine isTrue_and (gK (q s σ H _ I h) λc n d=>?_);let (H1,i,j):=d;cases c with
 | true=>exact y pins n σ H1 Q i j
 | false=>exact {(H1),i,j}
def gE (q:PT X a tA) (y:PW X (.BoolOp .Or (b::rest) pos) tB'):PW X (.BoolOp .Or (a::b::rest) pos) (KJ tA tB'):=by
 intro z pins s σ H Q I h;refine isTrue_or (gK (q s σ H _ I h) λc n d=>?_);let (H1,i,j):=d;cases c with
 | true=>exact {(H1),i,j}
 | false=>exact y pins n σ H1 Q i j
def bZ (d:PT X a tA):PT X (.UnaryOp .Not a pos) (DW tA):=by
 intro pins s σ H Q I h;exact isTrue_not (d s σ H (λc H1=>Q (!c) H1) I h)
inductive Vn (tb:TE) (σ:St) (Q:VK) (x:V) (H1:Hp):Prop|mk (c:_) (_:x=.bl c) (_:if c=true then tb σ H1 Q else Q (.bl false) H1)
def Hu (ta tb:TE):TE:=λσ H Q=>ta σ H λx H1=>Vn tb σ Q x H1
def DV (ta:TE):TE:=λσ H Q=>ta σ H λx H1=>∃c,x=.bl c/\Q (.bl (!c)) H1
def fL {op} {t:TE} (h:PE X a t):PE X (.BoolOp op [a] pos) t:=λpins s σ H Q I d=>BoolOp_one (h s σ H Q I d)
def eJ (n:PE X a ta) (q:PE X (.BoolOp .And (b::rest) pos) tb):PE X (.BoolOp .And (a::b::rest) pos) (Hu ta tb):=by
 intro pins s σ H Q I h;refine BoolOp_and (eH (n s σ H _ I h) λv j x H1 i y d=>?_);let (c,rfl,d):=d;cases y;refine A0 ?_;cases c with
 | true=>exact q j σ H1 Q i d
 | false=>exact {.bl false,H1,i,rfl,d}
def zB (j:PE X a ta):PE X (.UnaryOp .Not a pos) (DV ta):=by
 intro pins s σ H Q I h;refine UnaryOp_ (eH (j s σ H _ I h) λv q x H1 i n d=>?_);let (c,rfl,d):=d;cases n;exact not_of (A0 {.bl (!c),H1,i,rfl,d})
end
def cZ (K:PySem.W.Frag) (H:Hp) (a:Addr) (xs:List V):Prop:=
 Rd H a (.lst xs) \/
  ∃(o:Obj) (its:Array Value) (n:Nat),K.lookup a=some o/\o.cls=.type "list"/\o.dict=none/\o.data=.seq its n/\its.size<=sizeLine/\bG xs its.toList
def bN (K:PySem.W.Frag) (H:Hp) (a:Addr) (xs:List V):Prop:=
 Rd H a (.tup xs) \/
  ∃(o:Obj) (its:Array Value) (n:Nat),K.lookup a=some o/\o.cls=.type "tuple"/\o.data=.seq its n/\its.size<=sizeLine/\bG xs its.toList
def JX:Value->Option V
 | .none=>some .non
 | .bool b=>some (.bl b)
 | .int i _=>some (.int i)
 | .str x _=>some (.str x)
 | .bytes b _=>some (.byt b)
 | .float b _=>some (.flt b)
 | .ref a=>some (.ref a)
 | .type n=>some (.ty n)
 | _=>none
def bK.abs {x:V} {u:Value} (r:bK x u):JX u=some x:=by
 cases x with
 | non=>cases r;rfl
 | bl _=>cases r;rfl
 | int _=>let (t,rfl):=r;rfl
 | str _=>let (t,rfl):=r;rfl
 | byt _=>let (t,rfl):=r;rfl
 | flt _=>let (t,rfl):=r;rfl
 | ref _=>cases r;rfl
 | ty _=>cases r;rfl
theorem bK.inj {x y:V} {u:Value} (r:bK x u) (q:bK y u):x=y:=Option.some.inj (r.abs.symm.trans q.abs)
theorem bG.inj {xs ys:List V} {us:List Value} (p:bG xs us) (k:bG ys us):xs=ys:=by
 induction p generalizing ys with
 | nil=>cases k;rfl
 | cons r _ ih=>
  cases k with
  | cons r' t'=>rw [r.inj r',ih t']
section
variable {X:Cx} {pins:List (Addr × Obj)} {σ:St} {H:Hp} {s:Shared} {a:Addr} {xs ys:List V}
def cZ.of {K:PySem.W.Frag} (h:H a=some (.lst xs)):cZ K H a xs:=.inl (.inl h)
def bN.of {K:PySem.W.Frag} (h:H a=some (.tup xs)):bN K H a xs:=.inl (.inl h)
def aP.list (I:aP X pins σ H s) (h:cZ X.K H a xs):∃d:List Value,bG xs d/\PlainL s.heap a d.toArray/\xs.length<=sizeLine:=by
 rcases h with h|⟨o,d,n,y,i,q,j,B,r⟩
 ·let (z,d,n,r,e):=h.ok I.hok;exact {d,r,{_,n,e,rfl,rfl,rfl},z}
 ·refine {d.toList,r,{o,n,I.kIn a o y,i,q,by simpa using j},?_};let e:=r.length;simp only [r6] at e;omega
def aP.tuple (I:aP X pins σ H s) (h:bN X.K H a xs):∃d:List Value,bG xs d/\IsTup s.heap a d.toArray/\xs.length<=sizeLine:=by
 rcases h with h|⟨o,d,n,q,i,j,y,r⟩
 ·let (z,d,r,p):=h.ok I.hok;exact {(d),r,p,z}
 ·refine {d.toList,r,{o,I.kIn a o q,i,n,by simpa using j},?_};let e:=r.length;simp only [r6] at e;omega
def aP.list_inj (I:aP X pins σ H s) (h:cZ X.K H a xs) (h':cZ X.K H a ys):xs=ys:=by
 let (j,r,(o,n,e,_,_,d),_):=I.list h;let (i,z,(o',D,y,_,_,q),_):=I.list h';rw [e] at y;cases y;rw [d] at q;injection q with B _;have:j=i:=by simpa using congrArg Array.toList B
 subst this;exact r.inj z
def aP.tuple_inj (I:aP X pins σ H s) (h:bN X.K H a xs) (h':bN X.K H a ys):xs=ys:=by
 let (j,r,(o,e,_,n,d),_):=I.tuple h;let (i,z,(o',y,_,D,q),_):=I.tuple h';rw [e] at y;cases y;rw [d] at q;injection q with B _;have:j=i:=by simpa using congrArg Array.toList B
 subst this;exact r.inj z
end
abbrev Cx.wish (X:Cx) (E:Value->Shared->Prop):Cx:={ X with xe:=E }
abbrev Cx.nox (X:Cx):Cx:=X.wish λ_ _=>False
theorem Cx.Ok.wish {X:Cx} (d:X.Ok) (E:Value->Shared->Prop):(X.wish E).Ok:=
 {(d.mod),d.kind,d.glob,d.blt,d.above,d.inj,d.has,d.cab,d.hd,d.frames,d.stk,d.exf,d.bs,d.bsz,d.noex,d.exfs,d.funs,d.frf}
def Cx.Ok.unwish {X:Cx} {E:Value->Shared->Prop} (d:(X.wish E).Ok):X.Ok:=
 {(d.mod),d.kind,d.glob,d.blt,d.above,d.inj,d.has,d.cab,d.hd,d.frames,d.stk,d.exf,d.bs,d.bsz,d.noex,d.exfs,d.funs,d.frf}
section
variable {X:Cx} {pins:List (Addr × Obj)} {σ:St} {H:Hp} {s:Shared} {E:Value->Shared->Prop}
theorem aP.wish (I:aP X pins σ H s) (E:Value->Shared->Prop):aP (X.wish E) pins σ H s:={I.ok.wish E,I.os,I.bare,I.base,I.loc,I.cell,I.free,I.freeC,I.pin,I.hok,I.len}
theorem aP.unwish (I:aP (X.wish E) pins σ H s):aP X pins σ H s:={(I.ok.unwish),I.os,I.bare,I.base,I.loc,I.cell,I.free,I.freeC,I.pin,I.hok,I.len}
theorem SP.unwish {D:eO} {f:Flow} {s':Shared} (h:SP (X.wish E) pins D f s'):SP X pins D f s':=by
 cases f with
 | next=>let (d,H',I,q):=h;exact {(d),H',I.unwish,q}
 | brk=>let (d,H',I,q):=h;exact {(d),H',I.unwish,q}
 | cont=>let (d,H',I,q):=h;exact {(d),H',I.unwish,q}
 | ret u=>let (v,d,H',I,r,q):=h;exact {(v),d,H',I.unwish,r,q}
theorem PE.nox {e:Expr} {t:TE} (h:PE X.nox e t):PE X e t:=λpins s σ H Q I d=>
 v7 (h s σ H Q (I.wish _) d) (λ_ _ ⟨v,H',I',r,q⟩=>{(v),H',I'.unwish,r,q}) λ_ _ z=>False.elim z
theorem qS.nox {st:List Stmt} {t:TS} (h:qS X.nox st t):qS X st t:=λpins s σ H D I d=>
 v7 (h s σ H D (I.wish _) d) (λ_ _ q=>q.unwish) λ_ _ z=>False.elim z
end
section
variable {X:Cx} {st:Stmt} {rest:List Stmt} {t u:TS} {e:Expr} {te:TE} {pos:Pos}
def Bh:TS:=λD σ H=>D.nx σ H
def Px (t u:TS):TS:=λD σ H=>t { D with nx:=u D } σ H
def aZ:qS X [] Bh:=λ_ _ σ H _ I h=>L0 {(σ),H,I,h}
def aE (h1:PS X st t) (h2:qS X rest u):qS X (st::rest) (Px t u):=by
 intro pins s σ H D I h;refine wpAny_execs_cons (gK (h1 s σ H { D with nx:=u D } I h) λf j q=>?_);cases f with
 | next=>
  let (i,H',d,q):=q;exact h2 j i H' D d q
 | ret v=>exact q
 | brk=>exact q
 | cont=>exact q
def aH (h1:PS X st t):qS X [st] t:=by
 intro pins s σ H D I h;refine wpAny_execs_cons (gK (h1 s σ H D I h) λf d q=>?_);cases f with
 | next=>exact L0 q
 | ret v=>exact q
 | brk=>exact q
 | cont=>exact q
def aP.quiet {pins:List (Addr × Obj)} {σ:St} {H:Hp} {s:Shared} (I:aP X pins σ H s):interactive X.env=false:=by simp [interactive,I.ok.kind]
def EA (te:TE):TS:=λD σ H=>te σ H λ_ H1=>D.nx σ H1
def cF (d:PE X e te) (n:swapsWith e none pos.line X.env=pure false:=by rfl):PS X (.Expr e pos) (EA te):=by
 intro pins s σ H D I h;exact wpAny_Expr_any (eH (d s σ H _ I h) λv q x H1 i y j=>{(σ),H1,i,j}) I.quiet n
def Xn (te:TE):TS:=λD σ H=>te σ H D.rt
def bF (d:PE X e te):PS X (.Return (some e) pos) (Xn te):=by
 intro pins s σ H D I h;exact wpAny_Return_some (eH (d s σ H _ I h) λv q x H1 i n j=>{(x),σ,H1,i,n,j})
def DZ (c:TT) (t u:TS):TS:=λD σ H=>c σ H λb H1=>if b=true then t D σ H1 else u D σ H1
def bP {c:Expr} {a b:List Stmt} {tc:TT} (z:PT X c tc) (y:qS X a t) (B:qS X b u):PS X (.If c a b pos) (DZ tc t u):=by
 intro pins s σ H D I h;refine wpAny_If (gK (z s σ H _ I h) λd j i=>?_);let (H1,n,q):=i;cases d with
 | true=>exact y j σ H1 D n q
 | false=>exact B j σ H1 D n q
def Hq:TS:=λ_ _ _=>False
def pG:PS X st Hq:=λ_ _ _ _ _ _ h=>h.elim
def cQ {d:List Stmt}:qS X d Hq:=λ_ _ _ _ _ _ h=>h.elim
end
abbrev TG:=V->St->Hp->(St->Hp->Prop)->Prop
abbrev Ui:=List V->St->Hp->(St->Hp->Prop)->Prop
def PG (X:Cx) (target:Expr) (t:TG):Prop:=
 ∀ ⦃pins:List (Addr × Obj)⦄ (s:Shared) (σ:St) (H:Hp) (v:V) (u:Value) (Q:St->Hp->Prop),aP X pins σ H s->bK v u->t v σ H Q ->
  wpAny (model X.prog X.w) X.A (assign target X.env u) (λ_ s'=>∃ σ' H',aP X pins σ' H' s'/\Q σ' H') X.xe s
def HU (X:Cx) (ts:List Expr) (t:Ui):Prop:=
 ∀ ⦃pins:List (Addr × Obj)⦄ (s:Shared) (σ:St) (H:Hp) (vs:List V) (us:List Value) (Q:St->Hp->Prop),aP X pins σ H s->bG vs us->t vs σ H Q ->
  wpAny (model X.prog X.w) X.A (assignInOrder ((assignEach ts X.env).map (·.2)) us) (λ_ s'=>∃ σ' H',aP X pins σ' H' s'/\Q σ' H') X.xe s
abbrev BP:=V->V->V->Hp->(Hp->Prop)->Prop
def HC (X:Cx) (t:BP):Prop:=
 ∀(pins:List (Addr × Obj)) (s:Shared) (σ:St) (H:Hp) (o i v:V) (ov iv u:Value) (Q:Hp->Prop),aP X pins σ H s->bK o ov->bK i iv->bK v u->t o i v H Q ->
  wpAny (model X.prog X.w) X.A (setItem ov iv u) (λ_ s'=>∃H',aP X pins σ H' s'/\Q H') X.xe s
abbrev HP:=V->V->Hp->VK->Prop
def LB (X:Cx) (op:Operator) (t:HP):Prop:=
 ∀(pins:List (Addr × Obj)) (s:Shared) (σ:St) (H:Hp) (x y:V) (v u:Value) (Q:VK),aP X pins σ H s->bK x v->bK y u->t x y H Q ->
  wpAny (model X.prog X.w) X.A (inplaceOp op v u) (EP X pins σ Q) X.xe s
section
variable {X:Cx} {pos:Pos}
def cI (i:Nat):TG:=λv σ H Q=>Q (σ.set i (some v)) H
def aO {i:Nat} {x:Str} (n:X.N.Nodup) (hi:X.N[i]?=some x) (j:Au X.env.scope x) (q:X.fn x=true\/X.env.scope.names.lookup x=some .local:=by first|exact .inl rfl|exact .inr rfl|assumption):PG X (.Name x pos) (cI i):=by
 intro pins s σ H v u Q I r h;exact wpAny_assign_Name (lE I n hi j r (λs' d=>{_,H,d,h}) q)
def wV:Ui:=λvs σ H Q=>vs=[]/\Q σ H
inductive Vo (t:TG) (u:Ui) (vs:List V) (σ:St) (H:Hp) (Q:St->Hp->Prop):Prop|mk (v:_) (r:_) (_:vs=v::r) (_:t v σ H λσ' H'=>u r σ' H' Q)
def fG (t:TG) (u:Ui):Ui:=λvs σ H Q=>Vo t u vs σ H Q
def dA:HU X [] wV:=by
 intro pins s σ H i d Q I r h;let (e,h):=h;subst e;cases r;exact assignInOrder_nil {(σ),H,I,h}
def aX {e:Expr} {es:List Expr} {t:TG} {u:Ui} (h1:PG X e t) (h2:HU X es u)
  (y:(assignEach (e::es) X.env).map (·.2)=assign e X.env::(assignEach es X.env).map (·.2):=by rfl):HU X (e::es) (fG t u):=by
 intro pins s σ H D B Q I r h;let (v,F,q,h):=h;subst q;cases r with
 | cons r rr=>
  rw [y];refine assignInOrder_cons (gK (h1 s σ H _ _ _ I r h) λ_ i d=>?_);let (z,H1,j,n):=d;exact h2 i z H1 _ _ Q j rr n
inductive CJ (K:PySem.W.Frag) (n:Nat) (t:Ui) (v:V) (σ:St) (H:Hp) (Q:St->Hp->Prop):Prop|mk (a:_) (xs:_) (_:v=.ref a) (_:bN K H a xs) (_:xs.length=n) (_:t xs σ H Q)
def wU (K:PySem.W.Frag) (n:Nat) (t:Ui):TG:=λv σ H Q=>CJ K n t v σ H Q
def dY {es:List Expr} {k:Nat} {t:Ui} {n:Nat} (G:X.calm=true) (h:HU X es t)
  (z:(assignEach es X.env).length=n:=by rfl) (i:(assignEach es X.env).findIdx? (·.1)=none:=by rfl):PG X (.Tuple es k pos) (wU X.K n t):=by
 intro pins s σ H v u Q I r d;let (a,xs,L,J,q,d):=d;subst L;cases r;let (B,j,F,M):=I.tuple J;refine assign_Tuple_tuple (I.ok.hd G) F (by simp [z,<- q,j.length]) i λh' D=>?_;let y:aP X pins σ H { s with heap:=h' }:=I.kept (t':=s.toks) λb o e=>D b o (j8 (i5 e)) e;exact h _ σ H xs _ Q y (by simpa using j) d
def JU (to ti:TE) (t:BP):TG:=λv σ H Q=>to σ H λo H1=>ti σ H1 λi H2=>t o i v H2 λH3=>Q σ H3
def Zq {o i:Expr} {to q:TE} {t:BP} (L:PE X o to) (hi:PE X i q) (J:HC X t)
  (N:∀v,assign (.Subscript o i pos) X.env v=(do
   let d <- holding [v] (eval o X.env)
   let j <- holding [v,d] (eval i X.env)
   standAt pos
   holding [v,d,j] (setItem d j v)
   release [v,d,j] []):=by intro _;rfl):PG X (.Subscript o i pos) (JU to q t):=by
 intro pins s σ H v u Q I r h;rw [N];refine c7 (y0 (eH (L s σ H _ I h) λd Y x H1 M W B=>?_));refine c7 (y0 (eH (hi Y σ H1 _ M B) λj F y H2 O z S=>?_));refine c7 (N3 (c7 (y0 (gK (J pins F σ H2 x y v d j u _ O W z r S) λ_ Z n=>?_))));let (G,D,U):=n;exact wpAny_release {(σ),G,D,U}
def Ht (te:TE) (g:TG):TS:=λD σ H=>te σ H λx H1=>g x σ H1 D.nx
def yX {tg e:Expr} {te:TE} {g:TG} (d:PE X e te) (i:PG X tg g) (B:swapsWithSole [tg] e pos.line X.env=pure false:=by rfl) (z:swappedStores [tg] e X.env=pure none:=by rfl)
  (h1:(assignEach [tg] X.env).map (·.2)=[assign tg X.env]:=by rfl):PS X (.Assign [tg] e pos) (Ht te g):=by
 intro pins s σ H D I h;refine wpAny_Assign_stores (eH (d s σ H _ I h) λv j x H1 n F y=>?_) B z;rw [h1];exact gK (i j σ H1 x v _ n F y) λ_ G q=>q
def dX {i:Nat} {x:Str} {e:Expr} {te:TE} {pos':Pos} (q:X.N.Nodup) (hi:X.N[i]?=some x) (G:Au X.env.scope x) (d:PE X e te) (F:swapsWith e (some (.Name x pos')) pos.line X.env=pure false:=by rfl) (z:X.fn x=true\/X.env.scope.names.lookup x=some .local:=by first|exact .inl rfl|exact .inr rfl|assumption):
  PS X (.Assign [.Name x pos'] e pos) (Ht te (cI i)):=by
 intro pins s σ H D I h;refine wpAny_Assign_Name (eH (d s σ H _ I h) λv L y H1 j J n=>?_) F;exact lE j q hi G J (λM B=>{_,H1,B,n}) z
def IP (i:Nat) (te:TE) (ti:HP):TS:=λD σ H=>∃x,σ[i]?=some (some x)/\te σ H λy H1=>ti x y H1 λz H2=>D.nx (σ.set i (some z)) H2
def Zn {i:Nat} {x:Str} {e:Expr} {te:TE} {op:Operator} {q:HP} {pos':Pos} (hN:X.N.Nodup) (hi:X.N[i]?=some x) (n:Au X.env.scope x) (S:PE X e te) (W:LB X op q) (M:X.fn x=true\/X.env.scope.names.lookup x=some .local:=by first|exact .inl rfl|exact .inr rfl|assumption):
  PS X (.AugAssign (.Name x pos') op e pos) (IP i te q):=by
 intro pins s σ H D I h;let (v,L,h):=h;let (m,Z,hl):=I.loc;let j:BN X.env.scope x:=by rcases n with k|k;exact .inl k;exact .inr (.inl k)
 let (u,r,l):=hl i x v hi L j;refine wpAny_AugAssign_Name ?_;let B:wpAny (model X.prog X.w) X.A (eval e X.env) (λw s₂=>wpAny (model X.prog X.w) X.A (inplaceOp op u w) (λr U=>wpAny (model X.prog X.w) X.A (storeName X.env x r) (λ_=>SP X pins D .next) X.xe U) X.xe s₂) X.xe s:=by
  refine eH (S s σ H _ I h) λw s1 y H1 Y r1 J=>?_;refine eH (W pins s1 σ H1 v y u w _ Y r r1 J) λz s2 zv H2 I2 G q2=>?_;exact lE I2 hN hi n G (λs3 O=>{_,H2,O,q2}) M
 rcases l with ⟨hk,F⟩|⟨hk,c,hc,d⟩
 ·exact wpAny_loadName_local I.ok.kind hk Z F B
 ·rcases hk with hk|hk
  ·exact wpAny_loadName_cell I.ok.kind hk hc d B
  ·rcases n with k|k
   ·have:X.env.scope.names.lookup x=some .free:=hk;rw [k] at this;cases this
   ·have:X.env.scope.names.lookup x=some .free:=hk;rw [k] at this;cases this
def LL (f:Int->Int->Int):HP:=λx y H Q=>∃i j,x=.int i/\y=.int j/\Q (.int (f i j)) H
def AU:LB X .Add (LL λi j=>i+j):=by
 intro pins s σ H x y v u Q I B n h;let (i,j,z,d,q):=h;subst z;subst d;let (t,rfl):=B;let (D,rfl):=n;exact iadd_int {.int _,H,I.tok _,{_,rfl},q}
def Xk (c:TT) (tb:TS):TS:=λD σ H=>∃W:Nat->St->Hp->Prop,(∃m,W m σ H)/\∀m σ H,W m σ H ->
 c σ H λb H1=>if b=true then ∃N:St->Hp->Prop,(∀ σ' H',N σ' H'->∃m',m'<m/\W m' σ' H')/\tb { D with nx:=N,ct:=N,bk:=D.nx } σ H1 else D.nx σ H1
def Ke {c:Expr} {d:List Stmt} {tc:TT} {tb:TS} (Z:PassesOwn (model X.prog X.w) X.A X.env X.xe) (hc:PT X c tc) (hb:qS X d tb):PS X (.While c d [] pos) (Xk tc tb):=by
 intro pins s σ H D I h;let (W,(m0,w0),q):=h;refine wpAny_While (codeAny_whileLoop (λn s'=>∃Y H',aP X pins Y H' s'/\W n Y H') ?_ m0 {(σ),H,I,w0});rintro n s1 ⟨B,H1,I1,w1⟩;refine D6 Z (gK (hc s1 B H1 _ I1 (q n B H1 w1)) λb s2 L=>?_);let (H2,S,y):=L;cases b with
 | true=>
  let (N,U,y):=y;rw [if_pos rfl];refine D6 Z (gK (hb s2 B H2 _ S y) λf s3 z=>?_);cases f with
  | next=>
   let (i,j,J,G):=z;let (O,F,M):=U i j G;exact {(O),F,i,j,J,M}
  | cont=>
   let (i,j,J,G):=z;let (O,F,M):=U i j G;exact {(O),F,i,j,J,M}
  | brk=>exact z
  | ret v=>exact z
 | false=>
  rw [if_neg q0];exact L0 {(B),H2,S,y}
end
structure It where
 go:Nat->Hp->Prop
 yld:Nat->Hp->V->Hp->Prop
 stop:Nat->Hp->Prop
def lV (X:Cx) (pins:List (Addr × Obj)) (H:Hp) (b:Addr):Prop:=
 H b=none/\b≠X.env.locals/\b ∉ X.fs/\(b ∈ X.ex\/X.s₀.heap.objs.size<=b)/\(∀x c,X.env.cells.lookup x=some c->c≠b)/\∀p ∈ X.pn++pins,p.1≠b
def aP.fpOk {X:Cx} {pins:List (Addr × Obj)} {σ:St} {H H':Hp} {s:Shared} {b:Addr} (I:aP X pins σ H s) (d:s.heap.objs.size<=b) (j:H' b=none):lV X pins H' b:=by
 refine {j,L4 (j7 I.lt d),I.nofs d,.inr (n8 I.sz d),λx c e z=>?_,λp i z=>?_}
 ·let (v,q):=I.cell x c e;exact absurd (j7 q.lt (by rw [z];exact d)) (v8 _)
 ·exact absurd (j7 (i5 (I.pin p i).1) (by rw [z];exact d)) (v8 _)
structure Aj (P:Program) (w:World) (K:PySem.W.Frag) (hd:Option Value) (tg:Expr) (J:It) (fp:List Addr) (it:Addr) (tn:Nat->Heap->Prop):Prop where
 mem:it ∈ fp
 obj:∀i h,tn i h->∀b ∈ fp,∃o,h.get? b=some o/\∀v,o.data≠.cell v
 keep:∀i h h',tn i h->(∀b ∈ fp,∀o,h.get? b=some o->h'.get? b=some o)->tn i h'
 item:∀(X:Cx),X.prog=P->X.w=w->X.K=K->X.A.handled=hd->∀(i:Nat) (pins:List (Addr × Obj)) (s:Shared) (σ:St) (H:Hp) (E:Value->Shared->Prop),aP X pins σ H s->(∀b ∈ fp,lV X pins H b)->tn i s.heap->J.go i H ->
  wpAny (model P w) X.A (pyNext (.ref it)) (λr s1=>∃u,r=some u /\
   wpAny (model P w) X.A (letOwnedTupleGo tg (.ref it) u) (λ_ s2=>∃x H',aP X pins σ H' s2/\bK x u/\J.yld i H x H'/\tn (i+1) s2.heap/\∀b ∈ fp,H' b=none) E s1) E s
 done:∀(X:Cx),X.prog=P->X.w=w->X.K=K->X.A.handled=hd->∀(i:Nat) (pins:List (Addr × Obj)) (s:Shared) (σ:St) (H:Hp) (E:Value->Shared->Prop),aP X pins σ H s->(∀b ∈ fp,lV X pins H b)->tn i s.heap->J.stop i H ->
  wpAny (model P w) X.A (pyNext (.ref it)) (λr s1=>r=none/\aP X pins σ H s1) E s
 self:∀(A:Around) (i:Nat) (s:Shared) (Q:Value->Shared->Prop) (E:Value->Shared->Prop),tn i s.heap->Q (.ref it) s->wpAny (model P w) A (pyIter (.ref it)) Q E s
abbrev TI:=St->Hp->(It->Hp->Prop)->Prop
def LC (X:Cx) (pins:List (Addr × Obj)) (σ:St) (tg:Expr) (R:It->Hp->Prop) (itv:Value) (s2:Shared):Prop:=
 ∃(it:Addr) (fp:List Addr) (tn:Nat->Heap->Prop) (J:It) (H':Hp),itv=.ref it/\aP X pins σ H' s2/\Aj X.prog X.w X.K X.A.handled tg J fp it tn/\tn 0 s2.heap/\(∀b ∈ fp,lV X pins H' b)/\R J H'
def PI (X:Cx) (tg iter:Expr) (wi:TI):Prop:=
 ∀ ⦃pins:List (Addr × Obj)⦄ (s:Shared) (σ:St) (H:Hp) (R:It->Hp->Prop),aP X pins σ H s->wi σ H R ->
  wpAny (model X.prog X.w) X.A (eval iter X.env) (λv s1=>wpAny (model X.prog X.w) X.A (pyIter v) (LC X pins σ tg R) X.xe s1) X.xe s
def wT {M:Model} {A:Around} {E:Value->Shared->Prop} {s:Shared} {tg:Expr} {it:Addr} {u:Value} {o:Obj} {n:String} {vs:Array Value} {Q:Unit->Shared->Prop} (i:s.heap.get? it=some o) (q:o.cls=.type n) (y:o.data=.fields vs)
  (j:["enumerate","zip","dict_itemiterator","dict_reverseitemiterator","odict_iterator","itertools.zip_longest","itertools.pairwise"].contains n=false) (d:Q () s):wpAny M A (letOwnedTupleGo tg (.ref it) u) Q E s:=by
 unfold letOwnedTupleGo;cases tg <;> first
  | exact i0 d
  | (cases u <;> first
    | exact i0 d
    | (refine c7 (wpAny_load i ?_)
       rw [q,y]
       show wpAny M A (if (["enumerate","zip","dict_itemiterator","dict_reverseitemiterator","odict_iterator","itertools.zip_longest","itertools.pairwise"].contains n && vs[0]? == some (rawInt _))=true then _ else _) Q E s
       rw [if_neg (by intro h;rw [j,Bool.false_and] at h;cases h)]
       exact i0 d))
def Vj (K:PySem.W.Frag) (a:Addr):It:=
 ⟨λi H=>∃xs x,cZ K H a xs/\xs[i]?=some x,λi H x H'=>H'=H/\∀xs,cZ K H a xs->xs[i]?=some x,λi H=>∃xs,cZ K H a xs/\xs.length<=i⟩
def Vi (K:PySem.W.Frag) (a:Addr):It:=
 ⟨λi H=>∃xs x,bN K H a xs/\xs[i]?=some x,λi H x H'=>H'=H/\∀xs,bN K H a xs->xs[i]?=some x,λi H=>∃xs,bN K H a xs/\xs.length<=i⟩
def BY (lo:Int) (n:Nat):It:=⟨λi _=>i<n,λi H x H'=>H'=H/\x=.int (lo+i),λi _=>n<=i⟩
def rQ {P:Program} {n:Option Value} {w:World} {K:PySem.W.Frag} {tg:Expr} (a it:Addr) (e0:n=none):Aj P w K n tg (Vj K a) [it] it (λi h=>h.IsListIter it a i) where
 mem:=by simp
 obj:=λi h st b j=>by
  let e:b=it:=by simpa using j
  subst e
  let (o,e,c,d):=st
  exact {o,e,λv z=>by rw [d] at z;cases z}
 keep:=λi h h' st k=>st.at λo e=>k it (by simp) o e
 item:=by
  intro X S M O Z i pins s σ H E I y st D;subst S M O;let (xs,x,B,N):=D;let (F,G,p,hz):=I.list B;let (u,hu,ru):=G.get N;let (Y,U,f2,L,f4,J):=y it (by simp);refine wpAny_pyNext_list_item st p.isList (x:=u) (by simpa using hu) λh' q sb=>?_;let I1:aP X pins σ H { s with heap:=h' }:=I.turned (t':=s.toks) (λb o j e=>(sb.2 b j).trans e) Y U L f4 J;let (o,e,c,d):=id q;exact {u,rfl,wT (s:={ s with heap:=h' }) e c d (by decide) {x,H,I1,ru,{rfl,λys hy=>by rw [I.list_inj hy B];exact N},q,λb j=>(y b j).1}}
 done:=by
  intro X S M O Z i pins s σ H E I y st D;subst S M O;let (xs,B,N):=D;let (F,G,p,hz):=I.list B;let (Y,U,f2,L,f4,J):=y it (by simp);let hl:=G.length;exact wpAny_pyNext_list_end (Z.trans e0) st p.isList (by simp;omega) λh' eb=>{rfl,I.turned (t':=s.toks) (λb o j e=>eb b o j e) Y U L f4 J}
 self:=λ_ _ _ _ _ st h=>wpAny_pyIter_listiter st h
def oV {P:Program} {q:Option Value} {w:World} {K:PySem.W.Frag} {tg:Expr} (a it:Addr) (e0:q=none):Aj P w K q tg (Vi K a) [it] it (λi h=>h.IsTupleIter it a i) where
 mem:=by simp
 obj:=λi h st b n=>by
  let e:b=it:=by simpa using n
  subst e
  let (o,e,c,d):=st
  exact {o,e,λv z=>by rw [d] at z;cases z}
 keep:=λi h h' st k=>st.at λo e=>k it (by simp) o e
 item:=by
  intro X S M O Z i pins s σ H E I B st F;subst S M O;let (xs,x,D,N):=F;let (j,G,p,hz):=I.tuple D;let (u,hu,ru):=G.get N;let (Y,U,f2,L,f4,J):=B it (by simp);refine wpAny_pyNext_tuple_item st (show s.heap.IsTuple a j.toArray from p) (x:=u) (by simpa using hu) λh' y sb=>?_;let I1:aP X pins σ H { s with heap:=h' }:=I.turned (t':=s.toks) (λb o n e=>(sb.2 b n).trans e) Y U L f4 J;let (o,e,c,d):=id y;exact {u,rfl,wT (s:={ s with heap:=h' }) e c d (by decide) {x,H,I1,ru,{rfl,λys hy=>by rw [I.tuple_inj hy D];exact N},y,λb n=>(B b n).1}}
 done:=by
  intro X S M O Z i pins s σ H E I B st F;subst S M O;let (xs,D,N):=F;let (j,G,p,hz):=I.tuple D;let (Y,U,f2,L,f4,J):=B it (by simp);let hl:=G.length;exact wpAny_pyNext_tuple_end (Z.trans e0) st (show s.heap.IsTuple a j.toArray from p) (by simp;omega) λh' eb=>{rfl,I.turned (t':=s.toks) (λb o n e=>eb b o n e) Y U L f4 J}
 self:=λ_ _ _ _ _ st h=>wpAny_pyIter_tupleiter st h
def yH {P:Program} {j:Option Value} {w:World} {K:PySem.W.Frag} {tg:Expr} (it:Addr) (lo:Int) (n:Nat) (S:j=none):Aj P w K j tg (BY lo n) [it] it (λi h=>IsRangeIter h it (lo+(i:Nat) * 1) ((n:Int)-(i:Nat)) 1) where
 mem:=by simp
 obj:=λi h st b d=>by
  let e:b=it:=by simpa using d
  subst e
  exact⟨_,st,λv z=>by
   let z':Data.fields _=Data.cell v:=z
   cases z'⟩
 keep:=λi h h' st k=>k it (by simp) _ st
 item:=by
  intro X M G J L i pins s σ H E I y st B;subst M G J;let (O,N,f2,F,f4,D):=y it (by simp);let W:=Walks.range (prog:=X.prog) (w:=X.w) (L.trans S) it lo 1 n;refine W.item i s _ _ B st λv h' tk U q kk=>?_;let (t,rfl):=U;let Z:aP X pins σ H { s with heap:=h',toks:=tk }:=I.turned (λb o d e=>kk b o (by simpa using d) e) O N F f4 D;refine {_,rfl,wT (s:={ s with heap:=h',toks:=tk }) (n:="range_iterator") q rfl rfl (by decide) {.int (lo+i),H,Z,{t,?_},{(rfl),rfl},q,λb d=>(y b d).1}};rw [Int.mul_one]
 done:=by
  intro X M G J L i pins s σ H E I y st B;subst M G J;let (O,N,f2,F,f4,D):=y it (by simp);exact wpAny_pyNext_range_end (L.trans S) st (by have:n<=i:=B;omega) λh' Y=>{rfl,I.turned (t':=s.toks) (λb o d e=>Y b o d e) O N F f4 D}
 self:=λ_ _ _ _ _ st h=>wpAny_pyIter_rangeiter st h
section
variable {X:Cx} {tg:Expr}
def GA (K:PySem.W.Frag) (tl:TE):TI:=λσ H R=>tl σ H λx H1=>∃a,x=.ref a/\(∃xs,cZ K H1 a xs)/\R (Vj K a) H1
def JO (K:PySem.W.Frag) (tl:TE):TI:=λσ H R=>tl σ H λx H1=>∃a,x=.ref a/\(∃xs,bN K H1 a xs)/\R (Vi K a) H1
def jU {l:Expr} {tl:TE} (n:PE X l tl) (j:X.calm=true:=by rfl):PI X tg l (GA X.K tl):=by
 intro pins s σ H R I h;refine eH (n s σ H _ I h) λv d x H1 i F z=>?_;let (a,e,(xs,B),q):=z;subst e;cases F;let (y,J,p,G):=i.list B;refine M4 p.isList ?_;refine {d.heap.objs.size,[d.heap.objs.size],_,_,H1,rfl,i.kept (t':=d.toks) λb o e=>f1 _ e,rQ a _ (I.ok.hd j),{_,j3 _ rfl,rfl,rfl},λb D=>?_,q};let e:b=d.heap.objs.size:=by simpa using D
 subst e;exact i.fpOk (d7 _) (i.hok.fresh (d7 _))
def eR {l:Expr} {tl:TE} (y:PE X l tl) (n:X.calm=true:=by rfl):PI X tg l (JO X.K tl):=by
 intro pins s σ H R I h;refine eH (y s σ H _ I h) λv d x H1 i F z=>?_;let (a,e,(xs,B),q):=z;subst e;cases F;let (j,J,p,G):=i.tuple B;refine P6 (show d.heap.IsTuple a j.toArray from p) ?_;refine {d.heap.objs.size,[d.heap.objs.size],_,_,H1,rfl,i.kept (t':=d.toks) λb o e=>f1 _ e,oV a _ (I.ok.hd n),{_,j3 _ rfl,rfl,rfl},λb D=>?_,q};let e:b=d.heap.objs.size:=by simpa using D
 subst e;exact i.fpOk (d7 _) (i.hok.fresh (d7 _))
def vX {pins:List (Addr × Obj)} {σ:St} {H:Hp} {s:Shared} {R:It->Hp->Prop} {E:Value->Shared->Prop} {lo hi:Int} {t u v:Tok} {tk:Nat} (i:X.calm=true) (I:aP X pins σ H s) (h1:-(2 ^ 62)<=lo) (h2:lo<2 ^ 62) (B:-(2 ^ 62)<=hi) (j:hi<2 ^ 62)
  (q:R (BY lo (hi-lo).toNat) H):wpAny (model X.prog X.w) X.A (pyIter (.ref s.heap.objs.size)) (LC X pins σ tg R) E { s with heap:=s.heap.push { cls:=.type "range",data:=.fields #[.int lo t,.int hi u,.int 1 v] },toks:=tk }:=by
 refine wpAny_pyIter_range (IsRange.new ..) (small_one h1 h2 B j) ?_;let d:aP X pins σ H { s with heap:=s.heap.push { cls:=.type "range",data:=.fields #[.int lo t,.int hi u,.int 1 v] },toks:=tk }:=I.kept λb o e=>f1 _ e;refine {(s.heap.push { cls:=.type "range",data:=.fields #[.int lo t,.int hi u,.int 1 v] }).objs.size,[(s.heap.push { cls:=.type "range",data:=.fields #[.int lo t,.int hi u,.int 1 v] }).objs.size],_,_,H,rfl,
  d.kept (t':=tk) λb o e=>f1 _ e,yH _ lo (hi-lo).toNat (I.ok.hd i),?_,λb z=>?_,q}
 ·let y:lo+((0:Nat):Int) * 1=lo:=by simp
  let n:(((hi-lo).toNat:Nat):Int)-((0:Nat):Int)=Builtin.Range.rangeSize lo hi 1:=by rw [rangeSize_one];split <;> omega
  show IsRangeIter _ _ (lo+((0:Nat):Int) * 1) ((((hi-lo).toNat:Nat):Int)-((0:Nat):Int)) 1;rw [y,n];exact j3 _ rfl
 ·let e:b=(s.heap.push { cls:=.type "range",data:=.fields #[.int lo t,.int hi u,.int 1 v] }).objs.size:=by simpa using z
  subst e;exact d.fpOk (d7 _) (d.hok.fresh (d7 _))
def FZ (ta:TA):TI:=λσ H R=>ta σ H λvs H1=>∃j:Int,vs=[.int j]/\-(2 ^ 62)<=j/\j<2 ^ 62/\R (BY 0 j.toNat) H1
def FY (ta:TA):TI:=λσ H R=>ta σ H λvs H1=>∃i j:Int,vs=[.int i,.int j]/\(-(2 ^ 62)<=i/\i<2 ^ 62/\-(2 ^ 62)<=j/\j<2 ^ 62)/\R (BY i (j-i).toNat) H1
def mM {a:Expr} {ta:TA} {p pos:Pos} (n:Gl X "range") (y:X.mg "range"=none) (B:PA X [a] ta) (F:starEach [a] X.env=[(false,eval a X.env)]:=by rfl) (i:X.calm=true:=by rfl):PI X tg (.Call (.Name "range" p) [a] [] pos) (FZ ta):=by
 intro pins s σ H R I h;refine Call_ (kR I n y boot_range (J9 (vF (B pins s σ H _ I h) λL J M H1 z G d=>?_) F rfl));let (j,e,d,D,q):=d;subst e;cases G with
 | cons r rr=>
  cases rr;let (t,rfl):=r;exact call_range_1 (vX i z ∎ ∎ d D (by simpa using q))
def jT {a b:Expr} {ta:TA} {p pos:Pos} (z:Gl X "range") (B:X.mg "range"=none) (F:PA X [a,b] ta) (M:starEach [a,b] X.env=[(false,eval a X.env),(false,eval b X.env)]:=by rfl) (d:starEach [b] X.env=[(false,eval b X.env)]:=by rfl) (y:X.calm=true:=by rfl):
  PI X tg (.Call (.Name "range" p) [a,b] [] pos) (FY ta):=by
 intro pins s σ H R I h;refine Call_ (kR I z B boot_range (J9 (vF (F pins s σ H _ I h) λS O W H1 D N n=>?_) (by rw [M,d]) (by rw [d];rfl)));let (i,j,e,(n,J,L,G),q):=n;subst e;cases N with
 | cons r rr=>
  cases rr with
  | cons r' rr=>
   cases rr;let (t,rfl):=r;let (U,rfl):=r';exact call_range_2 (vX y D n J L G q)
def IK (wi:TI) (g:TG) (tb:TS):TS:=λD σ H=>wi σ H λJ H1=>∃W:Nat->Nat->St->Hp->Prop,(∃m,W 0 m σ H1)/\∀i m σ H,W i m σ H ->
 (J.stop i H/\D.nx σ H)\/(J.go i H/\∃N:St->Hp->Prop,(∀ σ' H',N σ' H'->∃m',m'<m/\W (i+1) m' σ' H')/\∀x H',J.yld i H x H'->g x σ H' λσ2 H2=>tb { D with nx:=N,ct:=N,bk:=D.nx } σ2 H2)
def gN (fp:List Addr) (h:Heap):List (Addr × Obj):=fp.filterMap λb=>(h.get? b).map λo=>(b,o)
def eT {d:List Addr} {h:Heap} {b:Addr} {o:Obj} (i:b ∈ d) (e:h.get? b=some o):(b,o) ∈ gN d h:=F2.mpr {b,i,by rw [e];rfl}
def Fb {d:List Addr} {h:Heap} {p:Addr × Obj} (i:p ∈ gN d h):p.1 ∈ d/\h.get? p.1=some p.2:=by
 let (b,n,e):=F2.mp i;cases q:h.get? b with
 | none=>rw [q] at e;cases e
 | some o=>
  rw [q] at e;let j:(b,o)=p:=Option.some.inj e;subst j;exact {(n),q}
def aP.pinned {pins:List (Addr × Obj)} {σ:St} {H:Hp} {s:Shared} {i:List Addr} (I:aP X pins σ H s) (F:∀b ∈ i,lV X pins H b) (y:∀b ∈ i,∃o,s.heap.get? b=some o/\∀v,o.data≠.cell v):aP X (pins++gN i s.heap) σ H s:=
 I.pins_of λp G=>(j1.mp G).elim (λz=>I.pin p (i9 _ z)) λz=>by
  let (j,e):=Fb z
  let (q,D,B,_):=F p.1 j
  let (o,n,d):=y p.1 j
  rw [e] at n;cases n
  exact {(e),q,D,B,d}
def aP.unpinned {pins pl:List (Addr × Obj)} {σ:St} {H:Hp} {s:Shared} (I:aP X (pins++pl) σ H s):aP X pins σ H s:=I.pins_of λp d=>I.pin p (i9 _ (A4 _ d))
def eD {y:Expr} {O:List Stmt} {wi:TI} {g:TG} {tb:TS} {pos:Pos} (hp:PassesOwn (model X.prog X.w) X.A X.env X.xe) (hc:X.calm=true) (hi:PI X tg y wi) (hg:PG X tg g) (L:qS X O tb)
  (hs:∀x,foldedSetIterable y X.env x=pure x:=by intro _;rfl):PS X (.For tg y O [] pos) (IK wi g tb):=by
 intro pins s σ H D I h;refine wpAny_For (gK (hi s σ H _ I h) λv s1 h1=>gK h1 λa6 s2 h2=>?_) hs;let (it,fp,tn,J,H2,e,I2,T,a5,f2,W,(m0,w0),a1):=h2;subst e;let q:∀{H':Hp},(∀b ∈ fp,H' b=none)->∀b ∈ fp,lV X pins H' b:=λhn b L=>{hn b L,(f2 b L).2};refine codeAny_forLoop_any (λn s'=>∃i σ' H',aP X pins σ' H' s'/\tn i s'.heap/\(∀b ∈ fp,H' b=none)/\W i n σ' H') ?_ m0 {0,σ,H2,I2,a5,λb L=>(f2 b L).1,w0};rintro n s3 ⟨i,Z,H3,I3,a0,Y,w3⟩;rcases a1 i n Z H3 w3 with ⟨U,qn⟩|⟨go,N,hN,a2⟩
 ·refine D6 hp (gK (T.done X rfl rfl rfl rfl i pins s3 Z H3 X.xe I3 (q Y) a0 U) λr s4 j=>?_);let (hr,I4):=j;subst hr;exact L0 {(Z),H3,I4,qn}
 ·refine D6 hp (gK (T.item X rfl rfl rfl rfl i pins s3 Z H3 X.xe I3 (q Y) a0 go) λr s4 j=>?_);let (u,hr,h4):=j;subst hr;refine D6 hp (gK h4 λ_ s5 j=>?_);let (x,H5,I5,r5,y5,S,a4):=j;let a3:=I5.pinned (q a4) (T.obj _ _ S);refine D6 hp (gK (hg s5 Z H5 x u _ a3 r5 (a2 x H5 y5)) λ_ s6 j=>?_);let (σ6,H6,I6,q6):=j;refine D6 hp (gK (L s6 σ6 H6 _ I6 q6) λf s7 M=>?_);let B:∀{z:St} {G:Hp},aP X (pins++gN fp s5.heap) z G s7->N z G->∃m,m<n/\∃i σ' H',aP X pins σ' H' s7/\tn i s7.heap/\(∀b ∈ fp,H' b=none)/\W i m σ' H':=λ{z G} F n7=>by
   let (m',hm,w7):=hN z G n7;refine {m',hm,i+1,z,G,F.unpinned,T.keep _ _ _ S λb L o e=>(F.pin (b,o) (i9 _ (i9 _ (eT L e)))).1,λb L=>?_,w7};let (o,e,d):=T.obj _ _ S b L;exact(F.pin (b,o) (i9 _ (i9 _ (eT L e)))).2.1
  cases f with
  | next=>let (z,G,F,n7):=M;exact B F n7
  | cont=>let (z,G,F,n7):=M;exact B F n7
  | brk=>let (z,G,F,M):=M;exact {(z),G,F.unpinned,M}
  | ret v=>let (x7,z,G,F,r7,M):=M;exact {(x7),z,G,F.unpinned,r7,M}
end
def lR {K:PySem.W.Frag} {a:Addr} {xs:List V} {g:TG} {tb:TS} {D:eO} {σ:St} {H:Hp} (d:Nat->St->Hp->Prop) (I:d 0 σ H) (F:∀i σ H,i<=xs.length->d i σ H->cZ K H a xs)
  (J:∀i x σ H,xs[i]?=some x->d i σ H->g x σ H λn H2=>tb { D with nx:=d (i+1),ct:=d (i+1),bk:=D.nx } n H2) (L:∀ σ H,d xs.length σ H->D.nx σ H):
  ∃W:Nat->Nat->St->Hp->Prop,(∃m,W 0 m σ H)/\∀i m σ H,W i m σ H ->
   ((Vj K a).stop i H/\D.nx σ H)\/((Vj K a).go i H/\∃N:St->Hp->Prop,(∀z H',N z H'->∃B,B<m/\W (i+1) B z H')/\∀x H',(Vj K a).yld i H x H'->g x σ H' λn H2=>tb { D with nx:=N,ct:=N,bk:=D.nx } n H2):=by
 refine {λi m σ H=>m=xs.length-i/\i<=xs.length/\d i σ H,{xs.length,by simp,i8 _,I},?_};rintro i m σ H ⟨rfl,hi,p⟩;let q:=F i σ H hi p;by_cases j:i<xs.length
 ·refine .inr {{xs,xs[i],q,by simp [j]},d (i+1),λz H' G=>{xs.length-(i+1),∎,rfl,j,G},λx H' y=>?_};let (e,y):=y;subst e;exact J i x σ _ (y xs q) p
 ·let e:i=xs.length:=∎;subst e;exact .inl {{xs,q,d7 _},L σ H p}
def lQ {K:PySem.W.Frag} {a:Addr} {xs:List V} {g:TG} {tb:TS} {D:eO} {σ:St} {H:Hp} (d:Nat->St->Hp->Prop) (I:d 0 σ H) (F:∀i σ H,i<=xs.length->d i σ H->bN K H a xs)
  (J:∀i x σ H,xs[i]?=some x->d i σ H->g x σ H λn H2=>tb { D with nx:=d (i+1),ct:=d (i+1),bk:=D.nx } n H2) (L:∀ σ H,d xs.length σ H->D.nx σ H):
  ∃W:Nat->Nat->St->Hp->Prop,(∃m,W 0 m σ H)/\∀i m σ H,W i m σ H ->
   ((Vi K a).stop i H/\D.nx σ H)\/((Vi K a).go i H/\∃N:St->Hp->Prop,(∀z H',N z H'->∃B,B<m/\W (i+1) B z H')/\∀x H',(Vi K a).yld i H x H'->g x σ H' λn H2=>tb { D with nx:=N,ct:=N,bk:=D.nx } n H2):=by
 refine {λi m σ H=>m=xs.length-i/\i<=xs.length/\d i σ H,{xs.length,by simp,i8 _,I},?_};rintro i m σ H ⟨rfl,hi,p⟩;let q:=F i σ H hi p;by_cases j:i<xs.length
 ·refine .inr {{xs,xs[i],q,by simp [j]},d (i+1),λz H' G=>{xs.length-(i+1),∎,rfl,j,G},λx H' y=>?_};let (e,y):=y;subst e;exact J i x σ _ (y xs q) p
 ·let e:i=xs.length:=∎;subst e;exact .inl {{xs,q,d7 _},L σ H p}
def jW {lo:Int} {n:Nat} {g:TG} {tb:TS} {D:eO} {σ:St} {H:Hp} (j:Nat->St->Hp->Prop) (G:j 0 σ H)
  (I:∀i σ H,i<n->j i σ H->g (.int (lo+i)) σ H λq H2=>tb { D with nx:=j (i+1),ct:=j (i+1),bk:=D.nx } q H2) (J:∀ σ H,j n σ H->D.nx σ H):
  ∃W:Nat->Nat->St->Hp->Prop,(∃m,W 0 m σ H)/\∀i m σ H,W i m σ H ->
   ((BY lo n).stop i H/\D.nx σ H)\/((BY lo n).go i H/\∃N:St->Hp->Prop,(∀z H',N z H'->∃B,B<m/\W (i+1) B z H')/\∀x H',(BY lo n).yld i H x H'->g x σ H' λq H2=>tb { D with nx:=N,ct:=N,bk:=D.nx } q H2):=by
 refine {λi m σ H=>m=n-i/\i<=n/\j i σ H,{n,by simp,i8 _,G},?_};rintro i m σ H ⟨rfl,hi,p⟩;by_cases d:i<n
 ·refine .inr {d,j (i+1),λz H' F=>{n-(i+1),∎,rfl,d,F},λx H' y=>?_};let (e,y):=y;subst e y;exact I i σ _ d p
 ·let e:i=n:=∎;subst e;exact .inl {d7 _,J σ H p}
abbrev R2:=V->V->Hp->VK->Prop
def kK (X:Cx) (f:Value->Value->Sem Value) (r:R2):Prop:=
 ∀(pins:List (Addr × Obj)) (s:Shared) (σ:St) (H:Hp) (x y:V) (v u:Value) (Q:VK),aP X pins σ H s->bK x v->bK y u->r x y H Q ->
  wpAny (model X.prog X.w) X.A (f v u) (EP X pins σ Q) X.xe s
def JY (X:Cx) (f:Value->Sem Value) (r:V->Hp->VK->Prop):Prop:=
 ∀(pins:List (Addr × Obj)) (s:Shared) (σ:St) (H:Hp) (x:V) (v:Value) (Q:VK),aP X pins σ H s->bK x v->r x H Q ->
  wpAny (model X.prog X.w) X.A (f v) (EP X pins σ Q) X.xe s
def gC (X:Cx) (f:Value) (r:List V->Hp->VK->Prop):Prop:=
 ∀(pins:List (Addr × Obj)) (s:Shared) (σ:St) (H:Hp) (xs:List V) (us:List Value) (Q:VK),aP X pins σ H s->bG xs us->r xs H Q ->
  wpAny (model X.prog X.w) X.A (call f us) (EP X pins σ Q) X.xe s
def JZ (X:Cx) (r:V->Hp->(Bool->Hp->Prop)->Prop):Prop:=
 ∀(pins:List (Addr × Obj)) (s:Shared) (σ:St) (H:Hp) (x:V) (v:Value) (Q:Bool->Hp->Prop),aP X pins σ H s->bK x v->r x H Q ->
  wpAny (model X.prog X.w) X.A (truthy v) (TP X pins σ Q) X.xe s
def Pk (r:R2) (ta tb:TE):TE:=λσ H Q=>ta σ H λx H1=>tb σ H1 λy H2=>r x y H2 Q
def KI (r:V->Hp->VK->Prop) (ta:TE):TE:=λσ H Q=>ta σ H λx H1=>r x H1 Q
inductive KE (C:Int->Int->Prop) (g:Int->Int->V) (x y:V) (H:Hp) (Q:VK):Prop|mk (i:_) (j:_) (_:x=.int i) (_:y=.int j) (_:C i j) (_:Q (g i j) H)
def rI (C:Int->Int->Prop) (g:Int->Int->V):R2:=λx y H Q=>KE C g x y H Q
inductive HH (g:Int->Int->V) (x y:V) (H:Hp) (Q:VK):Prop|mk (i:_) (j:_) (_:x=.int i) (_:y=.int j) (_:Q (g i j) H)
def Rj (g:Int->Int->V):R2:=λx y H Q=>HH g x y H Q
def rU (g:Int->V):V->Hp->VK->Prop:=λx H Q=>∃i,x=.int i/\Q (g i) H
section
variable {X:Cx} {a b c:Expr} {ta tb tc:TE} {pos:Pos}
def BK (z:PE X a ta) (D:PE X b tb) {pins:List (Addr × Obj)} {s:Shared} {σ:St} {H:Hp} {R:V->V->Hp->Prop} (I:aP X pins σ H s)
  (h:ta σ H λx H1=>tb σ H1 λy H2=>R x y H2) {Q:Value->Shared->Prop} {f:Value->Value->Sem Value}
  (L:∀v u d x y H2,aP X pins σ H2 d->bK x v->bK y u->R x y H2->wpAny (model X.prog X.w) X.A (f v u) Q X.xe d):
  wpAny (model X.prog X.w) X.A (eval a X.env) (λv J=>wpAny (model X.prog X.w) X.A (eval b X.env) (λu B=>wpAny (model X.prog X.w) X.A (f v u) Q X.xe B) X.xe J) X.xe s:=by
 refine eH (z s σ H _ I h) λv i x H1 j M q=>?_;refine eH (D i σ H1 _ j q) λu d y H2 F n G=>?_;exact L v u d x y H2 F M n G
def cE {op:Operator} {r:R2} (d:kK X (binaryOp op) r) (n:PE X a ta) (B:PE X b tb):PE X (.BinOp a op b pos) (Pk r ta tb):=by
 intro pins s σ H Q I h;exact wpAny_BinOp (BK n B I h λv u j x y H2 z D i q=>d pins j σ H2 x y v u Q z D i q)
def Wq {op:UnaryOp} {r:V->Hp->VK->Prop} (d:JY X (unaryOp op) r) (q:PE X a ta):PE X (.UnaryOp op a pos) (KI r ta):=by
 intro pins s σ H Q I h;exact UnaryOp_ (eH (q s σ H _ I h) λv i x H1 j y n=>d pins i σ H1 x v Q j y n)
def FG {f:Value->Value->Sem Value} {C:Int->Int->Prop} {g:Int->Int->Int}
  (d:∀(i j:Int) (t u:Tok) (s:Shared) (Q:Value->Shared->Prop) (E:Value->Shared->Prop),C i j->Q (.int (g i j) s.toks) { s with toks:=s.toks+1 }->wpAny (model X.prog X.w) X.A (f (.int i t) (.int j u)) Q E s):
  kK X f (rI C λi j=>.int (g i j)):=by
 intro pins s σ H x y v u Q I D n h;let (i,j,rfl,rfl,z,q):=h;let (t,rfl):=D;let (B,rfl):=n;exact d i j t B s _ _ z {.int (g i j),H,I.tok _,{_,rfl},q}
def FE {f:Value->Value->Sem Value} {g:Int->Int->Int}
  (d:∀(i j:Int) (t u:Tok) (s:Shared) (Q:Value->Shared->Prop) (E:Value->Shared->Prop),Q (.int (g i j) s.toks) { s with toks:=s.toks+1 }->wpAny (model X.prog X.w) X.A (f (.int i t) (.int j u)) Q E s):
  kK X f (Rj λi j=>.int (g i j)):=by
 intro pins s σ H x y v u Q I z n h;let (i,j,rfl,rfl,q):=h;let (t,rfl):=z;let (B,rfl):=n;exact d i j t B s _ _ {.int (g i j),H,I.tok _,{_,rfl},q}
def Rz {f:Value->Value->Sem Value} {g:Int->Int->Bool}
  (d:∀(i j:Int) (t u:Tok) (s:Shared) (Q:Value->Shared->Prop) (E:Value->Shared->Prop),Q (.bool (g i j)) s->wpAny (model X.prog X.w) X.A (f (.int i t) (.int j u)) Q E s):
  kK X f (Rj λi j=>.bl (g i j)):=by
 intro pins s σ H x y v u Q I z n h;let (i,j,rfl,rfl,q):=h;let (t,rfl):=z;let (B,rfl):=n;exact d i j t B s _ _ {.bl (g i j),H,I,rfl,q}
def KG (i j:Int):Prop:=0<j/\j<1073741824
def HJ (i j:Int):Prop:=0<=j/\j<=1000000/\i.natAbs<2 ^ 64
def yA (i j:Int):Prop:=(-(2 ^ 64)<i/\i<2 ^ 64)\/(-(2 ^ 64)<j/\j<2 ^ 64)
def yA.ok {i j:Int} (h:yA i j):IntMulOk i j:=by
 rcases h with ⟨h1,h2⟩|⟨h1,h2⟩
 ·exact .of_left (intBits_le_64 h1 h2)
 ·exact .of_right (intBits_le_64 h1 h2)
def eK:kK X (binaryOp .Add) (Rj λi j=>.int (i+j)):=FE λ_ _ _ _ _ _ _ q=>add_int q
def kP:kK X (binaryOp .Sub) (Rj λi j=>.int (i-j)):=FE λ_ _ _ _ _ _ _ q=>sub_int q
def zF:kK X (binaryOp .Mult) (rI yA λi j=>.int (i * j)):=FG λ_ _ _ _ _ _ _ d q=>mul_int q d.ok
def Rx:kK X (binaryOp .FloorDiv) (rI KG λi j=>.int (i / j)):=FG λi j _ _ _ _ _ d q=>by
 have h1:(0:Int)<j:=d.1
 have h2:j<1073741824:=d.2
 exact floordiv_int ∎ (by rw [Int.fdiv_eq_ediv_of_nonneg i ∎];exact q) (.inl (PyProof.noPylong_small ∎))
def iW:kK X (binaryOp .Mod) (rI (λ_ j=>0<j) λi j=>.int (i % j)):=FG λi j _ _ _ _ _ d q=>by
 have h1:(0:Int)<j:=d
 exact mod_int' ∎ (by rw [Int.fmod_eq_emod_of_nonneg i ∎];exact q)
def Zw:kK X (binaryOp .Pow) (rI HJ λi j=>.int (i ^ j.toNat)):=FG λ_ _ _ _ _ _ _ d q=>pow_int_small d.1 d.2.1 d.2.2 q
def LG {f:Value->Sem Value} {g:Int->Int}
  (d:∀(i:Int) (t:Tok) (s:Shared) (Q:Value->Shared->Prop) (E:Value->Shared->Prop),Q (.int (g i) s.toks) { s with toks:=s.toks+1 }->wpAny (model X.prog X.w) X.A (f (.int i t)) Q E s):
  JY X f (rU λi=>.int (g i)):=by
 intro pins s σ H x v Q I j h;let (i,rfl,q):=h;let (t,rfl):=j;exact d i t s _ _ {.int (g i),H,I.tok _,{_,rfl},q}
def Hl:JY X (unaryOp .USub) (rU λi=>.int (-i)):=LG λ_ _ _ _ _ q=>neg_int q
def Ih:V->V->Bool
 | .non,.non=>true | .non,.int _=>true | .int _,.non=>true | .non,.bl _=>true | .bl _,.non=>true | .non,.str _=>true | .str _,.non=>true
 | .int _,.int _=>true | .bl _,.bl _=>true | .str _,.str _=>true | .byt _,.byt _=>true
 | .int _,.str _=>true | .str _,.int _=>true | .bl _,.str _=>true | .str _,.bl _=>true
 | _,_=>false
def LI:R2:=λx y H Q=>Ih x y=true/\Q (.bl (decide (x=y))) H
def KK:R2:=λx y H Q=>Ih x y=true/\Q (.bl (!decide (x=y))) H
def oG {i j:Int}:decide (V.int i=V.int j)=(i == j):=by
 rw [D7];simp
def Np {i j:Bool}:decide (V.bl i=V.bl j)=(i == j):=by
 rw [D7];simp
def Dt {i j:Str}:decide (V.str i=V.str j)=(i == j):=by
 rw [D7];simp
def Du {i j:Array UInt8}:decide (V.byt i=V.byt j)=(i.toList == j.toList):=by
 rw [D7];cases i;cases j;simp
def bT {pins:List (Addr × Obj)} {σ:St} {H:Hp} {s:Shared} {Q:VK} {k d:Bool} (I:aP X pins σ H s) (q:Q (.bl k) H) (e:k=d):EP X pins σ Q (.bool d) s:=by
 subst e;exact {.bl k,H,I,rfl,q}
def sB:kK X (compareOp .Eq) LI:=by
 intro pins s σ H x y v u Q I B d h;let (z,q):=h;cases x with
 | non=>
  cases B;cases y with
  | non=>cases d;exact PySem.EqNone.eq_none_none (bT I q (by simp))
  | bl j=>cases d;exact PySem.EqNone.eq_none_bool (bT I q (by simp))
  | int j=>let (n,rfl):=d;exact PySem.EqNone.eq_none_int (bT I q (by simp))
  | str j=>let (n,rfl):=d;exact PySem.EqNone.eq_none_str (bT I q (by simp))
  | _=>exact absurd (show false=true from z) q0
 | bl i=>
  cases B;cases y with
  | non=>cases d;exact PySem.EqNone.eq_bool_none (bT I q (by simp))
  | bl j=>cases d;exact eq_bool (bT I q Np)
  | str j=>let (n,rfl):=d;exact PySem.EqMixed.eq_bool_str (bT I q (by simp))
  | _=>exact absurd (show false=true from z) q0
 | int i=>
  let (t,rfl):=B;cases y with
  | non=>cases d;exact PySem.EqNone.eq_int_none (bT I q (by simp))
  | int j=>let (n,rfl):=d;exact eq_int (bT I q oG)
  | str j=>let (n,rfl):=d;exact PySem.EqMixed.eq_int_str (bT I q (by simp))
  | _=>exact absurd (show false=true from z) q0
 | str i=>
  let (t,rfl):=B;cases y with
  | non=>cases d;exact PySem.EqNone.eq_str_none (bT I q (by simp))
  | bl j=>cases d;exact PySem.EqMixed.eq_str_bool (bT I q (by simp))
  | int j=>let (n,rfl):=d;exact PySem.EqMixed.eq_str_int (bT I q (by simp))
  | str j=>let (n,rfl):=d;exact eq_str (bT I q Dt)
  | _=>exact absurd (show false=true from z) q0
 | byt i=>
  let (t,rfl):=B;cases y with
  | byt j=>let (n,rfl):=d;exact PySem.W.eq_bytes (bT I q Du)
  | _=>exact absurd (show false=true from z) q0
 | _=>cases y <;> exact absurd (show false=true from z) q0
def Cv:kK X (compareOp .NotEq) KK:=by
 intro pins s σ H x y v u Q I B d h;let (z,q):=h;cases x with
 | non=>
  cases B;cases y with
  | non=>cases d;exact PySem.EqNone.ne_none_none (bT I q (by simp))
  | bl j=>cases d;exact PySem.EqNone.ne_none_bool (bT I q (by simp))
  | int j=>let (n,rfl):=d;exact PySem.EqNone.ne_none_int (bT I q (by simp))
  | str j=>let (n,rfl):=d;exact PySem.EqNone.ne_none_str (bT I q (by simp))
  | _=>exact absurd (show false=true from z) q0
 | bl i=>
  cases B;cases y with
  | non=>cases d;exact PySem.EqNone.ne_bool_none (bT I q (by simp))
  | bl j=>cases d;exact ne_bool (bT I q (congrArg not Np))
  | str j=>let (n,rfl):=d;exact PySem.EqMixed.ne_bool_str (bT I q (by simp))
  | _=>exact absurd (show false=true from z) q0
 | int i=>
  let (t,rfl):=B;cases y with
  | non=>cases d;exact PySem.EqNone.ne_int_none (bT I q (by simp))
  | int j=>let (n,rfl):=d;exact ne_int (bT I q (congrArg not oG))
  | str j=>let (n,rfl):=d;exact PySem.EqMixed.ne_int_str (bT I q (by simp))
  | _=>exact absurd (show false=true from z) q0
 | str i=>
  let (t,rfl):=B;cases y with
  | non=>cases d;exact PySem.EqNone.ne_str_none (bT I q (by simp))
  | bl j=>cases d;exact PySem.EqMixed.ne_str_bool (bT I q (by simp))
  | int j=>let (n,rfl):=d;exact PySem.EqMixed.ne_str_int (bT I q (by simp))
  | str j=>let (n,rfl):=d;exact ne_str (bT I q (congrArg not Dt))
  | _=>exact absurd (show false=true from z) q0
 | byt i=>
  let (t,rfl):=B;cases y with
  | byt j=>let (n,rfl):=d;exact PySem.W.ne_bytes (bT I q (congrArg not Du))
  | _=>exact absurd (show false=true from z) q0
 | _=>cases y <;> exact absurd (show false=true from z) q0
def iF:kK X (compareOp .Lt) (Rj λi j=>.bl (decide (i<j))):=Rz λ_ _ _ _ _ _ _ q=>lt_int q
def fP:kK X (compareOp .LtE) (Rj λi j=>.bl (decide (i<=j))):=Rz λ_ _ _ _ _ _ _ q=>le_int q
def Kv:kK X (compareOp .Gt) (Rj λi j=>.bl (decide (j<i))):=Rz λ_ _ _ _ _ _ _ q=>gt_int q
def Wr:kK X (compareOp .GtE) (Rj λi j=>.bl (decide (j<=i))):=Rz λ_ _ _ _ _ _ _ q=>ge_int q
def zG:kK X (compareOp .Is) (λx y H Q=>y=.non/\Q (.bl (decide (x=.non))) H):=by
 intro pins s σ H x y v u Q I d i h;let (rfl,q):=h;cases i;refine is_none_gen (bT I q ?_);cases x <;> first
  | (cases d;rfl)
  | (let (t,rfl):=d;rfl)
def Cu:kK X (compareOp .IsNot) (λx y H Q=>y=.non/\Q (.bl (!decide (x=.non))) H):=by
 intro pins s σ H x y v u Q I d i h;let (rfl,q):=h;cases i;refine isnot_none_gen (bT I q ?_);cases x <;> first
  | (cases d;rfl)
  | (let (t,rfl):=d;rfl)
def bQ (b:Expr) {op:CmpOp} (h:op≠.In:=by decide) (h2:op≠.NotIn:=by decide):behindInMarks op b=false:=by
 let d:(op == CmpOp.In)=false:=by cases op <;> first|rfl|exact absurd rfl h
 let i:(op == CmpOp.NotIn)=false:=by cases op <;> first|rfl|exact absurd rfl h2
 cases b <;> simp [behindInMarks,d,i]
def dU {op:CmpOp} {r:R2} (i:kK X (compareOp op) r) (z:PE X a ta) (D:PE X b tb) (d:behindInMarks op b=false):PE X (.Compare a [op] [b] pos) (Pk r ta tb):=by
 intro pins s σ H Q I h;exact wpAny_Compare1 (BK z D I h λv u n x y H2 B F j q=>i pins n σ H2 x y v u Q B F j q) d
inductive Vk (x:V) (H':Hp) (Q:Bool->Hp->Prop):Prop|mk (k:_) (_:x=.bl k) (_:Q k H')
def Ho (t:TE):TT:=λσ H Q=>t σ H λx H'=>Vk x H' Q
def cN {op:CmpOp} {r:R2} (i:kK X (compareOp op) r) (F:PE X a ta) (N:PE X b tb) (d:behindInMarks op b=false):PT X (.Compare a [op] [b] pos) (Ho (Pk r ta tb)):=by
 intro pins s σ H Q I h;refine wpAny_isTrue_Compare1 (eH (F s σ H _ I h) λv G x H1 j q B=>eH (N G σ H1 _ j B) λu D y H2 J n L=>
  eH (i pins D σ H2 x y v u _ J q n L) λc U z M S O ⟨k,e,q3⟩=>?_) d;subst e;cases O;exact A0 {(M),S,q3}
def Hr (r r':R2) (ta tb tc:TE):TE:=λσ H Q=>ta σ H λx H1=>tb σ H1 λy H2=>r x y H2 λz H3=>∃k,z=.bl k /\
 (if k=true then tc σ H3 λw' H4=>r' y w' H4 Q else Q (.bl false) H3)
def wC {op i:CmpOp} {r D:R2} (U:kK X (compareOp op) r) (j:kK X (compareOp i) D) (Z:PE X a ta) (hb:PE X b tb) (hc:PE X c tc)
  (F:lastMarks [op,i] [b,c]=false:=by with_unfolding_all rfl):PE X (.Compare a [op,i] [b,c] pos) (Hr r D ta tb tc):=by
 intro pins s σ H Q I h;refine Compare_chain (eH (Z s σ H _ I h) λv s1 x H1 W r1 J=>chain_link (eH (hb s1 σ H1 _ W J) λu M y H2 I2 n q2=>
  eH (U pins M σ H2 x y v u _ I2 r1 n q2) λd L z B q S ⟨k,e,q3⟩=>?_)) F;subst e;cases S;refine A0 ?_;cases k with
 | false=>exact ite_ff {.bl false,B,q,rfl,q3}
 | true=>exact ite_tt (chain_last (eH (hc L σ B _ q q3) λG N Y O I4 r4 q4=>j pins N σ O y Y u G Q I4 n r4 q4))
def iT {op i:CmpOp} {r F:R2} (ho:kK X (compareOp op) r) (n:kK X (compareOp i) F) (ha:PE X a ta) (hb:PE X b tb) (hc:PE X c tc)
  (G:lastMarks [op,i] [b,c]=false:=by with_unfolding_all rfl):PT X (.Compare a [op,i] [b,c] pos) (Ho (Hr r F ta tb tc)):=by
 intro pins s σ H Q I h;refine isTrue_chain (eH (ha s σ H _ I h) λv s1 x H1 I1 r1 L=>test_link (eH (hb s1 σ H1 _ I1 L) λu S y H2 I2 q q2=>
  eH (ho pins S σ H2 x y v u _ I2 r1 q q2) λd N z D B Z ⟨k,e,q3⟩=>?_)) G;subst e;cases Z;refine A0 ?_;cases k with
 | false=>
  let (k',O,M):=q3;cases O;exact ite_ff {(D),B,M}
 | true=>
  refine ite_tt (test_last (eH (hc N σ D _ B q3) λJ U z' W I4 r4 q4=>eH (n pins U σ W y z' u J _ I4 q r4 q4) λd' s5 z2 Y I5 r5 j=>?_));let (k2,e2,q5):=j;subst e2;cases r5;exact A0 {(Y),I5,q5}
def BO (K:PySem.W.Frag) (x:V) (H:Hp) (k:Bool):Prop:=
 match x with
 | .non=>k=false
 | .bl b=>k=b
 | .int i=>k=(i != 0)
 | .str y=>y.length<=sizeLine/\k=((y.length:Int) != 0)
 | .byt y=>y.size<=sizeLine/\k=((y.size:Int) != 0)
 | .ref p=>(∃xs,cZ K H p xs/\k=!xs.isEmpty)\/(∃xs,bN K H p xs/\k=!xs.isEmpty)\/∃kvs,H p=some (.dK kvs)/\k=!kvs.isEmpty
 | _=>False
def zU {κ:Type} {kvs:List (κ × V)} {vs:List (κ × Value)} (r:KV kvs vs):(!vs.isEmpty)=!kvs.isEmpty:=by
 cases r <;> rfl
def pV {xs:List V} {its:List Value} (r:bG xs its):(!its.toArray.isEmpty)=!xs.isEmpty:=by
 cases r <;> simp
def mO:(sizeLine:Nat)<2 ^ 63:=by rw [sizeLine_eq];decide
def Xg:JZ X (λx H Q=>∃k,BO X.K x H k/\Q k H):=by
 intro pins s σ H x v Q I rx h;let (k,e,q):=h;let hl:=mO;let hs:sizeLine=16777216:=sizeLine_eq;cases x with
 | non=>
  cases rx;let e':k=false:=e;subst e';exact truthy_none {(H),I,q}
 | bl b=>
  cases rx;let e':k=b:=e;subst e';exact A0 {(H),I,q}
 | int i=>
  let (t,rfl):=rx;let e':k=(i != 0):=e;subst e';exact PySem.P.truthy_int {(H),I,q}
 | str y=>
  let (t,rfl):=rx;obtain⟨hy,e'⟩:y.length<=sizeLine/\k=((y.length:Int) != 0):=e;subst e';exact PySem.P.truthy_str ∎ {H,I.tok _,q}
 | byt y=>
  let (t,rfl):=rx;obtain⟨hy,e'⟩:y.size<=sizeLine/\k=((y.size:Int) != 0):=e;subst e';exact PySem.W.truthy_bytes ∎ {H,I.tok _,q}
 | ref p=>
  cases rx;let e':(∃xs,cZ X.K H p xs/\k=!xs.isEmpty)\/(∃xs,bN X.K H p xs/\k=!xs.isEmpty)\/∃kvs,H p=some (.dK kvs)/\k=!kvs.isEmpty:=e;rcases e' with ⟨xs,hx,e'⟩|⟨xs,hx,e'⟩|⟨kvs,hx,e'⟩
  ·subst e';let (its,r,pl,hz):=I.list hx;let hlen:=r.length;exact wpAny_truthy_list pl.isList (by simp only [j6];omega) {H,I.tok _,by rw [pV r];exact q}
  ·subst e';let (its,r,pl,hz):=I.tuple hx;let hlen:=r.length;exact truthy_tuple pl (by simp only [j6];omega) {H,I.tok _,by rw [pV r];exact q}
  ·subst e';obtain⟨hz,hS,vs,r,m⟩:kvs.length<=sizeLine/\(p == sysModules)=false/\∃vs,KV kvs vs/\s.heap.DictOf (cK X.prog X.w) p vs:=I.hok p _ hx;let hlen:kvs.length=vs.length:=Paired.length r;exact wpAny_truthy_dict hS m ∎ {H,I.tok _,by rw [zU r];exact q}
 | _=>exact(show False from e).elim
def gY (y:PE X a ta) (i:∀d,isTrue a X.env d=(do let v <- d;standAt a.pos;holding [v] (truthy v))):
  PT X a (λσ H Q=>ta σ H λx H'=>∃k,BO X.K x H' k/\Q k H'):=by
 intro pins s σ H Q I h;exact isTrue_plain (eH (y s σ H _ I h) λv j x H1 n z q=>Xg pins j σ H1 x v Q n z q) (i _)
def iL {x:V} {us:List Value} (r:bG [x] us):∃u,us=[u]/\bK x u:=by
 cases r with
 | cons r1 r2=>cases r2;exact {_,rfl,r1}
def Hj {x y:V} {us:List Value} (r:bG [x,y] us):∃u d,us=[u,d]/\bK x u/\bK y d:=by
 cases r with
 | cons r1 r2=>
  cases r2 with
  | cons r3 r4=>cases r4;exact {_,_,rfl,r1,r3}
def Gr (n:X.calm=true):gC X (.builtin "max") (λxs H Q=>∃i j,xs=[.int i,.int j]/\Q (.int (if j > i then j else i)) H):=by
 intro pins s σ H xs z Q I r h;let (i,j,rfl,q):=h;let (u,y,rfl,(t,rfl),(B,rfl)):=Hj r;refine max_two_ints (I.ok.hd n) λh' tk k=>{_,H,I.kept k,?_,q};by_cases d:j > i
 ·rw [if_pos d,if_pos d];exact {_,rfl}
 ·rw [if_neg d,if_neg d];exact {_,rfl}
end
structure At (h:Heap) (x dx C:Addr) (mA:Str->Option Value):Prop where
 obj:h.get? x=some (PySem.W.instObj C dx)
 ns:h.Ns1 dx mA
 ne:dx≠x
def Fi {h:Heap} {dx:Addr} {mA:Str->Option Value} (n:h.Ns1 dx mA):∃od,h.get? dx=some od/\∀name,PySem.W.lookIn name od=some (mA name):=by
 let (o,es,ep,ho,hd,hk,_,hm):=n;refine {o,ho,λname=>?_};let e:=hm name;unfold nsFind findBy at e;rw [<- Array.find?_toList] at e;unfold PySem.W.lookIn;rw [hd];dsimp only
 split
 ·rename_i y q;rw [q] at e;exact congrArg some e
 ·rename_i q;rw [q] at e;let a:es.toList.any (·.refKey)=false:=by
   rw [List.any_eq_false];intro y hy;let (z,t,hkey):=hk y (Array.mem_toList_iff.mp hy);simp [DictEntry.refKey,hkey]
  let a':¬ es.toList.any (·.refKey)=true:=by rw [a];exact q0
  rw [if_neg a'];exact congrArg some e
def At.look {h:Heap} {x dx C:Addr} {mA:Str->Option Value} (I:At h x dx C mA):∃d,PySem.W.InstAt h x (PySem.W.instObj C dx) C (some d)/\∀name,PySem.W.lookIn name d=some (mA name):=
 let ⟨d,ho,hl⟩:=Fi I.ns
 {d,{(I.obj),rfl,rfl,ho},hl}
section
variable {prog:Program} {w:World} {A:Around} {E:Value->Shared->Prop} {s:Shared} {K:PySem.W.Frag} {x dx C f:Addr} {mA:Str->Option Value} {name:Str} {v:Value}
def Tk {d:Bool} {Q:Value->Shared->Prop} (X:K.In s.heap) (I:At s.heap x dx C mA) (n:PySem.W.plainGet K C name=true) (y:PySem.W.hasDictIn K C=true)
  (q:PySem.W.findIn K (.ref C) name=some none) (z:mA name=some v) (i:PySem.W.handedIn v=true) (h:Q v { s with toks:=s.toks+1 }):
  wpAny (model prog w) A (getAttr (.ref x) name d) Q E s:=by
 let (B,J,j):=I.look;exact PySem.W.get_value X J (PySem.W.plainGet_of n).1 (PySem.W.findObj_own y q rfl (by rw [j,z])) i h
def Mz {pl:Sem Bool} {Q:Value × List Value->Shared->Prop} (X:K.In s.heap) (I:At s.heap x dx C mA) (d:PySem.W.plainGet K C name=true)
  (q:PySem.W.findIn K (.ref C) name=some (some (.ref f))) (j:PySem.W.isFn K (.ref f)=true) (n:mA name=none) (h:Q (.ref f,[.ref x]) s):
  wpAny (model prog w) A (getMethod (.ref x) name pl) Q E s:=by
 let (y,J,i):=I.look;exact PySem.W.method_fn X J (PySem.W.plainGet_of d).1 (PySem.W.plainGet_of d).2 q (beq_iff_eq.mp j) (by show (PySem.W.lookIn name y).map (·.isSome)=some false;rw [i,n];rfl) h
def Qq {ns:List Str} {Q:Unit->Shared->Prop} (X:K.In s.heap) (I:At s.heap x dx C mA)
  (F:PySem.W.findIn K (.ref C) "__setattr__"=some (some (.builtin "object.__setattr__"))) (S:PySem.W.plainOver K C=true) (M:PySem.W.takerIn K C name=some none) (B:PySem.W.hasDictIn K C=true)
  (D:PySem.Within mA ns) (hsz:ns.length<=sizeLine)
  (h:∀h',At h' x dx C (λy=>if y=name then some v else mA y)->Heap.SameBut dx s.heap h'->Q () { s with heap:=h',toks:=s.toks+2 }):
  wpAny (model prog w) A (setAttr (.ref x) name v) Q E s:=by
 let (U,J,hl):=I.look;refine PySem.W.set_plain X J F (PySem.W.osa_open (s:={ s with toks:=s.toks+1 }) (r:=none) X J S M λb=>?_);let (Y,O,n):=PySem.W.any_some B;let G:s.heap.get? x=some {.ref C,some dx,.plain,#[]}:=I.obj;refine c7 (i0 (c7 (c7 (wpAny_loadPart G (c7 (PySem.W.Looks.here (s:={ s with toks:=s.toks+1 }) (PySem.W.looks_clsIn X O) ?_))))));rw [n];refine i0 (a:=some dx) (c7 (i0 (c7 ?_)));refine wpAny_nsSet1 (s:={ s with toks:=s.toks+1 }) I.ns λh' d i=>?_;let (Z,L,N,j,z,q):=d.count (PySem.Within.cons name v D);refine c7 (wpAny_lookBehind j (by rw [z];exact pastItsLine_dict (n8 q (by rw [j4];omega))) ?_);exact i0 (h _ {(i.2 _ (A8 I.ne)).trans I.obj,d,I.ne} i)
def Mb {R:Result->Shared->Prop} {vs:List Value} {kw:List (Str × Value)} (X:K.In s.heap) (j:PySem.W.makesIn K C=true)
  (hi:PySem.W.findIn K (.ref C) "__init__"=some (some (.ref f))) (n:PySem.W.typeIn K (.ref f)=some (.type "function"))
  (h:codeAny (model prog w) (A.under (.builtin "type.__call__" {.ref C::vs,kw})) (.call (.ref f) {.ref (s.heap.objs.size+1)::vs,kw}) (PySem.W.InitBack (s.heap.objs.size+1) R)
   { s with heap:=(s.heap.push PySem.W.emptyDict).push (PySem.W.instObj C s.heap.objs.size) }):
  codeAny (model prog w) A (.call (.ref C) {(vs),kw}) R s:=by
 let (q,g,d,t,y):=s;exact PySem.W.make_core (PySem.W.makes_of X j) (PySem.W.looks_findIn X hi) (λi=>PySem.W.bind_fn X i n) (.inl rfl) h
end
def cM (f:Str) (v:V):List (Str × V)->List (Str × V)
 | []=>[(f,v)]
 | (g,x)::r=>if g=f then(g,v)::r else(g,x)::cM f v r
theorem dQ (f g:Str) (v:V):∀fs:List (Str × V),(cM f v fs).lookup g=if g=f then some v else fs.lookup g
 | []=>by
  show List.lookup g [(f,v)]=_
  by_cases h:g=f
  ·have d:(g == f)=true:=beq_iff_eq.mpr h
   simp only [List.lookup,d,if_pos h]
  ·have d:(g == f)=false:=beq_eq_false_iff_ne.mpr h
   simp only [List.lookup,d,if_neg h]
 | (k,x)::r=>by
  have j:=dQ f g v r
  rw [show cM f v ((k,x)::r)=(if k=f then(k,v)::r else(k,x)::cM f v r) from rfl]
  by_cases i:k=f
  ·rw [if_pos i]
   by_cases h:g=k
   ·have d:(g == k)=true:=beq_iff_eq.mpr h
    simp only [List.lookup,d,if_pos (h.trans i)]
   ·have d:(g == k)=false:=beq_eq_false_iff_ne.mpr h
    simp only [List.lookup,d,if_neg (λe:g=f=>h (e.trans i.symm))]
  ·rw [if_neg i]
   by_cases h:g=k
   ·have d:(g == k)=true:=beq_iff_eq.mpr h
    simp only [List.lookup,d,if_neg (λe:g=f=>i (h.symm.trans e))]
   ·have d:(g == k)=false:=beq_eq_false_iff_ne.mpr h
    simp only [List.lookup,d]
    exact j
theorem mP (f:Str) (v:V):∀fs:List (Str × V),f ∈ (cM f v fs).map (·.1)/\∀g,g ∈ fs.map (·.1)->g ∈ (cM f v fs).map (·.1)
 | []=>{by simp [cM],λg h=>by simp at h}
 | (k,x)::r=>by
  let (j,i):=mP f v r
  rw [show cM f v ((k,x)::r)=(if k=f then(k,v)::r else(k,x)::cM f v r) from rfl]
  by_cases d:k=f
  ·rw [if_pos d]
   subst d
   exact {by simp,λg h=>by simpa using h}
  ·rw [if_neg d]
   refine {?_,λg h=>?_}
   ·rw [k7]
    exact d0 _ j
   ·rw [k7] at h ⊢
    rcases g7.mp h with e|e
    ·exact g7.mpr (.inl e)
    ·exact d0 _ (i g e)
theorem nC (f:Str) (v:V):∀fs:List (Str × V),(cM f v fs).length<=fs.length+1
 | []=>by simp [cM]
 | (k,x)::r=>by
  have i:=nC f v r
  rw [show cM f v ((k,x)::r)=(if k=f then(k,v)::r else(k,x)::cM f v r) from rfl]
  by_cases d:k=f
  ·rw [if_pos d,j4,j4];omega
  ·rw [if_neg d,j4,j4];omega
def iJ.some_of {v:V} {o:Option Value} (r:iJ (some v) o):∃u,o=some u/\bK v u:=by
 cases o with
 | none=>exact(show False from r).elim
 | some u=>exact {(u),rfl,r}
def iJ.none_of {o:Option Value} (r:iJ none o):o=none:=by
 cases o with
 | none=>rfl
 | some u=>exact(show False from r).elim
def Fw {v:V} {u:Value} (r:bK v u):PySem.W.handedIn u=true:=by
 cases v with
 | non=>cases (show u=Value.none from r);rfl
 | bl b=>cases (show u=Value.bool b from r);rfl
 | int i=>let (t,e):=(show ∃t,u=Value.int i t from r);cases e;rfl
 | str x=>let (t,e):=(show ∃t,u=Value.str x t from r);cases e;rfl
 | byt b=>let (t,e):=(show ∃t,u=Value.bytes b t from r);cases e;rfl
 | flt b=>let (t,e):=(show ∃t,u=Value.float b t from r);cases e;rfl
 | ref a=>cases (show u=Value.ref a from r);rfl
 | ty n=>cases (show u=Value.type n from r);rfl
section
variable {P:Program} {w:World} {H H':Hp} {h h':Heap} {a C dx:Addr} {fs fs':List (Str × V)}
def oD (i:iH P w H h) (e:H a=some (.ins C dx fs)):∃mA,At h a dx C mA/\(∀f,iJ (fs.lookup f) (mA f))/\PySem.Within mA (fs.map (·.1))/\fs.length<=1000/\H dx=some (.own a):=by
 let (d,z,y,j,mA,n,r,q):=(show bL P w H h a (.ins C dx fs) from i a _ e);exact {mA,{(j),n,y},r,q,z,d}
end
structure oO (K:PySem.W.Frag) (C:Addr):Prop where
 pg:PySem.W.plainGet K C Str.empty=true
 hd:PySem.W.hasDictIn K C=true
 po:PySem.W.plainOver K C=true
 sa:PySem.W.findIn K (.ref C) "__setattr__"=some (some (.builtin "object.__setattr__"))
def oO.get {K:PySem.W.Frag} {C:Addr} (c:oO K C) (f:Str):PySem.W.plainGet K C f=true:=c.pg
def NoAttr (K:PySem.W.Frag) (C:Addr) (f:Str):Prop:=PySem.W.findIn K (.ref C) f=some none
def NoAttr.taker {K:PySem.W.Frag} {C:Addr} {f:Str} (n:NoAttr K C f):PySem.W.takerIn K C f=some none:=by
 unfold PySem.W.takerIn;rw [show PySem.W.findIn K (.ref C) f=some none from n];rfl
structure xV (K:PySem.W.Frag) (C:Addr) (m:Str) (f:Addr):Prop where
 at_:PySem.W.findIn K (.ref C) m=some (some (.ref f))
 fn:PySem.W.isFn K (.ref f)=true
 kp:PySem.W.keepIn K (.ref f)=true
section
variable {X:Cx} {pins:List (Addr × Obj)} {σ:St} {H:Hp} {s:Shared} {a C dx:Addr} {fs:List (Str × V)} {f:Str} {v:V} {A:Around} {E:Value->Shared->Prop}
def pY {b:Bool} {Q:Value->Shared->Prop} (I:aP X pins σ H s) (e:H a=some (.ins C dx fs)) (c:oO X.K C) (n:NoAttr X.K C f) (l:fs.lookup f=some v)
  (h:∀u s',aP X pins σ H s'->bK v u->Q u s'):wpAny (model X.prog X.w) A (getAttr (.ref a) f b) Q E s:=by
 let (mA,O,r,_,_,_):=oD I.hok e
 let (u,i,d):=iJ.some_of (v:=v) (o:=mA f) (by rw [<- l];exact r f)
 exact Tk I.kIn O (c.get f) c.hd n i (Fw d) (h u _ (I.tok _) d)
def kU {m:Str} {g:Addr} {pl:Sem Bool} {Q:Value × List Value->Shared->Prop} (I:aP X pins σ H s) (e:H a=some (.ins C dx fs)) (c:oO X.K C) (k:xV X.K C m g) (l:fs.lookup m=none)
  (h:Q (.ref g,[.ref a]) s):wpAny (model X.prog X.w) A (getMethod (.ref a) m pl) Q E s:=by
 let (mA,O,r,_,_,_):=oD I.hok e
 let d:mA m=none:=iJ.none_of (by rw [<- l];exact r m)
 exact Mz I.kIn O (c.get m) k.at_ k.fn d h
def oZ {y:V} {u:Value} {Q:Unit->Shared->Prop} (I:aP X pins σ H s) (e:H a=some (.ins C dx fs)) (c:oO X.K C) (n:NoAttr X.K C f) (M:fs.length<1000) (G:bK y u)
  (h:∀s',aP X pins σ (aS H a (.ins C dx (cM f y fs))) s'->Q () s'):wpAny (model X.prog X.w) A (setAttr (.ref a) f u) Q E s:=by
 let (mA,O,r,j,_,i):=oD I.hok e;let F:(fs.map (·.1)).length<=sizeLine:=by rw [f8,sizeLine_eq];omega
 refine Qq I.kIn O c.sa c.po n.taker c.hd j F λh' d D=>h _ ?_;let L:∃o,h'.get? dx=some o:=let ⟨o,_,_,e',_⟩:=d.ns;{(o),e'};refine I.write (x:=a) (e:=dx) (by rw [e];exact D5) (.inr i) (λb q J z=>(D.2 b J).trans z) L ?_;refine {by rw [aC O.ne];exact i,?_,O.ne,d.obj,_,d.ns,λg=>?_,λg B=>?_}
 ·have:=nC f y fs;omega
 ·show iJ ((cM f y fs).lookup g) (if g=f then some u else mA g);rw [dQ];by_cases q:g=f
  ·rw [if_pos q,if_pos q];exact G
  ·rw [if_neg q,if_neg q];exact r g
 ·by_cases q:g=f
  ·rw [q];exact(mP f y fs).1
  ·refine(mP f y fs).2 g (j g λz=>B ?_);show (if g=f then some u else mA g)=none;rw [if_neg q];exact z
def aP.made (I:aP X pins σ H s):aP X pins σ (aS (aS H s.heap.objs.size (.own (s.heap.objs.size+1))) (s.heap.objs.size+1) (.ins C s.heap.objs.size []))
  { s with heap:=(s.heap.push PySem.W.emptyDict).push (PySem.W.instObj C s.heap.objs.size) }:=by
 let d:(s.heap.push PySem.W.emptyDict).get? s.heap.objs.size=some PySem.W.emptyDict:=j3 s.heap rfl;let z:((s.heap.push PySem.W.emptyDict).push (PySem.W.instObj C s.heap.objs.size)).get? (s.heap.objs.size+1)=some (PySem.W.instObj C s.heap.objs.size):=by
  have:=j3 (s.heap.push PySem.W.emptyDict) (o:=PySem.W.instObj C s.heap.objs.size) rfl;rwa [D3] at this
 let D:(s.heap.push PySem.W.emptyDict).Ns s.heap.objs.size (λ_=>none):={PySem.W.emptyDict,#[],_,d,rfl,(λe j=>absurd j (by simp)),λ_=>rfl};let n:=I.laid (a:=s.heap.objs.size) (o:=.own (s.heap.objs.size+1)) (h':=s.heap.push PySem.W.emptyDict) (t':=s.toks) (λb u q=>f1 _ q) (d7 _) {_,d};refine n.laid (a:=s.heap.objs.size+1) (o:=.ins C s.heap.objs.size []) (t':=s.toks) (λb u q=>f1 _ q) (J3 (D3 _ _)) ?_;let i:s.heap.objs.size≠s.heap.objs.size+1:=j8 (K0 _);refine {by rw [aC i,aB],i8 _,i,z,λ_=>none,(Heap.Ns1.of_empty D).at λo q=>f1 _ q,λ_=>D5,λy B=>absurd rfl B}
def Uf {prog:Program} {w:World} {env:Env} {e:Expr} {f:Str} {pos:Pos} {s:Shared} {Q:Value->Shared->Prop} (i:attributeBase e f env (eval e env)=eval e env)
  (h:wpAny (model prog w) A (eval e env) (λo d=>wpAny (model prog w) A (getAttr o f true) Q E d) E s):wpAny (model prog w) A (eval (.Attribute e f pos) env) Q E s:=
 Attribute_any_ h (by rw [arm_eval_Attribute,i])
end
inductive CD (K:PySem.W.Frag) (f:Str) (x:V) (H1:Hp) (Q:VK):Prop|mk (a:_) (C:_) (dx:_) (fs:_) (v:_) (_:x=.ref a) (_:H1 a=some (.ins C dx fs)) (_:oO K C) (_:NoAttr K C f) (_:fs.lookup f=some v) (_:Q v H1)
def Pz (K:PySem.W.Frag) (ta:TE) (f:Str):TE:=λσ H Q=>ta σ H λx H1=>CD K f x H1 Q
inductive CF (K:PySem.W.Frag) (f:Str) (D:eO) (σ:St) (y x:V) (H2:Hp):Prop|mk (a:_) (C:_) (dx:_) (fs:_) (_:x=.ref a) (_:H2 a=some (.ins C dx fs)) (_:oO K C) (_:NoAttr K C f) (_:fs.length<1000) (_:D.nx σ (aS H2 a (.ins C dx (cM f y fs))))
def ET (K:PySem.W.Frag) (ta tv:TE) (f:Str):TS:=λD σ H=>tv σ H λy H1=>ta σ H1 λx H2=>CF K f D σ y x H2
def BZ (X:Cx) (op:Operator) (rd:V->V->Hp->VK->Prop):Prop:=
 ∀(pins:List (Addr × Obj)) (s:Shared) (σ:St) (H:Hp) (x y:V) (u v:Value) (Q:VK),aP X pins σ H s->bK x u->bK y v->rd x y H Q->wpAny (model X.prog X.w) X.A (inplaceOp op u v) (EP X pins σ Q) X.xe s
def Re (K:PySem.W.Frag) (ta tv:TE) (rd:V->V->Hp->VK->Prop) (f:Str):TS:=λD σ H=>ta σ H λx H1=>∃a C dx fs v,x=.ref a/\H1 a=some (.ins C dx fs)/\oO K C/\NoAttr K C f/\fs.lookup f=some v /\
 tv σ H1 λy H2=>rd v y H2 λz H3=>∃dx' fs',H3 a=some (.ins C dx' fs')/\fs'.length<1000/\D.nx σ (aS H3 a (.ins C dx' (cM f z fs')))
section
variable {X:Cx} {o e value:Expr} {f:Str} {pos pos' tpos:Pos} {ta tv:TE}
def bA (he:PE X e ta) (hb:attributeBase e f X.env (eval e X.env)=eval e X.env):PE X (.Attribute e f pos) (Pz X.K ta f):=by
 intro pins s σ H Q I h;refine Uf hb (eH (he s σ H _ I h) λu s1 x H1 I1 rx hUp=>?_);let (a,C,dx,fs,v,ex,ea,c,n,l,q):=hUp;subst ex;obtain rfl:u=Value.ref a:=rx;exact pY I1 ea c n l λu' s2 I2 ru=>{(v),H1,I2,ru,q}
def cA (ha:PE X o ta) (hv:PE X value tv) (hs:swapsWith value (some (.Attribute o f pos')) pos.line X.env=pure false):PS X (.Assign [.Attribute o f pos'] value pos) (ET X.K ta tv f):=by
 intro pins s σ H D I h;refine plainObj_wpAny_Assign_Attribute (eH (hv s σ H _ I h) λu s1 y H1 I1 ry q=>eH (ha s1 σ H1 _ I1 q) λov s2 x H2 I2 rx hUp=>?_) hs;let (a,C,dx,fs,ex,ea,c,n,l,q2):=hUp;subst ex;obtain rfl:ov=Value.ref a:=rx;exact oZ I2 ea c n l ry λs3 I3=>{σ,_,I3,q2}
def fU {op:Operator} {rd:V->V->Hp->VK->Prop} (ha:PE X o ta) (hv:PE X value tv) (hop:BZ X op rd):PS X (.AugAssign (.Attribute o f tpos) op value pos) (Re X.K ta tv rd f):=by
 intro pins s σ H D I h;refine wpAny_AugAssign_AttributeAny (eH (ha s σ H _ I h) λov s1 x H1 I1 rx hUp=>?_);let (a,C,dx,fs,v,ex,ea,c,n,l,q):=hUp;subst ex;obtain rfl:ov=Value.ref a:=rx;refine pY I1 ea c n l λu s2 I2 ru=>eH (hv s2 σ H1 _ I2 q) λw3 s3 y H2 I3 ry q3=>eH (hop pins s3 σ H2 v y u w3 _ I3 ru ry q3) λw4 s4 z H3 I4 rz hUp=>?_;let (dx',fs',ea',l',q4):=hUp;exact oZ I4 ea' c n l' rz λs5 I5=>{σ,_,I5,q4}
def JF:V->V->Hp->VK->Prop:=λx y H Q=>∃i j,x=.int i/\y=.int j/\Q (.int (i+j)) H
def pX:BZ X .Add JF:=by
 rintro pins s σ H x y u v Q I z n ⟨i,j,rfl,rfl,q⟩;let (t,rfl):=(show ∃t,u=Value.int i t from z);let (d,rfl):=(show ∃d,v=Value.int j d from n);exact PyProof.Rows.iadd_int {.int (i+j),H,I.tok _,{_,rfl},q}
end
section
variable {X:Cx} {pins:List (Addr × Obj)} {σ:St} {H:Hp} {s:Shared} {A:Around} {E:Value->Shared->Prop} {Q:Value->Shared->Prop} {c:Value} {b:Bool}
inductive jG (K:PySem.W.Frag) (H:Hp):V->Value->Prop where
 | non:jG K H .non (.type "NoneType")
 | bl (x:Bool):jG K H (.bl x) (.type "bool")
 | int (i:Int):jG K H (.int i) (.type "int")
 | str (x:Str):jG K H (.str x) (.type "str")
 | flt (x:UInt64):jG K H (.flt x) (.type "float")
 | lst {a:Addr} {xs:List V} (e:H a=some (.lst xs)):jG K H (.ref a) (.type "list")
 | frz {a:Addr} {o:Obj} {xs:List V} (e:H a=some (.frz o (.lst xs))):jG K H (.ref a) (.type "list")
 | tup {a:Addr} {xs:List V} (e:H a=some (.tup xs)):jG K H (.ref a) (.type "tuple")
 | dK {a:Addr} {kvs:List (cC × V)} (e:H a=some (.dK kvs)):jG K H (.ref a) (.type "dict")
 | dT {a:Addr} {kvs:List (List cC × V)} (e:H a=some (.dT kvs)):jG K H (.ref a) (.type "dict")
 | ins {a C dx:Addr} {fs:List (Str × V)} (e:H a=some (.ins C dx fs)) (cl:oO K C) (ha:PySem.W.findIn K (.ref C) "__class__"=some (some (.builtin "object.__class__")))
   (hn:PySem.W.specialIn K (.builtin "object.__class__") "__get__"=some (some (.builtin "getset_descriptor.__get__"))) (htk:PySem.W.takesIn K (.builtin "object.__class__")=some true)
   (hm:PySem.W.mroIn K C (.type "object")=some true):jG K H (.ref a) (.ref C)
def Ft {x:V} {u t:Value} (I:aP X pins σ H s) (d:bK x u) (j:jG X.K H x t) (e:PySem.W.kitOne X.K t c=some b) (h:∀tk,Q (.bool b) { s with toks:=tk }):
  wpAny (model X.prog X.w) A (call (.builtin "isinstance") [u,c]) Q E s:=by
 cases j with
 | non=>cases (show u=Value.none from d);exact PySem.W.kia_one PySem.W.kitx_none I.kIn D5 e (λz=>nomatch z) h
 | bl y=>cases (show u=Value.bool y from d);exact PySem.W.kia_one PySem.W.kitx_bool I.kIn D5 e (λz=>nomatch z) h
 | int i=>let (t,q):=(show ∃t,u=Value.int i t from d);cases q;exact PySem.W.kia_one PySem.W.kitx_int I.kIn D5 e (λz=>nomatch z) h
 | str y=>let (t,q):=(show ∃t,u=Value.str y t from d);cases q;exact PySem.W.kia_one PySem.W.kitx_str I.kIn D5 e (λz=>nomatch z) h
 | flt y=>let (t,q):=(show ∃t,u=Value.float y t from d);cases q;exact PySem.W.kia_one PySem.W.kitx_float I.kIn D5 e (λz=>nomatch z) h
 | @lst a xs ea=>
  cases (show u=Value.ref a from d);let (_,_,n,_,h1):=(show bL X.prog X.w H s.heap a (.lst xs) from I.hok a _ ea);exact PySem.W.kia_one PySem.W.kitx_list I.kIn {_,h1,rfl} e (λz=>nomatch z) h
 | @frz a ob xs ea=>
  cases (show u=Value.ref a from d);let (_,_,_,n,_,h1):=(show bL X.prog X.w H s.heap a (.frz ob (.lst xs)) from I.hok a _ ea);exact PySem.W.kia_one PySem.W.kitx_list I.kIn {_,h1,rfl} e (λz=>nomatch z) h
 | @tup a xs ea=>
  cases (show u=Value.ref a from d);let (_,_,_,p):=(show bL X.prog X.w H s.heap a (.tup xs) from I.hok a _ ea);let (o,h1,h2,_):=p;exact PySem.W.kia_one PySem.W.kitx_tuple I.kIn {(o),h1,h2} e (λz=>nomatch z) h
 | @dK a kvs ea=>
  cases (show u=Value.ref a from d);let (_,_,D,_,p):=(show bL X.prog X.w H s.heap a (.dK kvs) from I.hok a _ ea);let (o,es,B,h1,h2,_):=p;exact PySem.W.kia_one PySem.W.kitx_dict I.kIn {(o),h1,h2.1} e (λz=>nomatch z) h
 | @dT a kvs ea=>
  cases (show u=Value.ref a from d);let (_,_,xs,_,o,es,B,h1,h2,_):=(show bL X.prog X.w H s.heap a (.dT kvs) from I.hok a _ ea);exact PySem.W.kia_one PySem.W.kitx_dict I.kIn {(o),h1,h2.1} e (λz=>nomatch z) h
 | @ins a C dx fs ea cl ha hn htk hm=>
  cases (show u=Value.ref a from d);let (mA,O,_):=oD I.hok ea;let (F,J,_):=O.look;exact PySem.W.kia_one (PySem.W.kitx_own (cl.get _) cl.hd ha hn htk hm) I.kIn J e (λz=>nomatch z) h
end
structure Room (k:Nat) (A:Around):Prop where
 hd:A.handled=none
 dp:A.depth+3 * k+5<recursionLimit
 un:A.units+16 * k+200<cLine
def Room.mono {j k:Nat} {A:Around} (r:Room k A) (h:j<=k):Room j A:=⟨r.hd,by have:=r.dp;omega,by have:=r.un;omega⟩
theorem Room.deeper {k:Nat} {A:Around} (r:Room (k+1) A) (env:Env):Room k (A.deeper env):=
 ⟨r.hd,by have:=r.dp;show A.depth+1+3 * k+5<_;omega,by have:=r.un;show A.units+3+16 * k+200<_;omega⟩
theorem Room.in1 {k:Nat} {A:Around} (r:Room (k+1) A):Room k A.in1:=
 ⟨r.hd,by have:=r.dp;show A.depth+3 * k+5<_;omega,by have:=r.un;show A.units+1+16 * k+200<_;omega⟩
def zT {A:Around} {C:Addr} {us:List Value} {kw:List (Str × Value)}:(A.under (.builtin "type.__call__" {.ref C::us,kw})).depth=A.depth+1:=by
 first|rfl|simp [Around.under,Code.weight,Code.isCreation,Code.isGuard,Code.isCaller,Code.frames,Code.isFrame,guardIds]
def zS {A:Around} {C:Addr} {us:List Value} {kw:List (Str × Value)}:(A.under (.builtin "type.__call__" {.ref C::us,kw})).units=A.units+1:=by
 first|rfl|simp [Around.under,Code.cUnits,Code.frames,Code.isFrame]
def Room.make {k:Nat} {A:Around} (r:Room (k+1) A) (C:Addr) (us:List Value) (kw:List (Str × Value)):Room k (A.under (.builtin "type.__call__" {.ref C::us,kw})):=
 ⟨r.hd,by have:=r.dp;rw [zT];omega,by have:=r.un;rw [zS];omega⟩
theorem Room.depth {k:Nat} {A:Around} (r:Room k A):A.depth<recursionLimit:=by have:=r.dp;omega
theorem Room.units {k:Nat} {A:Around} (r:Room k A):A.units+64<cLine:=by have:=r.un;omega
def nJ:TA:=λ_ H Q=>Q [] H
def iO (ta:TE) (tr:TA):TA:=λσ H Q=>ta σ H λx H1=>tr σ H1 λxs H2=>Q (x::xs) H2
section
variable {X:Cx} {e:Expr} {es:List Expr} {te:TE} {t:TA} {pos:Pos}
def aF:PA X [] nJ:=λ_ _ _ _ H Q I h=>Calls.spliced_nil {[],H,I,.nil,h}
def aA (y:PE X e te) (q:PA X es t) (D:starEach (e::es) X.env=(false,eval e X.env)::starEach es X.env:=by rfl):PA X (e::es) (iO te t):=by
 intro pos pins s σ H Q I h;rw [D];show wpAny _ _ (spliced ((false,eval e X.env)::backTo pos (starEach es X.env))) _ _ s;refine Calls.spliced_cons (eH (y s σ H _ I h) λu d x H1 i F n=>?_);exact vF (q pins d σ H1 _ i n) λG J xs H2 z j B=>{x::xs,H2,z,.cons F j,B}
def Xl (t:TA):TE:=λσ H Q=>t σ H λxs H1=>xs.length<=sizeLine/\∀p,H1 p=none->Q (.ref p) (aS H1 p (.tup xs))
def IH (t:TA):TE:=λσ H Q=>t σ H λxs H1=>xs.length<=sizeLine/\∀p,H1 p=none->Q (.ref p) (aS H1 p (.lst xs))
def cD {x1} (h:PA X es t):PE X (.Tuple es x1 pos) (Xl t):=by
 intro pins s σ H Q I n;refine wpAny_Tuple_spliced (vF (h pins s σ H _ I n) λj d xs H1 i r ⟨z,q⟩=>{by rw [<- r.length];exact z,?_});let y:H1 d.heap.objs.size=none:=i.hok.fresh (d7 _);refine {.ref d.heap.objs.size,aS H1 d.heap.objs.size (.tup xs),i.laid (t':=d.toks) (λb u e=>f1 _ e) (d7 _) ?_,rfl,q _ y};exact {z,j,r,{_,j3 _ rfl,rfl,_,rfl}}
def pH (h:PA X es t):PE X (.List es pos) (IH t):=by
 intro pins s σ H Q I n;refine wpAny_List_spliced (vF (h pins s σ H _ I n) λj d xs H1 i r ⟨z,q⟩=>{by rw [<- r.length];exact z,?_});let y:H1 d.heap.objs.size=none:=i.hok.fresh (d7 _);refine {.ref d.heap.objs.size,aS H1 d.heap.objs.size (.lst xs),i.laid (t':=d.toks) (λb u e=>f1 _ e) (d7 _) ?_,rfl,q _ y};exact {z,j,0,r,j3 _ rfl}
end
abbrev Sp:=List V->Hp->VK->XK->Prop
abbrev nG:=List Env->Hp->Shared->XK->Value->Shared->Prop
structure nY (P:Program) (w:World) (K:PySem.W.Frag) (mg:Str->Option Value) (base:Heap) (A:Around) (outer:List Env) (s:Shared) (H:Hp):Prop where
 frames:A.frames=some outer
 mod:Mod K mg base
 bs:∀b o,base.get? b=some o->s.heap.get? b=some o/\H b=none
 bsz:base.objs.size<=s.heap.objs.size
 funs:s.heap.FunFrames base outer
 frf:∀b ∈ iZ outer,H b=none
 hok:iH P w H s.heap
 bare:AllBare s.gens
def CE (outer:List Env) (P:Program) (w:World) (H:Hp) (s:Shared) (Q:VK) (u:Value) (s':Shared):Prop:=
 ∃v H',s'.os=s.os/\AllBare s'.gens/\Un (iZ outer) [] H H' s.heap s'.heap/\iH P w H' s'.heap/\bK v u/\Q v H'
def CR (CX:nG) (outer:List Env) (P:Program) (w:World) (H:Hp) (s:Shared) (Q:VK) (E:XK) (r:Result) (s':Shared):Prop:=
 match r with
 | .ok (.ret u)=>CE outer P w H s Q u s'
 | .ok _=>False
 | .error e=>CX outer H s E e s'
structure bM (P:Program) (w:World) (K:PySem.W.Frag) (mg:Str->Option Value) (base:Heap) (CX:nG) (k:Nat) (f:Addr) (fd:FuncData) (ps:List Str) (sp:Sp):Prop where
 len:∀vs H Q E,sp vs H Q E->vs.length=ps.length
 run:∀(A:Around) (outer:List Env) (s:Shared) (H:Hp) (args:Args) (us:List Value) (vs:List V) (Q:VK) (E:XK),Room k A->nY P w K mg base A outer s H->BindsTo s fd args (ps.zip us)->bG vs us->sp vs H Q E ->
  codeAny (model P w) A (.call (.ref f) args) (CR CX outer P w H s Q E) s
theorem bM.mono {P:Program} {w:World} {K:PySem.W.Frag} {mg:Str->Option Value} {base:Heap} {CX:nG} {j k:Nat} {f:Addr} {fd:FuncData} {ps:List Str} {sp:Sp} (F:bM P w K mg base CX j f fd ps sp) (h:j<=k):
  bM P w K mg base CX k f fd ps sp:={F.len,λA d s H i n y Q E q=>F.run A d s H i n y Q E (q.mono h)}
def bM.imp {P:Program} {w:World} {K:PySem.W.Frag} {mg:Str->Option Value} {base:Heap} {CX:nG} {k:Nat} {f:Addr} {fd:FuncData} {ps:List Str} {sp sp':Sp} (F:bM P w K mg base CX k f fd ps sp)
  (h:∀i H Q E,sp' i H Q E->sp i H Q E):bM P w K mg base CX k f fd ps sp':=
 {λi H Q E q=>F.len i H Q E (h _ _ _ _ q),λA d s H j y i Q E z n B D G=>F.run A d s H j y i Q E z n B D (h _ _ _ _ G)}
def nY.make {P:Program} {w:World} {K:PySem.W.Frag} {mg:Str->Option Value} {base:Heap} {A:Around} {outer:List Env} {s:Shared} {H:Hp} (e:nY P w K mg base A outer s H) (C:Addr) (us:List Value) (kw:List (Str × Value)):
  nY P w K mg base (A.under (.builtin "type.__call__" {.ref C::us,kw})) outer s H:=⟨by first|exact e.frames|(simpa [Around.under,Code.envs,Code.isFrame,pushEnvs] using e.frames),e.mod,e.bs,e.bsz,e.funs,e.frf,e.hok,e.bare⟩
section
variable {X:Cx} {pins:List (Addr × Obj)} {σ:St} {H:Hp} {s s':Shared}
def aP.env0 (I:aP X pins σ H s):nY X.prog X.w X.K X.mg X.base X.A X.stack s H:=
 {I.ok.frames,I.ok.mod,I.bs,n8 I.ok.bsz I.sz,I.stack,I.stkFree,I.hok,I.bare}
def aP.after {Q:VK} {u:Value} (I:aP X pins σ H s) (h:CE X.stack X.prog X.w H s Q u s'):EP X pins σ Q u s':=by
 let (v,H',D,i,B,j,r,q):=h;let (y,g,d,t,n):=s';obtain rfl:n=s.os:=D;exact {v,H',I.call (h':=y) (g':=g) (d':=d) (t':=t) (ch:=[]) B j i (λb z=>absurd z (by simp)),r,q}
end
def Bi (sp:Sp) (dvs:List V) (E:XK) (t:TA):TE:=λσ H Q=>t σ H λvs H1=>sp (vs++dvs) H1 Q E
inductive Vm (C:Addr) (m:Str) (sp:Sp) (dvs:List V) (E:XK) (t:TA) (σ:St) (Q:VK) (x:V) (H1:Hp):Prop|mk (a:_) (dx:_) (fs:_) (_:x=.ref a) (_:H1 a=some (.ins C dx fs)) (_:fs.lookup m=none) (_:t σ H1 λvs H2=>sp (x::(vs++dvs)) H2 Q E)
def oX (C:Addr) (m:Str) (sp:Sp) (dvs:List V) (E:XK) (ta:TE) (t:TA):TE:=λσ H Q=>ta σ H λx H1=>Vm C m sp dvs E t σ Q x H1
def DY (C:Addr) (sp:Sp) (dvs:List V) (E:XK) (t:TA):TE:=λσ H Q=>t σ H λvs H1=>∀x dx,H1 x=none->H1 dx=none->dx≠x ->
 sp (.ref x::(vs++dvs)) (aS (aS H1 dx (.own x)) x (.ins C dx [])) (λv H2=>v=.non/\Q (.ref x) H2) E
def eP (K:PySem.W.Frag) (fd:FuncData) (ps:List Str) (ds:List Value):Prop:=
 ∀(s:Shared) (us:List Value),K.In s.heap->(us++ds).length=ps.length->BindsTo s fd ⟨us,[]⟩ (ps.zip (us++ds))
def eP.all {K:PySem.W.Frag} {fd:FuncData} {ps:List Str} (h:∀d:List Value,d.length=ps.length->bindArgs fd {d,[]}=pure (ps.zip d)):eP K fd ps []:=λs d _ i=>by
 rw [C5] at i ⊢
 exact .of_eq (h d i)
def eE (CX:nG) (X:Cx) (E:XK):Prop:=∀(pins:List (Addr × Obj)) (σ:St) (H:Hp) (s:Shared) (e:Value) (s':Shared),aP X pins σ H s->CX X.stack H s E e s'->X.xe e s'
section
variable {X:Cx} {CX:nG} {k:Nat} {f C:Addr} {fd:FuncData} {ps:List Str} {sp:Sp} {dvs:List V} {ds:List Value} {E:XK} {x m:Str} {p pos apos:Pos} {e o:Expr} {es:List Expr} {ta:TE} {t:TA}
def yV {pins:List (Addr × Obj)} {σ:St} {H:Hp} {s:Shared} {Q:VK} {us:List Value} {vs:List V} (F:bM X.prog X.w X.K X.mg X.base CX k f fd ps sp) (n:Room k X.A) (q:eP X.K fd ps ds) (y:bG dvs ds) (z:eE CX X E)
  (I:aP X pins σ H s) (r:bG vs us) (h:sp (vs++dvs) H Q E):wpAny (model X.prog X.w) X.A (call (.ref f) us) (EP X pins σ Q) X.xe s:=by
 let i:bG (vs++dvs) (us++ds):=r.append y
 let j:(us++ds).length=ps.length:=by rw [<- i.length];exact F.len _ _ _ _ h
 refine D9 (C0 (F.run X.A X.stack s H {us,[]} (us++ds) (vs++dvs) Q E n I.env0 (q s us I.kIn j) i h) λr s' d=>?_);cases r with
 | error e=>exact z pins σ H s e s' I d
 | ok fl=>
  cases fl with
  | ret u=>exact I.after d
  | next=>exact False.elim d
  | brk=>exact False.elim d
  | cont=>exact False.elim d
def Rw (F:bM X.prog X.w X.K X.mg X.base CX k f fd ps sp) (B:Room k X.A) (y:Gl X x) (z:X.mg x=some (.ref f)) (M:PySem.W.keepIn X.K (.ref f)=true) (G:eP X.K fd ps ds) (J:bG dvs ds) (L:eE CX X E)
  (D:PA X (e::es) t) (d:(x == ("__debug__":Str))=false:=by decide) (n:starEach (e::es) X.env=(false,eval e X.env)::starEach es X.env:=by rfl) (i:(backTo pos (starEach es X.env)).any (·.1)=false:=by rfl):
  PE X (.Call (.Name x p) (e::es) [] pos) (Bi sp dvs E t):=by
 intro pins s σ H Q I h;refine C1 (lN I y z ?_ d);refine PySem.W.callWith_K (h₀:=X.base) I.ok.mod.kin M (vF (D pins s σ H _ I h) λO N S H1 j r q=>{j.kIn,?_}) n i;exact yV F B G J L j r q
def Ru {pl:Sem Bool} (he:PE X o ta) (c:oO X.K C) (hm:xV X.K C m f) (F:bM X.prog X.w X.K X.mg X.base CX k f fd ps sp) (hr:Room k X.A) (hb:eP X.K fd ps ds) (hd:bG dvs ds) (hx:eE CX X E) (ha:PA X (e::es) t)
  (hst:starEach (e::es) X.env=(false,eval e X.env)::starEach es X.env:=by rfl) (hpl:(backTo pos (starEach es X.env)).any (·.1)=false:=by rfl)
  (ht:eval (.Call (.Attribute o m apos) (e::es) [] pos) X.env=(do
   let ov <- eval o X.env
   standAt apos.atName
   let (f,first) <- holding [ov] (getMethod ov m pl)
   callWith pos f first (backTo pos (starEach (e::es) X.env)) (backToKw pos (keywordEach [] X.env))):=by rfl):
  PE X (.Call (.Attribute o m apos) (e::es) [] pos) (oX C m sp dvs E ta t):=by
 intro pins s σ H Q I h;refine PySem.W.methodCall_KW (pl:=pl) (eH (he s σ H _ I h) λu s1 x H1 I1 rx hUp=>?_) ht;let (a,dx,fs,ex,ea,l,q):=hUp;subst ex;obtain rfl:u=Value.ref a:=rx;refine kU I1 ea c hm l ?_;refine PySem.W.callWith_K (first:=[.ref a]) (h₀:=X.base) I.ok.mod.kin hm.kp (vF (ha pins s1 σ H1 _ I1 q) λus s2 vs H2 I2 r q2=>{I2.kIn,?_}) hst hpl
 exact yV (us:=.ref a::us) (vs:=.ref a::vs) F hr hb hd hx I2 (.cons rfl r) q2
def wA {pl:Sem Bool} (he:PE X o ta) (c:oO X.K C) (hm:xV X.K C m f) (F:bM X.prog X.w X.K X.mg X.base CX k f fd ps sp) (hr:Room k X.A) (hb:eP X.K fd ps ds) (hd:bG dvs ds) (hx:eE CX X E)
  (ht:eval (.Call (.Attribute o m apos) [] [] pos) X.env=(do
   let ov <- eval o X.env
   standAt apos.atName
   let (f,first) <- holding [ov] (getMethod ov m pl)
   callWith pos f first (backTo pos (starEach [] X.env)) (backToKw pos (keywordEach [] X.env))):=by rfl):
  PE X (.Call (.Attribute o m apos) [] [] pos) (oX C m sp dvs E ta nJ):=by
 intro pins s σ H Q I h;refine PySem.W.methodCall_KW (pl:=pl) (eH (he s σ H _ I h) λu s1 x H1 I1 rx hUp=>?_) ht;let (a,dx,fs,ex,ea,l,q):=hUp;subst ex;obtain rfl:u=Value.ref a:=rx;refine kU I1 ea c hm l ?_;exact PySem.W.callWith_K0 (first:=[.ref a]) I1.kIn hm.kp (yV (us:=[.ref a]) (vs:=[.ref a]) F hr hb hd hx I1 (.cons rfl .nil) q)
structure Mk (K:PySem.W.Frag) (C f:Addr):Prop where
 makes:PySem.W.makesIn K C=true
 init:PySem.W.findIn K (.ref C) "__init__"=some (some (.ref f))
 fn:PySem.W.isFn K (.ref f)=true
 kp:PySem.W.keepIn K (.ref C)=true
def Jv {pins:List (Addr × Obj)} {σ:St} {H:Hp} {s:Shared} {Q:VK} {us:List Value} {vs:List V} (M:Mk X.K C f) (F:bM X.prog X.w X.K X.mg X.base CX k f fd ps sp) (B:Room (k+1) X.A) (G:eP X.K fd ps ds) (J:bG dvs ds)
  (y:eE CX X E) (I:aP X pins σ H s) (r:bG vs us)
  (h:∀x dx,H x=none->H dx=none->dx≠x->sp (.ref x::(vs++dvs)) (aS (aS H dx (.own x)) x (.ins C dx [])) (λv H2=>v=.non/\Q (.ref x) H2) E):
  wpAny (model X.prog X.w) X.A (call (.ref C) us) (EP X pins σ Q) X.xe s:=by
 let n:=h (s.heap.objs.size+1) s.heap.objs.size (I.hok.fresh (E6 _)) (I.hok.fresh (d7 _)) (j8 (K0 _));let i:=aP.made (C:=C) I;let j:bG (V.ref (s.heap.objs.size+1)::(vs++dvs)) (Value.ref (s.heap.objs.size+1)::(us++ds)):=.cons rfl (r.append J);let q:(Value.ref (s.heap.objs.size+1)::us++ds).length=ps.length:=by
  let e:=j.length;rw [F.len _ _ _ _ n] at e;exact e.symm
 refine D9 (Mb (f:=f) I.kIn M.makes M.init (beq_iff_eq.mp M.fn) (C0 (F.run _ X.stack _ _ {Value.ref (s.heap.objs.size+1)::us,[]} (Value.ref (s.heap.objs.size+1)::(us++ds)) _ _ E (B.make C us [])
  (i.env0.make C us []) (G _ (Value.ref (s.heap.objs.size+1)::us) i.kIn q) j n) λr s' d=>?_));cases r with
 | error e=>exact y pins σ _ _ e s' i d
 | ok fl=>
  cases fl with
  | ret u=>
   let (v,H',N,L,z,D):=i.after d;subst z;exact {L,{V.ref (s.heap.objs.size+1),H',N,rfl,D}}
  | next=>exact False.elim d
  | brk=>exact False.elim d
  | cont=>exact False.elim d
def lJ (M:Mk X.K C f) (F:bM X.prog X.w X.K X.mg X.base CX k f fd ps sp) (B:Room (k+1) X.A) (y:Gl X x) (z:X.mg x=some (.ref C)) (G:eP X.K fd ps ds) (J:bG dvs ds) (L:eE CX X E)
  (D:PA X (e::es) t) (d:(x == ("__debug__":Str))=false:=by decide) (n:starEach (e::es) X.env=(false,eval e X.env)::starEach es X.env:=by rfl) (i:(backTo pos (starEach es X.env)).any (·.1)=false:=by rfl):
  PE X (.Call (.Name x p) (e::es) [] pos) (DY C sp dvs E t):=by
 intro pins s σ H Q I h;refine C1 (lN I y z ?_ d);refine PySem.W.callWith_K (h₀:=X.base) I.ok.mod.kin M.kp (vF (D pins s σ H _ I h) λO N S H1 j r q=>{j.kIn,?_}) n i;exact Jv M F B G J L j r q
end
def PK (X:Cx) (kws:List Keyword) (t:TA):Prop:=
 ∀(pos:Pos) (pins:List (Addr × Obj)) (s:Shared) (σ:St) (H:Hp) (Q:List V->Hp->Prop),aP X pins σ H s->t σ H Q->wpAny (model X.prog X.w) X.A (evalAll ((backToKw pos (keywordEach kws X.env)).map (·.2))) (AP X pins σ Q) X.xe s
section
variable {X:Cx} {CX:nG} {k:Nat} {f C:Addr} {fd:FuncData} {ps ks:List Str} {sp:Sp} {E:XK} {x m:Str} {p pos apos kpos:Pos} {e o:Expr} {es:List Expr} {kws:List Keyword} {te ta:TE} {t tk:TA} {nm:Option Str}
def yZ:PK X [] nJ:=λ_ _ _ _ H Q I h=>wpAny_evalAll_nil {[],H,I,.nil,h}
def tX (y:PE X e te) (q:PK X kws t):PK X ({(nm),e,kpos}::kws) (iO te t):=by
 intro pos pins s σ H Q I h;show wpAny _ _ (evalAll ((do let v <- eval e X.env;standAt pos;pure v)::(backToKw pos (keywordEach kws X.env)).map (·.2))) _ _ s;refine wpAny_evalAll_cons (c7 (eH (y s σ H _ I h) λu d x H1 i D n=>c7 (N3 (i0 ?_))));exact vF (q pos pins d σ H1 _ i n) λF G xs H2 z j B=>{x::xs,H2,z,.cons D j,B}
variable {g:List Value->List Value->List Value} {gV:List V->List V->List V}
end
structure aK (N P:List Str) (sc:Scope):Prop where
 kind:sc.kind=.function
 co:sc.isCoroutine=false
 gen:sc.isGenerator=false
 nd:N.Nodup
 pre:N.take P.length=P
 par:∀x ∈ P,sc.names.lookup x=some .local\/sc.names.lookup x=some .cell
 nofree:∀y ∈ sc.names,y.2≠.free
theorem sQ {i:Str->Option NameKind} {x:Str}:∀{d:List (Str × Value)} {m:Str->Option Value},(∀v,(x,v) ∉ d)->bindL i d m x=m x
 | [],_,_=>rfl
 | (n,v)::r,m,h=>by
  unfold bindL
  rw [sQ λw j=>h w (d0 _ j)]
  split
  ·have:x≠n:=by rintro rfl;exact h v g8
   simp [this]
  ·rfl
theorem sS {i:Str->Option NameKind} {x:Str}:∀{d:List (Str × Value)} {m:Str->Option Value},(∀v,(x,v) ∉ d)->bindC i d m x=m x
 | [],_,_=>rfl
 | (n,v)::r,m,h=>by
  unfold bindC
  rw [sS λw j=>h w (d0 _ j)]
  split
  ·rfl
  ·have:x≠n:=by rintro rfl;exact h v g8
   simp [this]
theorem sR {d:Str->Option NameKind} {x:Str} {v:Value}:∀{P:List Str} {vs:List Value} {i:Nat} {m:Str->Option Value},P.Nodup->P[i]?=some x->vs[i]?=some v->d x=some .local ->
  bindL d (P.zip vs) m x=some v
 | [],_,_,_,_,h,_,_=>by simp at h
 | _::_,[],_,_,_,_,h,_=>by simp at h
 | p::P,w::vs,0,m,nd,h1,h2,hk=>by
  simp at h1 h2;subst h1;subst h2
  show bindL d ((p,w)::P.zip vs) m p=_
  unfold bindL
  rw [sQ λv j=>(x9.mp nd).1 (D8 j).1,if_pos hk]
  simp
 | p::P,w::vs,i+1,m,nd,h1,h2,hk=>by
  show bindL d ((p,w)::P.zip vs) m x=_
  unfold bindL
  exact sR (i:=i) (x9.mp nd).2 (by simpa using h1) (by simpa using h2) hk
theorem sU {d:Str->Option NameKind} {x:Str} {v:Value}:∀{P:List Str} {vs:List Value} {i:Nat} {m:Str->Option Value},P.Nodup->P[i]?=some x->vs[i]?=some v->d x≠some .local ->
  bindC d (P.zip vs) m x=some v
 | [],_,_,_,_,h,_,_=>by simp at h
 | _::_,[],_,_,_,_,h,_=>by simp at h
 | p::P,w::vs,0,m,nd,h1,h2,hk=>by
  simp at h1 h2;subst h1;subst h2
  show bindC d ((p,w)::P.zip vs) m p=_
  unfold bindC
  rw [sS λv j=>(x9.mp nd).1 (D8 j).1,if_neg hk]
  simp
 | p::P,w::vs,i+1,m,nd,h1,h2,hk=>by
  show bindC d ((p,w)::P.zip vs) m x=_
  unfold bindC
  exact sU (i:=i) (x9.mp nd).2 (by simpa using h1) (by simpa using h2) hk
def dC (N:List Str) (vs:List V):St:=vs.map some++List.replicate (N.length-vs.length) none
def jC (CX:nG) (P:Program) (w:World) (K:PySem.W.Frag) (mg:Str->Option Value) (base:Heap) (N:List Str) (qual:Str) (scope:Scope) (f:Addr) (cd:Value) (A:Around) (outer:List Env) (s:Shared) (H:Hp) (E:XK):Cx where
 prog:=P
 w:=w
 K:=K
 mg:=mg
 base:=base
 A:=A.deeper (envOfC qual scope s.heap.objs.size f cd)
 N:=N
 s₀:=s
 H₀:=H
 env:=envOfC qual scope s.heap.objs.size f cd
 outer:=outer
 stack:=envOfC qual scope s.heap.objs.size f cd::outer
 ex:=[]
 calm:=true
 fn:=λ_=>true
 pn:=[]
 xe:=λe s'=>wpAny (model P w) (A.deeper (envOfC qual scope s.heap.objs.size f cd)) (leaving (envOfC qual scope s.heap.objs.size f cd) e) (λ_ s''=>CX outer H s E e s'') (λe' s''=>CX outer H s E e' s'') s'
def xK {d:Scope} {n:Nat} {x:Str} (h:d.names.lookup x=some .cell):∃c,(cellsFrom n d.names []).lookup x=some c:=by
 let q:=PySem.W.cellsFrom_some d.names n [] (.inl h);exact E8.mp q
def sL {CX:nG} {P:Program} {w:World} {K:PySem.W.Frag} {mg:Str->Option Value} {base:Heap} {N ps:List Str} {j:Str} {d:Scope} {f:Addr} {G:Value} {A:Around} {outer:List Env} {s J:Shared} {H:Hp} {E:XK} {us:List Value} {vs:List V}
  (S:aK N ps d) (U:A.handled=none) (B:nY P w K mg base A outer s H) (Z:vs.length=ps.length) (r:bG vs us)
  (x:InCallC s s.heap.objs.size (bindL (envOfC j d s.heap.objs.size f G).kindOf (ps.zip us) λ_=>none) (cellsFrom (s.heap.objs.size+1) d.names []) (bindC (envOfC j d s.heap.objs.size f G).kindOf (ps.zip us) λ_=>none) J):
  aP (jC CX P w K mg base N j d f G A outer s H E) [] (dC N vs) H J:=by
 let O:ps.length<=N.length:=by have:=congrArg List.length S.pre;rw [l7] at this;omega
 let (h1,tk,rfl,I):=x.done;let D:∀b:Addr,b ∉ (jC CX P w K mg base N j d f G A outer s H E).ex:=λb z=>absurd (show b ∈ ([]:List Addr) from z) (by simp);refine {{B.mod,S.kind,rfl,rfl,d7 _,λy z c h1 h2=>?_,λy hy=>?_,λy c _ h=>?_,λ_=>U,Around.frames_deeper B.frames,.inr {(rfl),rfl},λb z=>absurd z (D b),B.bs,B.bsz,λb _ _=>D b,λb z=>absurd z (D b),B.funs,B.frf},
  rfl,B.bare,Un.kept I,{_,x.toInCall.ns,λi y v h1 h2 h3=>?_},λy c h=>{_,x.cell y c h},B.hok.fresh (d7 _),λy c h=>?_,λp F=>absurd (show p ∈ ([]:List (Addr × Obj)) from F) (by simp),B.hok.kept I,?_}
 ·exact name_of_addr x.apart (PySem.mem_of_lookup h1) (PySem.mem_of_lookup h2)
 ·let hy:d.names.lookup y=some .cell\/d.names.lookup y=some .free:=hy;rcases hy with hy|hy
  ·exact xK hy
  ·exact absurd rfl (S.nofree _ (PySem.mem_of_lookup hy))
 ·exact A7 (x.above y c (PySem.mem_of_lookup h))
 ·let hi:i<vs.length:=by
   unfold dC at h2;by_cases hi:i<vs.length
   ·exact hi
   ·rw [u8 (by simpa using hi)] at h2;rw [List.getElem?_replicate] at h2;split at h2 <;> cases h2
  let M:vs[i]?=some v:=by
   unfold dC at h2;rw [p7 (by simpa using hi),i7] at h2;cases e:vs[i]? with
   | none=>rw [e] at h2;cases h2
   | some a=>rw [e] at h2;cases h2;rfl
  let (u,L,Y):=r.get M;let F:ps[i]?=some y:=by
   rw [<- S.pre,t9 ∎];exact h1
  let HM:ps.Nodup:=by rw [<- S.pre];exact S.nd.sublist (M5 _ _)
  refine {u,Y,?_};rcases S.par y (g6 F) with k|k
  ·exact .inl {k,sR HM F L k}
  ·let (c,e):=xK (n:=s.heap.objs.size+1) k;refine .inr {.inl k,c,e,?_};let q:=x.cell y c e;rw [sU HM F L (by show d.names.lookup y≠_;rw [k];decide)] at q;exact q
 ·exact B.hok.fresh (A7 (x.above y c (PySem.mem_of_lookup h)))
 ·unfold dC;show _=N.length;rw [i6,f8,A9];omega
def Nf {CX:nG} {P:Program} {w:World} {K:PySem.W.Frag} {mg:Str->Option Value} {base:Heap} {k:Nat} {f:Addr} {name i:Str} {j:Arguments} {z:List Stmt} {d:Scope} {dV kV doc pm cdv ct oc:Value} {an od:Option Addr}
  {a0:Array (Option Value)} {N ps:List Str} {sp:Sp} (lk:K.lookup f=some {oc,od,.func (PySem.W.fnOf name i j z d dV kV doc pm an cdv ct),a0}) (Z:PySem.W.codeIn K cdv i=true) (S:aK N ps d)
  (L:∀vs H Q E,sp vs H Q E->vs.length=ps.length)
  (D:∀(A:Around) (outer:List Env) (s:Shared) (H:Hp) (vs:List V) (Q:VK) (E:XK),Room k (A.deeper (envOfC i d s.heap.objs.size f cdv))->sp vs H Q E ->
   ∃t,qS (jC CX P w K mg base N i d f cdv A outer s H E) z t/\t { nx:=λ_ H'=>Q .non H',rt:=Q } (dC N vs) H):
  bM P w K mg base CX (k+1) f (PySem.W.fnOf name i j z d dV kV doc pm an cdv ct) ps sp:=by
 refine {L,λA outer s H a2 us vs Q E hr O hb r M=>?_};let hl:=L _ _ _ _ M;let KX:K.In s.heap:=O.mod.kin.keeps λb o e=>(O.bs b o e).1;let a1:s.heap.NoLimit:=O.mod.nolimit.keeps λb o e=>(O.bs b o e).1;let B:∀y ∈ ps.zip us,d.names.lookup y.1=some .local\/(d.names.lookup y.1=some .cell/\((cellsFrom (s.heap.objs.size+1) d.names []).lookup y.1).isSome=true):=λ⟨n,v⟩ hy=>by
  rcases S.par n (D8 hy).1 with q|q
  ·exact .inl q
  ·exact .inr {q,PySem.W.cellsFrom_some _ _ _ (.inl q)}
 refine codeAny_call_function hr.depth (KX _ _ lk) rfl S.co S.gen rfl (PySem.W.codeRec_of KX Z) (hb _ _ _ _ ?_);refine wpAny_newFunctionEnv_cells S.kind B λa3 he s1 x=>?_;subst he;refine {a1.keeps x.toInCall.keep,codeAny_func ?_};let (t,ht,hq):=D A outer s H vs Q E (hr.deeper _) M;let I:aP (jC CX P w K mg base N i d f cdv A outer s H E) [] (dC N vs) H s1:=sL S hr.hd O hl r x;refine v7 (ht s1 (dC N vs) H _ I hq) (λfl s' F=>?_) λe s' F=>F;let G:∀{U:St} {H':Hp} {v:V} {u:Value},aP (jC CX P w K mg base N i d f cdv A outer s H E) [] U H' s'->bK v u->Q v H'->CE outer P w H s Q u s':=
  λ{U H' v u} J Y q=>{(v),H',J.os,J.bare,J.base,J.hok,Y,q}
 cases fl with
 | ret u=>
  let (v,U,H',J,Y,q):=F;exact G J Y q
 | next=>
  let (U,H',J,q):=F;exact G (v:=V.non) (u:=Value.none) J rfl q
 | brk=>
  let (_,_,_,q):=F;exact False.elim q
 | cont=>
  let (_,_,_,q):=F;exact False.elim q
section
variable {X:Cx} {x:Str} {p pos:Pos} {e:Expr} {es:List Expr} {t:TA} {id T:String} {r:List V->Hp->VK->Prop}
def HL (r:List V->Hp->VK->Prop) (t:TA):TE:=λσ H Q=>t σ H λvs H1=>r vs H1 Q
def bB (J:gC X (.builtin id) r) (n:Gl X x) (q:X.mg x=none) (M:bootBuiltins x=some (.builtin id)) (G:PA X (e::es) t) (z:x≠"__name__":=by decide) (d:(x == ("__debug__":Str))=false:=by decide)
  (j:starEach (e::es) X.env=(false,eval e X.env)::starEach es X.env:=by rfl) (i:(backTo pos (starEach es X.env)).any (·.1)=false:=by rfl):PE X (.Call (.Name x p) (e::es) [] pos) (HL r t):=by
 intro pins s σ H Q I h;refine C1 (kR I n q M ?_ z d);exact PyProof.Rows.callWith_builtin1 (vF (G pins s σ H _ I h) λD B L H1 y N F=>J pins B σ H1 L D Q y N F) j i
def dW (J:gC X (.type T) r) (n:Gl X x) (q:X.mg x=none) (M:bootBuiltins x=some (.type T)) (G:PA X (e::es) t) (z:x≠"__name__":=by decide) (d:(x == ("__debug__":Str))=false:=by decide)
  (j:starEach (e::es) X.env=(false,eval e X.env)::starEach es X.env:=by rfl) (i:(backTo pos (starEach es X.env)).any (·.1)=false:=by rfl):PE X (.Call (.Name x p) (e::es) [] pos) (HL r t):=by
 intro pins s σ H Q I h;refine C1 (kR I n q M ?_ z d);exact J9 (vF (G pins s σ H _ I h) λD B L H1 y N F=>J pins B σ H1 L D Q y N F) j i
end
end L2
namespace HT
open PySem PyProof.Rows
def lexLt:List Int->List Int->Bool
 | [],[]=>false
 | [],_::_=>true
 | _::_,[]=>false
 | x::xs,y::ys=>if x=y then lexLt xs ys else decide (x<y)
def lexLt_cons (x y:Int) (xs ys:List Int):lexLt (x::xs) (y::ys)=if x=y then lexLt xs ys else decide (x<y):=rfl
def lexLt_nil_nil:lexLt [] []=false:=rfl
def pQ (y:Int) (ys:List Int):lexLt [] (y::ys)=true:=rfl
def pR (x:Int) (xs:List Int):lexLt (x::xs) []=false:=rfl
def Nj (A:Around) (s:Shared) (a:Int) (t:Tok) (c:Int) (u:Tok):∃e,SeqAt.EqAt A s (.int a t) (.int c u) e/\(e=true↔a=c):=
 {(a == c),SeqAt.EqAt.int_int a t c u,by simp}
def Jz (A:Around) (s:Shared) (a:Int) (t:Tok) (c:Int) (u:Tok) (prog:Program) (w:World) (E:Value->Shared->Prop) (Q:Value->Shared->Prop) (h:Q (.bool (decide (a<c))) s):
  wpAny (model prog w) A (richCompare .Lt (.int a t) (.int c u)) Q E s:=
 (PyProof.Rows.lt_int h:wpAny (model prog w) A (compareOp .Lt (.int a t) (.int c u)) Q E s)
section
open PySem.SeqAt
open PySem.AutoSeq1 (wpAny_loadPart')
open PySem.MeetsSeq PySem.MeetsSeq2 PySem.MeetsSeq3
def qV (l b:Addr) (items items2:Array Value) (n n2:Nat) (dd dd2:Option Addr) (sl sl2:Array (Option Value)) (ns ms:List Int) (hi:IntsAre items.toList ns) (hj:IntsAre items2.toList ms):
  Meets (Builtin.«tuple.__lt__» {[.ref l,.ref b],[]})
   (λ_ R s=>s.heap.get? l=some { cls:=.type "tuple",dict:=dd,data:=.seq items n,slots:=sl }/\s.heap.get? b=some { cls:=.type "tuple",dict:=dd2,data:=.seq items2 n2,slots:=sl2 } /\
    R (.ok (.ret (.bool (lexLt ns ms)))) s):=
 .of_wp λprog w A R s h=>by
  let (hp,g,d,tk,os):=s;let (hl,hb,h):=h
  let f2:=AutoSeq1.sub_tuple_tuple
  let z1:items.size=ns.length:=by rw [<- hi.length];simp
  let z2:items2.size=ms.length:=by rw [<- hj.length];simp
  wp_walk using O1 hl,O1 hb,wpAny_forIn_list _ (λrest b s'=>b.1=none/\s'={(hp),g,d,tk,os}/\∃(vs ws:List Value) (ns' ms':List Int),rest=vs.zip ws /\
   IntsAre vs ns'/\IntsAre ws ms'/\ns'.length+items2.size=ms'.length+items.size/\R (.ok (.ret (.bool (lexLt ns' ms')))) {(hp),g,d,tk,os}) _
  case turn=>
   rintro⟨y,x⟩ rest b s' ⟨hb',rfl,vs,ws,ns',ms',hz,hvi,hwi,hlen,hR⟩
   cases hvi with
   | nil=>rw [List.zip_nil_left] at hz;cases hz
   | cons a t hvi'=>
    cases hwi with
    | nil=>rw [List.zip_nil_right] at hz;cases hz
    | cons c u hwi'=>
     rw [List.zip_cons_cons] at hz
     injection hz with hyx hrest
     injection hyx with hy hx
     subst hy hx
     rw [lexLt_cons] at hR
     simp only [j4] at hlen
     let (e,he,hiff):=Nj A.in1 {(hp),g,d,tk,os} a t c u
     refine c7 (he prog w _ _ ?_)
     cases e with
     | true=>
      rw [if_pos (hiff.mp rfl)] at hR
      wp_walk
      exact {rfl,rfl,_,_,_,_,hrest,hvi',hwi',∎,hR}
     | false=>
      rw [if_neg (λq=>absurd (hiff.mpr q) q0)] at hR
      let hri:=Jz A.in1 {(hp),g,d,tk,os} a t c u prog w
      wp_walk using hri
      exact {_,rfl,by simpa using hR}
  case fin=>
   rintro⟨b1,b2⟩ s' ⟨hb',rfl,vs,ws,ns',ms',hz,hvi,hwi,hlen,hR⟩
   simp only at hb'
   subst hb'
   let hv:lexLt ns' ms'=decide (items.size<items2.size):=by
    cases hvi with
    | nil=>
     cases hwi with
     | nil=>
      simp only [O2] at hlen;rw [lexLt_nil_nil];exact(decide_eq_false ∎).symm
     | cons c u hw=>
      simp only [O2,j4] at hlen;rw [pQ];exact(decide_eq_true ∎).symm
    | cons a t hv=>
     cases hwi with
     | nil=>
      simp only [O2,j4] at hlen;rw [pR];exact(decide_eq_false ∎).symm
     | cons c u hw=>
      rw [List.zip_cons_cons] at hz;cases hz
   rw [hv] at hR;wp_walk;exact {_,rfl,by simpa [Builtin.Tuple.tupleCompareSizes] using hR}
  case h=>
   exact {rfl,rfl,items.toList,items2.toList,ns,ms,rfl,hi,hj,∎,h}
end
section
variable {prog:Program} {w:World} {A:Around} {E:Value->Shared->Prop} {s:Shared}
def lt_tupInts {l b:Addr} {items d:Array Value} {ns q:List Int} {Q:Value->Shared->Prop} (U:IsTup s.heap l items) (Z:IsTup s.heap b d) (hi:IntsAre items.toList ns) (Y:IntsAre d.toList q)
  (S:A.units<cLine) (h:Q (.bool (lexLt ns q)) s):wpAny (model prog w) A (compareOp .Lt (.ref l) (.ref b)) Q E s:=by
 let ((N,dd,M,W),J,L,n,G):=id U;let ((I,D,z,B),i,j,O,y):=id Z;simp only at L G j y;subst L G j y;exact richCompare_meets_room (op:=.Lt) {_,J,rfl} {_,i,rfl} PySem.F.slot_tuple_lt PySem.F.entry_tuple_lt (PySem.F.args_tuple_lt_2 _ _) (qV l b items d n O dd D W B ns q hi Y)
  {J,i,show Value.bool (lexLt ns q)≠Value.notImplemented/\Q (.bool (lexLt ns q)) s from {(λx=>nomatch x),h}} S
def sIx (n d:Nat):Option Int->Nat
 | none=>d
 | some v=>if v<0 then(v+(n:Int)).toNat else min v.toNat n
def sIx_none (n d:Nat):sIx n d none=d:=rfl
def sIx_nat (n d k:Nat):sIx n d (some (k:Int))=min k n:=by
 show (if (k:Int)<0 then((k:Int)+(n:Int)).toNat else min (k:Int).toNat n)=min k n;rw [if_neg ∎,G4]
def Zi (n d:Nat) (j:d<=n) (o:Option Int):sIx n d o<=n:=by
 cases o with
 | none=>exact j
 | some v=>
  show (if v<0 then(v+(n:Int)).toNat else min v.toNat n)<=n;by_cases i:v<0
  ·rw [if_pos i];omega
  ·rw [if_neg i];exact Nat.min_le_right _ _
def Dx (v:Int) (n d:Nat):(if v<0 then max (v+(n:Int)) 0 else min v (n:Int))=((sIx n d (some v):Nat):Int):=by
 show (if v<0 then max (v+(n:Int)) 0 else min v (n:Int))=(((if v<0 then(v+(n:Int)).toNat else min v.toNat n):Nat):Int);by_cases i:v<0
 ·simp only [if_pos i];omega
 ·simp only [if_neg i];omega
def Ah (lo hi:Option Int) (n:Nat):Builtin.Slice.sliceAdjust lo hi 1 (n:Int)=(((sIx n 0 lo:Nat):Int),((sIx n n hi:Nat):Int)):=by
 let h1:¬ ((1:Int)<0):=∎;unfold Builtin.Slice.sliceAdjust;simp only [h1,if_false];refine Prod.ext ?_ ?_
 ·cases lo with
  | none=>rfl
  | some v=>exact Dx v n 0
 ·cases hi with
  | none=>rfl
  | some v=>exact Dx v n n
def yY (i j:Nat):Builtin.Slice.slicePlaces (i:Int) (j:Int) 1=j-i:=by
 unfold Builtin.Slice.slicePlaces;let h1:(1:Int) > 0:=∎;simp only [h1,if_true,Int.ediv_one];split <;> omega
def oY {v:Value} {o:Option Int} {Q:Option Int->Shared->Prop} (p:IsPart v o) (h:Q o s):wpAny (model prog w) A (Builtin.Slice.slicePartIndex v) Q E s:=by
 cases p with
 | none=>exact slicePart_none h
 | int i t=>exact slicePart_int h
def gT {sl:Addr} {j q:Value} {lo hi:Option Int} {n:Nat} {Q:Int × Int × Nat->Shared->Prop} (z:s.heap.IsSliceOf sl j q .none) (pl:IsPart j lo) (B:IsPart q hi)
  (h:Q (((sIx n 0 lo:Nat):Int),1,sIx n n hi-sIx n 0 lo) s):wpAny (model prog w) A (Builtin.Slice.sliceApplied (.ref sl) (pure (n:Int))) Q E s:=by
 let (D,d,y,i):=id z;unfold Builtin.Slice.sliceApplied Builtin.Slice.sliceFields;refine c7 (c7 (A1 d i (x:=j) rfl (c7 (A1 d i (x:=q) rfl (c7 (A1 d i (x:=.none) rfl (i0 ?_)))))));refine c7 (slicePart_none ?_);show wpAny _ _ (if ((1:Int) == 0)=true then _ else _) _ _ s;rw [if_neg (by decide)];refine c7 (oY pl (c7 (oY B (c7 (i0 ?_)))));show wpAny _ _ (match Builtin.Slice.sliceAdjust lo hi 1 (n:Int) with|(lo,hi)=>pure (lo,(1:Int),Builtin.Slice.slicePlaces lo hi 1)) _ _ s;rw [Ah lo hi n];show wpAny _ _ (pure (((sIx n 0 lo:Nat):Int),(1:Int),Builtin.Slice.slicePlaces ((sIx n 0 lo:Nat):Int) ((sIx n n hi:Nat):Int) 1)) _ _ s;rw [yY];exact i0 h
def Kh (xs:Array Value) (i k:Nat):((List.range k).filterMap λ(m:Nat)=>xs[((i:Int)+(m:Int) * 1).toNat]?).toArray=((xs.toList.drop i).take k).toArray:=by
 let e:(λ(m:Nat)=>xs[((i:Int)+(m:Int) * 1).toNat]?)=λm=>xs[i+m]?:=by
  funext m;have:((i:Int)+(m:Int) * 1).toNat=i+m:=∎;rw [this]
 rw [e];have:=pick_run xs i k;rw [List.filterMap_map] at this;let d:((λx=>xs[x]?) ∘ λx=>i+x)=λm=>xs[i+m]?:=rfl;rw [d] at this;rw [this]
def getItem_tuple_cut {t sl:Addr} {items:Array Value} {B F:Value} {lo hi:Option Int} {Q:Value->Shared->Prop} (i:IsTup s.heap t items) (D:s.heap.IsSliceOf sl B F .none) (pl:IsPart B lo) (I:IsPart F hi)
  (G:¬ (sIx items.size 0 lo=0/\sIx items.size items.size hi=items.size))
  (h:Q (.ref s.heap.objs.size) { s with heap:=s.heap.push { cls:=.type "tuple",data:=.seq ((items.toList.drop (sIx items.size 0 lo)).take (sIx items.size items.size hi-sIx items.size 0 lo)).toArray } })
  (hsz:items.size<=sizeLine):wpAny (model prog w) A (getItem (.ref t) (.ref sl)) Q E s:=by
 let d:sizeOk (.seq ((items.toList.drop (sIx items.size 0 lo)).take (sIx items.size items.size hi-sIx items.size 0 lo)).toArray):=by
  show ((items.toList.drop (sIx items.size 0 lo)).take (sIx items.size items.size hi-sIx items.size 0 lo)).toArray.size<=sizeLine;rw [j6,l7,C2,r6];omega
 let O:sIx items.size items.size hi<=items.size:=Zi _ _ (d7 _) hi;let (J,z,y,L):=id D;let n:s.TypeIs (.ref sl) "slice":={(J),z,y};unfold getItem
 try with_reducible refine y0 ?_
 first|refine c7 (i0 ?_)|skip
 refine c7 (wpAny_sequenceKey i.typeIs (by decide) ?_);refine c7 (B1 (name:=Str.ofString "__getitem__") i.typeIs C8
  (D4 C8 i.typeIs entry_tuple_getitem ?_ (args_tuple_getitem _ _)));show wpAny _ _ (Builtin.Tuple.tupleItemsOf (.ref t) >>= _) _ _ s;refine c7 (tupleItemsOf_ i ?_);refine c7 (wpAny_typeOf n ?_);rw [if_pos (by decide)];refine c7 (gT D pl I ?_);let j:¬ ((((sIx items.size 0 lo:Nat):Int) == 0 && (1:Int) == 1 && (sIx items.size items.size hi-sIx items.size 0 lo) == items.size)=true):=by
  intro q;rw [z8,z8] at q;let M:((sIx items.size 0 lo:Nat):Int)=0:=eq_of_beq q.1.1;let N:sIx items.size items.size hi-sIx items.size 0 lo=items.size:=eq_of_beq q.2;exact G { ∎,∎}
 show wpAny _ _ (if (((sIx items.size 0 lo:Nat):Int) == 0 && (1:Int) == 1 && (sIx items.size items.size hi-sIx items.size 0 lo) == items.size)=true then _ else _) _ _ s;rw [if_neg j,Kh]
 first
  | exact c7 (m:=Builtin.Tuple.tupleExact _) (B6 (i0 {_,rfl,i0 h}) d)
  | exact c7 (m:=Builtin.Tuple.tupleExact _) (B6 (c7 (i0 (i0 {_,rfl,i0 h}))) d)
  | exact c7 (c7 (m:=Builtin.Tuple.tupleExact _) (B6 (i0 (i0 {_,rfl,i0 h})) d))
  | exact c7 (c7 (m:=Builtin.Tuple.tupleExact _) (B6 (i0 {_,rfl,i0 h}) d))
end
end HT
namespace L2
open PySem PySem.Spec PyProof.Rows
abbrev TO:=St->Hp->(Option Int->Hp->Prop)->Prop
def PO (X:Cx) (e:Option Expr) (t:TO):Prop:=
 ∀(pins:List (Addr × Obj)) (s:Shared) (σ:St) (H:Hp) (Q:Option Int->Hp->Prop),aP X pins σ H s->t σ H Q ->
  wpAny (model X.prog X.w) X.A (evalPart e X.env) (λu s'=>∃o H',aP X pins σ H' s'/\IsPart u o/\Q o H') X.xe s
def Py:TO:=λ_ H Q=>Q none H
def DU (t:TE):TO:=λσ H Q=>t σ H λx H1=>∃i,x=.int i/\Q (some i) H1
def pW {ns:List Int}:∀{us:List Value},bG (ns.map V.int) us->IntsAre us ns:=by
 induction ns with
 | nil=>intro us r;rw [O3] at r;cases r;exact .nil
 | cons n ns ih=>
  intro us r;rw [k7] at r;cases r with
  | cons r1 r2=>
   let (t,e):=r1;subst e;exact .cons n t (ih r2)
section
variable {X:Cx} {e:Expr} {te:TE} {lo hi:Option Expr} {tl th:TO} {pos p2:Pos}
def tW:PO X none Py:=by
 intro pins s σ H Q I h;rw [evalPart_none];exact i0 {none,H,I,.none,h}
def hV (h:PE X e te):PO X (some e) (DU te):=by
 intro pins s σ H Q I n;rw [evalPart_some];refine eH (h s σ H _ I n) λu z x H1 d y j=>?_;let (i,rfl,q):=j;let (t,rfl):=y;exact {some i,H1,d,.int i t,q}
def HQ (X:Cx) (r:V->Option Int->Option Int->Hp->VK->Prop):Prop:=
 ∀(pins:List (Addr × Obj)) (s:Shared) (σ:St) (H:Hp) (x:V) (v vl vu:Value) (lo hi:Option Int) (sl:Addr) (Q:VK),aP X pins σ H s->bK x v->s.heap.IsSliceOf sl vl vu .none->IsPart vl lo->IsPart vu hi->r x lo hi H Q ->
  ∃T id,typeLookup (.type T) "__getitem__"=pure (some (.builtin id))/\s.TypeIs v T/\wpAny (model X.prog X.w) X.A (getItem v (.ref sl)) (EP X pins σ Q) X.xe s
def LH (r:V->Option Int->Option Int->Hp->VK->Prop) (te:TE) (tl th:TO):TE:=λσ H Q=>te σ H λx H1=>tl σ H1 λl H2=>th σ H2 λu H3=>r x l u H3 Q
def iU {r:V->Option Int->Option Int->Hp->VK->Prop} (M:HQ X r) (F:PE X e te) (Y:PO X lo tl) (J:PO X hi th):PE X (.Subscript e (.Slice lo hi none p2) pos) (LH r te tl th):=by
 intro pins s σ H Q I h;refine Subscript_ (eH (F s σ H _ I h) λv Z x H1 L U B=>?_);refine wpAny_Slice (gK (Y pins Z σ H1 _ L B) λj G ⟨l,H2,I2,pl,q2⟩=>gK (J pins G σ H2 _ I2 q2) λi d n=>?_);let (u,y,D,S,O):=n;rw [evalPart_none];refine i0 ?_;let W:aP X pins σ y { d with heap:=d.heap.push { cls:=.type "slice",data:=.fields #[j,i,.none] } }:=D.kept (t':=d.toks) λb ob q=>f1 _ q;let (T,id,hT,N,z):=M pins { d with heap:=d.heap.push { cls:=.type "slice",data:=.fields #[j,i,.none] } } σ y x v j i l u d.heap.objs.size Q W U (Heap.IsSliceOf.new ..) pl S O;show wpAny (model X.prog X.w) X.A (subscriptTail e (.Slice lo hi none p2) v (.ref d.heap.objs.size)) (EP X pins σ Q) X.xe { d with heap:=d.heap.push { cls:=.type "slice",data:=.fields #[j,i,.none] } };exact tail_any (ops:=[.ref d.heap.objs.size,v]) N hT z (by with_unfolding_all rfl)
def jD (xs:List V) (lo hi:Option Int):List V:=(xs.drop (HT.sIx xs.length 0 lo)).take (HT.sIx xs.length xs.length hi-HT.sIx xs.length 0 lo)
def nF (xs:List V) (lo hi:Option Int):(jD xs lo hi).length<=xs.length:=by
 unfold jD;rw [l7,C2];omega
def IY (K:PySem.W.Frag):V->Option Int->Option Int->Hp->VK->Prop:=λx lo hi H Q=>∃a xs,x=.ref a/\bN K H a xs /\
 ¬ (HT.sIx xs.length 0 lo=0/\HT.sIx xs.length xs.length hi=xs.length)/\∀p,H p=none->Q (.ref p) (aS H p (.tup (jD xs lo hi)))
def Yq:HQ X (IY X.K):=by
 intro pins s σ H x v J N lo hi L Q I D B y G h;let (a,xs,rfl,F,z,q):=h;cases D;let (i,r,n,j):=I.tuple F;let d:i.toArray.size=xs.length:=by rw [j6];exact r.length.symm
 refine {"tuple",_,PyProof.Rows.slot_tuple_getitem.lookup,n.typeIs,?_};refine HT.getItem_tuple_cut n B y G (by rw [d];exact z) ?_ (by rw [d];exact j);rw [d];refine {.ref s.heap.objs.size,_,I.laid (t':=s.toks) (o:=.tup (jD xs lo hi)) (λb M q=>f1 _ q) (d7 _) ?_,rfl,q _ (I.hok.fresh (d7 _))};exact {n8 (nF xs lo hi) j,_,(r.drop (HT.sIx xs.length 0 lo)).take (HT.sIx xs.length xs.length hi-HT.sIx xs.length 0 lo),IsTup.new _ _}
end
def Mr (n:Nat) (i:Int):Option Nat:=if 0<=i then(if i<n then some i.toNat else none) else if -(n:Int)<=i then some (i+n).toNat else none
def kX {α:Type} (xs:List α) (i:Int):Option α:=(Mr xs.length i).bind λj=>xs[j]?
def Dl {n:Nat} {i:Int} {j:Nat} (h:Mr n i=some j):seqIndex? i n=some j/\j<n/\-(n:Int)<=i/\i<n:=by
 unfold Mr at h;by_cases d:0<=i
 ·rw [if_pos d] at h;by_cases h1:i<n
  ·rw [if_pos h1] at h;let e:i.toNat=j:=Option.some.inj h;exact {by rw [seqIndex_of d h1,e],∎,∎,h1}
  ·rw [if_neg h1] at h;cases h
 ·rw [if_neg d] at h;by_cases h1:-(n:Int)<=i
  ·rw [if_pos h1] at h;let e:(i+n).toNat=j:=Option.some.inj h;exact {by rw [seqIndex_neg ∎ h1,e],∎,h1,∎}
  ·rw [if_neg h1] at h;cases h
def Dz {α:Type} {xs:List α} {i:Int} {v:α} (h:kX xs i=some v):∃j,seqIndex? i xs.length=some j/\xs[j]?=some v/\j<xs.length/\-(xs.length:Int)<=i/\i<xs.length:=by
 unfold kX at h;cases e:Mr xs.length i with
 | none=>rw [e] at h;cases h
 | some j=>
  rw [e] at h;let (h1,h2,d,n):=Dl e;exact {(j),h1,h,h2,d,n}
def bV {α:Type} {xs:List α} {j:Nat} {v:α} (h:xs[j]?=some v):kX xs (j:Int)=some v:=by
 let d:j<xs.length:=(c9.mp h).1;let e:Mr xs.length (j:Int)=some j:=by
  unfold Mr;rw [if_pos ∎,if_pos ∎];simp
 unfold kX;rw [e];exact h
def Oe {α:Type} (xs:List α) (v:α):kX (xs++[v]) (-1)=some v:=by
 let d:(xs++[v]).length=xs.length+1:=by simp
 let e:Mr (xs++[v]).length (-1)=some xs.length:=by
  unfold Mr;rw [d,if_neg (by decide),if_pos ∎];congr 1;omega
 unfold kX;rw [e];show (xs++[v])[xs.length]?=some v;simp
def oK (b:Expr):Prop:=∀o i,subscripted b false o i=operate [o,i] (getItem o i)
def KC (X:Cx) (r:R2):Prop:=
 ∀(value slice:Expr) (pins:List (Addr × Obj)) (s:Shared) (σ:St) (H:Hp) (x y:V) (v u:Value) (Q:VK),aP X pins σ H s->bK x v->bK y u->r x y H Q ->
  subscripted slice false v u=operate [v,u] (getItem v u)->wpAny (model X.prog X.w) X.A (subscriptTail value slice v u) (EP X pins σ Q) X.xe s
def KA (X:Cx) (id:String) (r:V->List V->Hp->VK->Prop):Prop:=
 ∀(pins:List (Addr × Obj)) (s:Shared) (σ:St) (H:Hp) (x:V) (xs:List V) (v:Value) (us:List Value) (Q:VK),aP X pins σ H s->bK x v->bG xs us->r x xs H Q ->
  wpAny (model X.prog X.w) X.A (call (.builtin id) (v::us)) (EP X pins σ Q) X.xe s
section
variable {X:Cx} {a b:Expr} {ta tb:TE} {pos:Pos}
def dN {r:R2} (j:KC X r) (n:PE X a ta) (z:PE X b tb) (D:oK b):PE X (.Subscript a b pos) (Pk r ta tb):=by
 intro pins s σ H Q I h;exact Subscript_ (BK n z I h λv u i x y H2 B F d q=>j a b pins i σ H2 x y v u Q B F d q (D _ _))
inductive CH (K:PySem.W.Frag) (x y:V) (H:Hp) (Q:VK):Prop|mk (p:_) (xs:_) (i:_) (v:_) (_:x=.ref p) (_:y=.int i) (_:cZ K H p xs) (_:kX xs i=some v) (_:Q v H)
def JC (K:PySem.W.Frag):R2:=λx y H Q=>CH K x y H Q
inductive CG (K:PySem.W.Frag) (x y:V) (H:Hp) (Q:VK):Prop|mk (p:_) (xs:_) (i:_) (v:_) (_:x=.ref p) (_:y=.int i) (_:bN K H p xs) (_:kX xs i=some v) (_:Q v H)
def Ka (K:PySem.W.Frag):R2:=λx y H Q=>CG K x y H Q
def jV:KC X (JC X.K):=by
 intro value slice pins s σ H x y v u Q I rx ry h hs;let (p,xs,i,z,rfl,rfl,hq,he,q):=h;cases rx;let (t,rfl):=ry;let (its,r,pl,hz):=I.list hq;let (j,h1,h2,h3,h4,h5):=Dz he;let (w,ew,rw'):=r.get h2;let hl:=r.length;let hn:=mO;let fin:EP X pins σ Q w s:={(z),H,I,rw',q};by_cases h0:0<=i
 ·let hj:i.toNat=j:=by
   rw [seqIndex_of h0 h5] at h1;exact Option.some.inj h1
  exact item_listR pl.isList h0 ∎ (by rw [hj];simpa using ew) fin hs
 ·let hj:(i+(its.toArray.size:Int)).toNat=j:=by
   rw [seqIndex_neg ∎ h4] at h1;rw [j6,<- hl];exact Option.some.inj h1
  exact subscriptTail_builtinR (x:=w) pl.isList.typeIs slot_list_getitem.lookup
   (wpAny_getItem_list_neg (Q:=λr s'=>r=w/\EP X pins σ Q r s') pl.isList ∎ (by rw [j6] <;> omega) ∎ (by rw [hj];simpa using ew) {(rfl),fin}) hs
def dJ:KC X (Ka X.K):=by
 intro value slice pins s σ H x y v u Q I rx ry h hs;let (p,xs,i,z,rfl,rfl,hq,he,q):=h;cases rx;let (t,rfl):=ry;let (its,r,pl,hz):=I.tuple hq;let (j,h1,h2,h3,h4,h5):=Dz he;let (w,ew,rw'):=r.get h2;let hl:=r.length;let hn:=mO;let fin:EP X pins σ Q w s:={(z),H,I,rw',q};exact subscriptTail_builtinR (x:=w) pl.typeIs slot_tuple_getitem.lookup
  (getItem_tuple (j:=j) (Q:=λr s'=>r=w/\EP X pins σ Q r s') pl ∎ ∎ (by rw [j6,<- hl];exact h1) (by simpa using ew) {(rfl),fin}) hs
def zR (d:List Value) (n j:Nat) (u:Value):Obj.mapSeq (·.setIfInBounds j u) { cls:=.type "list",data:=.seq d.toArray n }={ cls:=.type "list",data:=.seq (d.set j u).toArray n }:=by
 simp [Obj.mapSeq]
theorem aP.lst {pins:List (Addr × Obj)} {σ:St} {H:Hp} {s:Shared} {p:Addr} {xs:List V} (I:aP X pins σ H s) (h:H p=some (.lst xs)):
  ∃(d:List Value) (n:Nat),bG xs d/\s.heap.get? p=some { cls:=.type "list",data:=.seq d.toArray n }/\xs.length<=sizeLine:=by
 let (z,d,n,r,e):=I.hok p _ h;exact {(d),n,r,e,z}
def aP.lstUpd {pins:List (Addr × Obj)} {σ:St} {H:Hp} {s:Shared} {p:Addr} {xs ys:List V} {d its':List Value} {n i:Nat} {f:Obj->Obj} (I:aP X pins σ H s) (h:H p=some (.lst xs))
  (y:s.heap.get? p=some { cls:=.type "list",data:=.seq d.toArray n }) (j:f { cls:=.type "list",data:=.seq d.toArray n }={ cls:=.type "list",data:=.seq its'.toArray i }) (r:bG ys its') (z:ys.length<=sizeLine) (t:Nat):
  aP X pins σ (aS H p (.lst ys)) { s with heap:=s.heap.update p f,toks:=t }:=by
 let e:(s.heap.update p f).get? p=some { cls:=.type "list",data:=.seq its'.toArray i }:=by
  rw [J4 f y (by rw [j] <;> rfl),j]
 refine I.write (x:=p) (e:=p) (by rw [h];trivial) (.inl rfl) (λb u B q=>(C6 _ _ (A8 B)).trans q) {_,e} ?_;exact {(z),its',i,r,e}
def EW:V->V->V->Hp->(Hp->Prop)->Prop:=λo i v H Q=>∃p xs k j,o=.ref p/\i=.int k/\H p=some (.lst xs)/\Mr xs.length k=some j/\Q (aS H p (.lst (xs.set j v)))
def Ic:HC X EW:=by
 intro pins s σ H o i v ov iv u Q I ro ri rv h;let (p,xs,k,j,rfl,rfl,hp,hj,q):=h;cases ro;let (t,rfl):=ri;let (its,n,r,ho,hz):=I.lst hp;let (h1,h2,h3,h4):=Dl hj;let hl:=r.length;let hn:=mO;let I':aP X pins σ (aS H p (.lst (xs.set j v))) { s with heap:=s.heap.update p (Obj.mapSeq (·.setIfInBounds j u)) }:=
  I.lstUpd hp ho (zR its n j u) (r.set rv j) (by rw [L1];exact hz) s.toks
 by_cases h0:0<=k
 ·let hk:k.toNat=j:=by
   rw [seqIndex_of h0 h4] at h1;exact Option.some.inj h1
  exact PySem.W.ki_setAt ho h0 ∎ (by rw [j6,<- hl];exact h4) (by rw [hk];exact {_,I',q})
 ·let hk:(k+(its.toArray.size:Int)).toNat=j:=by
   rw [seqIndex_neg ∎ h3] at h1;rw [j6,<- hl];exact Option.some.inj h1
  exact PySem.W.ki_setBack ho ∎ (by rw [j6,<- hl];exact h3) ∎ (by rw [hk];exact {_,I',q})
def tK (lo hi:Option Int) (n:Nat):(sliceBounds lo hi none n).1=((HT.sIx n 0 lo:Nat):Int)/\(sliceBounds lo hi none n).2.1=((HT.sIx n n hi:Nat):Int)/\(sliceBounds lo hi none n).2.2=1:=by
 refine {?_,?_,rfl}
 ·cases lo with
  | none=>simp [sliceBounds,HT.sIx]
  | some i=>
   simp only [sliceBounds,HT.sIx,Option.getD_none,show (1:Int) > 0 by decide,if_true];by_cases h:i<0
   ·simp only [h,if_true] <;> omega
   ·simp only [h,if_false] <;> omega
 ·cases hi with
  | none=>simp [sliceBounds,HT.sIx]
  | some i=>
   simp only [sliceBounds,HT.sIx,Option.getD_none,show (1:Int) > 0 by decide,if_true];by_cases h:i<0
   ·simp only [h,if_true] <;> omega
   ·simp only [h,if_false] <;> omega
def qW (d:List Value) (lo hi:Option Int):slicePick d.toArray lo hi none=((d.drop (HT.sIx d.length 0 lo)).take (HT.sIx d.length d.length hi-HT.sIx d.length 0 lo)).toArray:=by
 let (h1,h2,i):=tK lo hi d.toArray.size;unfold slicePick;rw [h1,h2,i];simp only [sliceRange_one,pick_run,j6] <;> rfl
def IZ (K:PySem.W.Frag):V->Option Int->Option Int->Hp->VK->Prop:=λx lo hi H Q=>∃a xs,x=.ref a/\cZ K H a xs/\∀p,H p=none->Q (.ref p) (aS H p (.lst (jD xs lo hi)))
def Bo:HQ X (IZ X.K):=by
 intro pins s σ H x v G M lo hi J Q I B z y F h;let (a,xs,rfl,D,q):=h;cases B;let (j,r,i,n):=I.list D;let d:=r.length;refine {"list",_,slot_list_getitem.lookup,i.isList.typeIs,?_};refine wpAny_getItem_list_slice i.isList z y F .none (by simp) ?_ (by rw [j6] <;> omega);rw [qW,<- d];refine {.ref s.heap.objs.size,_,I.laid (t':=s.toks) (o:=.lst (jD xs lo hi)) (λb L q=>f1 _ q) (d7 _) ?_,rfl,q _ (I.hok.fresh (d7 _))};exact {n8 (nF xs lo hi) n,_,0,(r.drop (HT.sIx xs.length 0 lo)).take (HT.sIx xs.length xs.length hi-HT.sIx xs.length 0 lo),j3 _ rfl}
def bU:gC X (.builtin "len") (λxs H Q=>∃p ys,xs=[.ref p]/\(cZ X.K H p ys\/bN X.K H p ys)/\Q (.int ys.length) H):=by
 intro pins s σ H xs us Q I r h;let (p,ys,rfl,hq,q):=h;let (u,rfl,rx):=iL r;cases rx;let hn:=mO;rcases hq with hq|hq
 ·let (its,r',pl,hz):=I.list hq;let hlen:=r'.length;exact Calls.call_len_list pl.isList (by simp only [j6] <;> omega) {.int ys.length,H,I.tok _,{s.toks+1,by rw [j6,hlen]},q}
 ·let (its,r',pl,hz):=I.tuple hq;let hlen:=r'.length;exact len_tuple pl (by simp only [j6] <;> omega) {.int ys.length,H,I.tok _,{s.toks+1,by rw [j6,hlen]},q}
def uR:gC X (.builtin "len") (λxs H Q=>∃z,xs=[.str z]/\z.length<=sizeLine/\Q (.int z.length) H):=by
 intro pins s σ H xs us Q I r h;let (z,rfl,hz,q):=h;let (u,rfl,t,rfl):=iL r;let hn:=mO;exact len_str ∎ {.int z.length,H,I.tok _,{_,rfl},q}
def uQ:gC X (.type "list") (λxs H Q=>∃p ys,xs=[.ref p]/\(cZ X.K H p ys\/bN X.K H p ys)/\∀l,H l=none->Q (.ref l) (aS H l (.lst ys))):=by
 intro pins s σ H xs N Q I r h;let (p,ys,rfl,hq,q):=h;let (u,rfl,M):=iL r;cases M;have D:∀(d:List Value),bG ys d->ys.length<=sizeLine->∀(h':Heap) (i:Nat),(∀b o',s.heap.get? b=some o'->h'.get? b=some o') ->
   h'.get? s.heap.objs.size=some { cls:=.type "list",dict:=none,data:=.seq d.toArray i,slots:=#[] }->EP X pins σ Q (.ref s.heap.objs.size) { s with heap:=h' }:=λd j y h' i B e=>
  {.ref s.heap.objs.size,_,I.laid (t':=s.toks) B (d7 _) (show bL X.prog X.w _ h' _ (.lst ys) from {(y),d,i,j,e}),rfl,q _ (I.hok.fresh (d7 _))}
 rcases hq with hq|hq
 ·let (d,j,G,y):=I.list hq;let z:=j.length;let (o,F,J,n,L):=G.isList;exact call_list_seq p (.inl rfl) F J L (λh' i B e=>D d j y h' i B e) (by simp only [j6] <;> omega)
 ·let (d,j,G,y):=I.tuple hq;let z:=j.length;let (o,F,J,n,L):=G;exact call_list_seq p (.inr rfl) F J L (λh' i B e=>D d j y h' i B e) (by simp only [j6] <;> omega)
def cX:gC X (.type "tuple") (λxs H Q=>∃p ys,xs=[.ref p]/\((cZ X.K H p ys/\∀l,H l=none->Q (.ref l) (aS H l (.tup ys)))\/(bN X.K H p ys/\Q (.ref p) H))):=by
 intro pins s σ H xs J Q I r h;let (p,ys,rfl,h):=h;let (u,rfl,G):=iL r;cases G;rcases h with ⟨n,q⟩|⟨n,q⟩
 ·let (d,i,j,z):=I.list n;let B:=i.length;refine call_tuple_list j.isList (λh' D=>?_) (by simp only [j6] <;> omega);let y:aP X pins σ H { s with heap:=h' }:=I.kept (t':=s.toks) D;let F:aP X pins σ (aS H h'.objs.size (.tup ys)) { s with heap:=h'.push { cls:=.type "tuple",data:=.seq d.toArray } }:=
   y.laid (t':=s.toks) (λb o e=>f1 _ e) (d7 _) (show bL X.prog X.w _ _ _ (.tup ys) from {z,d,i,IsTup.new _ _})
  exact {.ref h'.objs.size,_,F,rfl,q _ (y.hok.fresh (d7 _))}
 ·let (d,i,j,z):=I.tuple n;exact call_tuple_same j {.ref p,H,I,rfl,q}
def HZ (K:PySem.W.Frag) (T:String) (x:V) (H:Hp):Prop:=match x with
 | .str _=>T="str"
 | .int _=>T="int"
 | .ref p=>(T="list"/\∃xs,cZ K H p xs)\/(T="tuple"/\∃o,K.lookup p=some o/\o.cls=.type "tuple"/\o.dict=none) \/
   (T="dict"/\((∃kvs,H p=some (.dK kvs))\/∃kvs,H p=some (.dT kvs)))\/(T="set"/\∃S n,H p=some (.set S n))
 | _=>False
def Hm {pins:List (Addr × Obj)} {σ:St} {H:Hp} {s:Shared} {T:String} {x:V} {v:Value} (I:aP X pins σ H s) (r:bK x v) (j:HZ X.K T x H):
  s.TypeIs v T/\∀a,v=.ref a->∃F,s.heap.get? a=some F/\F.dict=none:=by
 cases x with
 | str z=>
  let (t,rfl):=r;cases (show T="str" from j);exact {typeIs_str s z t,λ_ e=>nomatch e}
 | int i=>
  let (t,rfl):=r;cases (show T="int" from j);exact {typeIs_int s i t,λ_ e=>nomatch e}
 | ref p=>
  cases r;rcases j with ⟨rfl,xs,L⟩|⟨rfl,o,d,J,B⟩|⟨rfl,d⟩|⟨rfl,S,n,d⟩
  ·let (G,_,D,_):=I.list L;refine {D.isList.typeIs,λa e=>?_};cases e;let (o,n,e,c,B,_):=D;exact {(o),e,B}
  ·refine {{o,I.kIn p o d,J},λa e=>?_};cases e;exact {o,I.kIn _ o d,B}
  ·let z:∃o,s.heap.get? p=some o/\o.ExactDict:=by
    rcases d with ⟨y,d⟩|⟨y,d⟩
    ·let (_,_,_,_,o,_,_,e,ex,_):=I.hok p _ d;exact {(o),e,ex}
    ·let (_,_,_,_,o,_,_,e,ex,_):=I.hok p _ d;exact {(o),e,ex}
   let (o,e,ex):=z;refine {{(o),e,ex.1},λa q=>?_};cases q;exact {(o),e,ex.2.1}
  ·let (o,_,_,_,e,ex,_):=I.hok p _ d;refine {{(o),e,ex.1},λa q=>?_};cases q;exact {(o),e,ex.2.1}
 | _=>exact False.elim j
def EB (K:PySem.W.Frag) (T:String) (r:V->List V->Hp->VK->Prop) (to:TE):TE:=λσ H Q=>to σ H λx H1=>HZ K T x H1/\r x [] H1 Q
def IN (K:PySem.W.Frag) (T:String) (r:V->List V->Hp->VK->Prop) (to:TE) (t:TA):TE:=λσ H Q=>to σ H λx H1=>HZ K T x H1/\t σ H1 λxs H2=>r x xs H2 Q
variable {o e:Expr} {es:List Expr} {to:TE} {t:TA} {name:Str} {apos cpos:Pos} {T id:String} {r:V->List V->Hp->VK->Prop}
def Zt (L:PlainAttrs T) (j:Slot T name id) (q:typeOf (.builtin id)=pure (.type "method_descriptor")) (B:KA X id r) (D:PE X o to)
  (d:attributeBase o name X.env (eval o X.env)=eval o X.env:=by rfl) (i:(apos.endLine == cpos.line)=true:=by rfl):PE X (.Call (.Attribute o name apos) [] [] cpos) (EB X.K T r to):=by
 intro pins s σ H Q I h;refine wpAny_Call_method0_late d i (eH (D s σ H _ I h) λv F x H1 y z n=>?_);let (J,G):=n;let (h1,h2):=Hm y z J;exact {T,id,L,j,q,h1,h2,N1 rfl (PySem.evalArgs_none (B pins F σ H1 x [] v [] Q y z .nil G))}
def kG (Z:PlainAttrs T) (n:Slot T name id) (z:typeOf (.builtin id)=pure (.type "method_descriptor")) (G:KA X id r) (O:PE X o to) (U:PA X (e::es) t)
  (j:attributeBase o name X.env (eval o X.env)=eval o X.env:=by rfl)
  (q:((backTo cpos (starEach (e::es) X.env)).all (λx=>!x.1) && (backToKw cpos (keywordEach [] X.env)).all (λx=>x.1.isSome)
   && decide ((e::es).length+([]:List Keyword).length+(if ([]:List Keyword).isEmpty then 0 else 1)<30))=true:=by rfl)
  (i:(apos.endLine == cpos.line)=true:=by rfl) (N:starEach (e::es) X.env=(false,eval e X.env)::starEach es X.env:=by rfl) (d:(backTo cpos (starEach es X.env)).any (·.1)=false:=by rfl):
  PE X (.Call (.Attribute o name apos) (e::es) [] cpos) (IN X.K T r to t):=by
 intro pins s σ H Q I h;refine wpAny_Call_method_late j q i rfl (eH (O s σ H _ I h) λv W x H1 B D y=>?_);let (S,L):=y;let (h1,h2):=Hm B D S;refine {T,id,Z,n,z,h1,h2,?_};let F:=@U cpos pins W σ H1 _ B L;rw [N] at F ⊢;refine N1 (by show (false || (backTo cpos (starEach es X.env)).any (·.1))=false;rw [d] <;> rfl) (O4 ?_);exact gK F λJ M ⟨Y,H2,I2,r2,q2⟩=>G pins M σ H2 x Y v J Q I2 D r2 q2
end
def LQ (X:Cx) (id:String) (r:V->List V->Hp->VK->Prop):Prop:=
 ∀(pins:List (Addr × Obj)) (s:Shared) (σ:St) (H:Hp) (x:V) (xs:List V) (v:Value) (us:List Value) (Q:VK),aP X pins σ H s->bK x v->bG xs us->r x xs H Q ->
  wpAny (model X.prog X.w) X.A (call (.builtin id) (v::us)) (EP X pins σ Q) X.xe s
def bG.zero {us:List Value} (h:bG [] us):us=[]:=by
 cases h;rfl
def bG.one {x:V} {us:List Value} (h:bG [x] us):∃u,us=[u]/\bK x u:=by
 cases h with
 | cons r t=>cases bG.zero t;exact {_,rfl,r}
section
variable {X:Cx} {pins:List (Addr × Obj)} {σ:St} {H:Hp} {s:Shared} {l b:Addr} {xs ys zs:List V}
def aP.lset {d its':List Value} {n:Nat} {f:Array Value->Array Value} {t':Nat} (I:aP X pins σ H s) (i:H l=some (.lst xs))
  (e:s.heap.get? l=some { cls:=.type "list",data:=.seq d.toArray n }) (D:f d.toArray=its'.toArray) (z:bG ys its') (j:ys.length<=sizeLine):
  aP X pins σ (aS H l (.lst ys)) { s with heap:=s.heap.update l (Obj.mapSeq f),toks:=t' }:=by
 let q:=PySem.IsL.update e f;rw [D] at q;refine I.write (x:=l) (e:=l) (by rw [i];exact trivial) (.inl rfl) (λF u y B=>(C6 s.heap (Obj.mapSeq f) (A8 y)).trans B) {_,q} ?_;exact {j,its',_,z,q}
def aP.lnew {d:List Value} {t':Nat} (I:aP X pins σ H s) (j:bG ys d) (i:ys.length<=sizeLine):
  aP X pins σ (aS H s.heap.objs.size (.lst ys)) { s with heap:=s.heap.push { cls:=.type "list",data:=.seq d.toArray },toks:=t' }:=
 I.laid (λ_ _ q=>f1 _ q) (d7 _) {i,d,0,j,j3 _ rfl}
theorem aP.fresh (I:aP X pins σ H s):H s.heap.objs.size=none:=I.hok.fresh (d7 _)
def aP.lstM (I:aP X pins σ H s) (i:H l=some (.lst xs)):xs.length<=sizeLine/\∃(d:List Value) (n:Nat),bG xs d/\xs.length=d.length/\s.heap.get? l=some { cls:=.type "list",data:=.seq d.toArray n }:=by
 let (z,d,n,r,e):=I.hok l _ i;exact {(z),d,n,r,r.length,e}
end
section
variable {X:Cx}
def tU:V->List V->Hp->VK->Prop:=λx vs H Q=>∃l xs y,x=.ref l/\vs=[y]/\H l=some (.lst xs)/\xs.length<sizeLine/\Q .non (aS H l (.lst (xs++[y])))
def cU:LQ X "list.append" tU:=by
 intro pins s σ H x M v L Q I B D h;let (l,xs,y,rfl,rfl,i,J,q):=h;cases B;let (u,rfl,j):=D.one;let (z,d,n,r,G,e):=I.lstM i;refine call_meets F.slot_list_append {_,e,rfl} F.entry_list_append (F.args_list_append_2 _ _) (PySem.list_append l d.toArray n u (by rw [j6];omega)) {e,?_};refine {.non,_,I.lset (its':=d++[u]) i e (by simp) (r.append (.cons j .nil)) ?_,rfl,q};rw [i6,B0];omega
inductive CI (x y:V) (H:Hp) (Q:VK):Prop|mk (l:_) (b:_) (xs:_) (zs:_) (_:x=.ref l) (_:y=.ref b) (_:H l=some (.lst xs)) (_:H b=some (.lst zs)) (_:xs.length+zs.length<=sizeLine) (_:∀p,H p=none->Q (.ref p) (aS H p (.lst (xs++zs))))
def JE:R2:=λx y H Q=>CI x y H Q
def Zy:kK X (binaryOp .Add) JE:=by
 intro pins s σ H x y v u Q I L F h;let (l,b,xs,zs,rfl,rfl,B,j,O,q):=h;cases L;cases F;let (z,i,n,r,N,e):=I.lstM B;let (S,d,U,D,J,G):=I.lstM j;refine PySem.P.add_list e G ?_ (by rw [j6,j6];omega);let M:i.toArray++d.toArray=(i++d).toArray:=by simp
 rw [M];exact {.ref _,_,I.lnew (t':=s.toks) (r.append D) (by rw [i6];omega),rfl,q _ I.fresh}
section
variable {prog:Program} {w:World} {A:Around} {E:Value->Shared->Prop} {s:Shared}
set_option maxRecDepth 100000 in
end
end
end L2
namespace Att
open PySem PySem.W PySem.Calls PyProof.Rows
def nK {P:Params} {h:Heap}:∀(ns:List Int) (vs:List Value),WellAll P h vs (ns.map WData.int)->IntsAre vs ns:=by
 intro ns
 induction ns with
 | nil=>
  intro vs w;rw [O3] at w;cases w;exact .nil
 | cons n ns ih=>
  intro vs w;rw [k7] at w;cases w with
  | cons a b=>
   cases a;exact .cons _ _ (ih _ b)
def Em {l:OpenLaw} {n:Nat} (L:l.most=some n) {P:Params} {h:Heap} {args:List WData} {j:List Value}
  (y:l.row.toRowW.claim.pre args=true) (G:WellAll P h j args):
  ∃a J i,j=[Value.ref a]/\args=[WData.list (i.map WData.int)]/\h.get? a=some { cls:=.type "list",data:=.seq J.toArray }/\IntsAre J i/\i.length<=n:=by
 let F:WShape.hasAll [] args [.list .int]=true:=(pre_splitW y).1;let I:l.pre.holds [] { args:=args }=true:=(pre_splitW y).2;let (d,r,rfl,h1,h2):=hasAllW_cons F;obtain rfl:=hasAllW_nil h2;let (xs,rfl,N):=hasW_list h1;let (i,rfl):=items_int N;let z:i.length<=n:=by
  unfold OpenLaw.pre at I;let D:(WTm.not (.lt (.lit (.int (n:Int))) (.len (.arg 0)))).holds [] { args:=[.list (i.map .int)] }=true:=by
   let D:=(holds_andW I).1;rw [L] at D;exact D
  let B:=condW_of D (w_not (w_lt w_lit (w_len_list (w_arg rfl))));rw [f8] at B;refine Nat.le_of_not_lt λq=>?_;let M:(n:Int)<((i.length:Nat):Int):=∎
  first
   | (rw [decide_eq_true M] at B;exact absurd B (by decide))
   | (simp at B;omega)
 cases G with
 | cons w1 w2=>
  cases w2;cases w1 with
  | list ho hall=>exact {_,_,i,rfl,rfl,ho,nK i _ hall,z}
def Eu (l:OpenLaw) (args:List WData):l.row.toRowW.claim.post args (.bool true) args=true:=
 postW_of (r:=l.row.toRowW) (X:=(true == true))
  (show WShape.has [] (.bool true) .bool=true by first|rfl|decide|simp [WShape.has,WShape.arms,WShape.armsAll])
  (show (WTm.eq .res (.lit (.bool true))).value [] { args:=args,res:=some (.bool true),after:=args }=some (.bool (true == true)) from w_eq_bool (w_res rfl) w_lit) rfl
def attach_call {l:OpenLaw} {n:Nat} {q:Program} {i:List Str} {XP:(Str->Option Value)->Heap->Prop} {YP:World->Heap->Prop} {d:DefRec}
  (hn:l.most=some n) (N:d.params.defaults=[])
  (y:∀(w:World) (s₀ j:Shared) (mg S:Str->Option Value) (I:Addr) (o:Obj) (pm J doc:Value) (a:Addr) (vs:List Value) (ns:List Int),
   Ground q i [] XP w s₀ mg S j.heap->YP w j.heap ->
   j.heap.get? I=some o->o.data=.func (docDef d.name d.params d.body d.scope pm J doc)->j.heap.CodeRec J d.name->mg d.name=some (.ref I) ->
   j.heap.get? a=some { cls:=.type "list",data:=.seq vs.toArray }->IntsAre vs ns->ns.length<=n->j.gens=#[] ->
   codeAny (model l.prog w) callerA (.call (.ref I) {[.ref a],[]}) (λr s'=>r=.ok (.ret (.bool true))/\OldK j.heap s'.heap/\s'.os=j.os/\AllBare s'.gens) j):
  WalkO q i XP YP l.row.toRowW d [] (λf vs=>PySem.call f vs):=by
 intro w s₀ j mg S G Y I o pm J doc dV kV ho hd M hD O hg Z W as F U a1 L a0;obtain rfl:dV=.none:=Dflts.none hD N;obtain rfl:kV=.none:=Dflts.noKw hD;let (a,vs,ns,rfl,rfl,D,z,B):=Em hn F L;refine enter_call (C0 (y w s₀ j mg S I o pm J doc a vs ns G Y ho (fd_plain hd) M O D z B hg) λr s' hq=>?_);let (rfl,h2,h3,h4):=hq;exact {.inl {.bool true,.bool true,[],rfl,λ_=>rfl,.bool true,Eu l _,λ_=>{G6,λ_ hm=>(nomatch hm)}},h2,h3,h4}
section
variable {prog:Program} {w:World} {A:Around} {E:Value->Shared->Prop} {s:Shared} {K:Frag}
end
end Att
namespace L2
open PySem PySem.Spec PyProof.Rows
def rN {vs:List Value} {ns:List Int} (h:IntsAre vs ns):bG (ns.map V.int) vs:=by
 induction h with
 | nil=>exact .nil
 | cons n t _ h=>exact .cons {(t),rfl} h
def bE (s:Stmt) (j:Nat):Stmt:=match s with
 | .ClassDef _ _ _ body _ _ _ _ _ _ _=>body.getD j (.Pass ⟨0,0,0,0⟩)
 | _=>.Pass ⟨0,0,0,0⟩
def dH (s:Stmt):Arguments:=match s with
 | .FunctionDef _ a _ _ _ _ _ _ _ _=>a
 | _=>{ posonlyargs:=[],args:=[],vararg:=none,kwonlyargs:=[],kw_defaults:=[],kwarg:=none,defaults:=[] }
def bH (s:Stmt):List Stmt:=match s with
 | .FunctionDef _ _ b _ _ _ _ _ _ _=>b
 | _=>[]
def aG (s:Stmt):Scope:=match s with
 | .FunctionDef _ _ _ _ _ _ sc _ _ _=>sc
 | _=>{ kind:=.function,names:=[],isGenerator:=false,isCoroutine:=false }
abbrev cY:nG:=λ_ _ _ _ _ _=>False
abbrev E0:XK:=λ_ _ _=>False
def aQ {X:Cx}:eE cY X E0:=λ_ _ _ _ _ _ _ h=>h.elim
structure rH (K:PySem.W.Frag) (x qual:Str) (st:Stmt) (f:Addr) (fd:FuncData):Prop where
 ex:∃(oc:Value) (od:Option Addr) (kV doc pm:Value) (an:Option Addr) (cdv ct:Value) (osl:Array (Option Value)),
  fd=PySem.W.fnOf x qual (dH st) (bH st) (aG st) .none kV doc pm an cdv ct/\K.lookup f=some ⟨oc,od,.func fd,osl⟩/\PySem.W.codeIn K cdv qual=true
 kp:PySem.W.keepIn K (.ref f)=true
section
variable {P:Program} {w:World} {K:PySem.W.Frag} {mg:Str->Option Value} {base:Heap}
def rH.ok {x d:Str} {st:Stmt} {f:Addr} {fd:FuncData} {N ps:List Str} {k:Nat} {sp:Sp} (F:rH K x d st f fd) (S:aK N ps (aG st)) (y:∀vs H Q E,sp vs H Q E->vs.length=ps.length)
  (i:∀(cdv:Value) (A:Around) (outer:List Env) (s:Shared) (H:Hp) (vs:List V) (Q:VK) (E:XK),Room k (A.deeper (envOfC d (aG st) s.heap.objs.size f cdv))->sp vs H Q E ->
   let X:=(jC cY P w K mg base N d (aG st) f cdv A outer s H E).nox
   let D:eO:={ nx:=λ_ H'=>Q .non H',rt:=Q }
   ∃t,qS X (bH st) t/\t D (dC N vs) H):bM P w K mg base cY (k+1) f fd ps sp:=by
 let (M,U,kV,B,O,J,cdv,L,G,rfl,I,j):=F.ex;refine Nf I j S y λA outer s H vs Q E z n=>?_;let (t,h,q):=i cdv A outer s H vs Q E z n;exact {(t),h.nox,q}
def rH.binds {x d:Str} {st:Stmt} {f:Addr} {fd:FuncData} {ps:List Str} (F:rH K x d st f fd)
  (h:∀(kV doc pm:Value) (i:Option Addr) (cdv ct:Value) (us:List Value),us.length=ps.length->bindArgs (PySem.W.fnOf x d (dH st) (bH st) (aG st) .none kV doc pm i cdv ct) {us,[]}=pure (ps.zip us)):eP K fd ps []:=by
 let (q,y,kV,doc,pm,i,cdv,ct,n,rfl,z,j):=F.ex;exact .all (h kV doc pm i cdv ct)
def zY {x d:Str} {st:Stmt} {f:Addr} {n:Value} {q j:Option Addr} {i:Array (Option Value)} {kV doc pm cdv ct:Value} (l:K.lookup f=some {n,q,.func (PySem.W.fnOf x d (dH st) (bH st) (aG st) .none kV doc pm j cdv ct),i})
  (c:PySem.W.codeIn K cdv d=true) (k:PySem.W.keepIn K (.ref f)=true):rH K x d st f (PySem.W.fnOf x d (dH st) (bH st) (aG st) .none kV doc pm j cdv ct):={{(n),q,kV,doc,pm,j,cdv,ct,i,rfl,l,c},k}
end
def Ms {A:Around} {k:Nat} (d:Room k A):A.units+1<cLine:=P7 (Nat.add_le_add_left (by decide:1<=64) _) d.units
def gR {n:Nat} (h:n<=1000):n<sizeLine:=P7 h (by decide)
section
variable {X:Cx}
def pv (i:Nat) {x:Str} {pos:Pos} (n:X.N[i]?=some x:=by rfl) (q:BN X.env.scope x:=by first|exact j0 rfl|exact E9 (j0 rfl)|exact E9 (E9 rfl)) (j:(x == ("__debug__":Str))=false:=by decide)
  (d:(x == ("__classdict__":Str))=false:=by decide):PE X (.Name x pos) (iN i):=zA n q j d
end
def bY {A B:Prop} (h:B):if false=true then A else B:=by
 rw [if_neg q0];exact h
def cH {A B:Prop} (h:A):if true=true then A else B:=by
 rw [if_pos rfl];exact h
def gO {c A B:Prop} [Decidable c] (h1:c->A) (h2:¬ c->B):if c then A else B:=by
 by_cases h:c
 ·rw [if_pos h];exact h1 h
 ·rw [if_neg h];exact h2 h
def FW {c A B:Prop} [Decidable c] (d:c) (h:B):if (!decide c)=true then A else B:=by
 rw [decide_eq_true d];exact bY h
def aN (H H':Hp):Prop:=∀b o,H b=some o->H' b=some o
def aN.refl (H:Hp):aN H H:=λ_ _ h=>h
def aN.trans {H H1 H2:Hp} (a:aN H H1) (b:aN H1 H2):aN H H2:=λc o h=>b c o (a c o h)
def aN.free {H H':Hp} (e:aN H H') {l:Addr} (h:H' l=Option.none):H l=Option.none:=by
 cases q:H l with
 | none=>rfl
 | some o=>
  rw [e l o q] at h;cases h
def aN.seq {K:PySem.W.Frag} {H H':Hp} {a:Addr} {xs:List V} (e:aN H H') (h:cZ K H a xs):cZ K H' a xs:=by
 rcases h with (h|⟨o,h⟩)|h
 ·exact .inl (.inl (e _ _ h))
 ·exact .inl (.inr {o,e _ _ h})
 ·exact .inr h
end L2
namespace Hd
open PySem PyProof.Rows
section
variable {M:Model} {A:Around} {E:Value->Shared->Prop} {s:Shared}
def NoCtx (h:Addr) (hp:Heap):Prop:=∃oh fs,hp.get? h=some oh/\oh.data=.fields fs/\fs[2]?=some .none
def NoCtx.other {h h':Heap} {e:Addr} (x:NoCtx e h) (k:h'.get? e=h.get? e):NoCtx e h':=by
 let (o,a,z,r):=x;exact {o,a,k.trans z,r}
def Nk {bs:Heap} {env:Env} {rest:List Env} {L e:Addr} {o:Obj} {j:Array Value} {H D:Value} {nx:Bool} {Q:Unit->Shared->Prop}
  (x:A.frames=some (env::rest)) (p:s.heap.FunFrames bs (env::rest)) (fr:env.frame=some L) (C:s.heap.get? e=some o) (st:bs.StaysIn s.heap) (S:bs.get? e=none)
  (t:o.data=.fields j) (T:j[0]?=some D) (I:j[2]?=some .none)
  (q:∀y,Heap.NotedW bs (env::rest) e o.cls D (rawInt L) s.heap y->NoCtx e y->Q () { s with heap:=y }):
  wpAny M A (do let a <- frameOf env;let u <- entryPlaceOf L nx;let b <- EntryCells.newEntry H a .none (rawInt L) .none u;setField (.ref e) 1 b) Q E s:=by
 let B:e ∉ (env::rest).filterMap (·.frame):=λz=>by
  let (_,c,J,k):=p.mem z;rw [C] at J;cases J;exact k j t
 let O:2<j.size:=(K5.mp I).1;refine c7 (wpAny_frameOf_fun x p fr λg r=>c7 (wpAny_entryPlaceOf λu v=>?_));unfold EntryCells.newEntry newFields;refine c7 (B6 ?_ (v.sizeOk5 _ _ _ _ _));generalize hr:([H,Value.ref L,Value.none,rawInt L,Value.none]++(if u.isEmpty then List.replicate 6 Value.none else u)).toArray=row
 let n:row[3]?=some (rawInt L):=by rw [<- hr];simp
 let F:g.get? e=some o:=(r.2.1 e B).trans C;let G:bs.StaysIn g:=λb c z=>(r.2.1 b λw=>by rw [(p.mem w).1] at z;cases z).trans (st b c z);let m:g.objs.size≠e:=λz=>absurd (i5 F) (by rw [z];exact v8 _);let K:=f1 (h:=g) { cls:=.type "traceback",dict:=none,data:=.fields row } F;refine L6 K t ∎ ?_;let i:=L5 t (·.setIfInBounds 1 (Value.ref g.objs.size));let l:=J4 (Obj.mapFields (·.setIfInBounds 1 (Value.ref g.objs.size))) K (O0 i);let d:∀b c,b≠e->g.get? b=some c->((g.push { cls:=.type "traceback",dict:=none,data:=.fields row }).update e (Obj.mapFields (·.setIfInBounds 1 (Value.ref g.objs.size)))).get? b=some c:=λb c P z=>by
  rw [C6 _ _ (λw=>P w.symm)];exact f1 _ z
 let f:∀b c,s.heap.get? b=some c->(∀U,c.data≠.fields U)->b≠e:=λb c z k w=>by
  subst w;rw [C] at z;cases z;exact k j t
 refine q _ {λb c z=>d b c (λw=>by rw [w,S] at z;cases z) (G b c z),p.of_keeps λb c z k=>?_,?_,λb c z k=>?_} {_,_,l,i,by rw [Array.getElem?_setIfInBounds_ne (by decide)];exact I}
 ·let (N,w):=r.2.2 b c z;exact {_,d b _ (f b c z k) w,rfl}
 ·refine {_,j.setIfInBounds 1 (.ref g.objs.size),g.objs.size,{ cls:=.type "traceback",dict:=none,data:=.fields row },row,l,{Obj.cls_mapFields _ _,by rw [Array.getElem?_setIfInBounds_ne (by decide)];exact T},i,by rw [Array.getElem?_setIfInBounds_self,if_pos ∎],G.fresh,m,?_,rfl,n};rw [C6 _ _ (A8 m)];exact j3 g rfl
 ·let (N,w):=r.2.2 b c z;exact {N,d b _ (f b c z k) w}
def Wu {bs:Heap} {env:Env} {rest:List Env} {L e:Addr} {cls m:Value} {Q:Unit->Shared->Prop}
  (j:A.frames=some (env::rest)) (fr:env.frame=some L) (v:Heap.FlyingW bs (env::rest) e cls m s.heap) (F:NoCtx e s.heap)
  (q:∀g,Heap.NotedW bs (env::rest) e cls m (rawInt L) s.heap g->NoCtx e g->Q () { s with heap:=g }):wpAny M A (noteFrame (.ref e) env) Q E s:=by
 let (G,B,t,o,P,T,O,D,h,(x,H),i,J,y,C,k,l,r):=v;let (a,N,n,p,K):=F;rw [h] at n;cases n;rw [i] at p;cases p;subst x;unfold noteFrame;simp only [fr];refine c7 (A1 h i J ?_);rw [if_pos (by simp:(Value.ref T != Value.none)=true)];refine c7 (A1 k l r ?_);rw [if_neg (by simp [rawInt]:¬ ((Value.none == rawInt L)=true))];refine c7 (L6 k l (K5.mp r).1 ?_);let c:∀b,b≠T->(s.heap.update T (Obj.mapFields (·.setIfInBounds 3 Value.none))).get? b=s.heap.get? b:=λb z=>C6 _ _ (λw=>z w.symm);let d:∀b a,s.heap.get? b=some a->(∀I,a.data≠.fields I)->b≠T:=λb a z f w=>by
  subst w;rw [k] at z;cases z;exact f D l
 refine Nk j (t.of_keeps λb a z f=>{a,(c b (d b a z f)).trans z,rfl}) fr ((c e (A8 C)).trans h) (λb a z=>(c b λw=>by rw [w,y] at z;cases z).trans (G b a z)) B i H K λg ⟨u,x2,x3,x4⟩ nc'=>?_;exact q g {u,x2,x3,λb a z f=>x4 b a ((c b (d b a z f)).trans z) f} nc'
def Qs {bs:Heap} {l:List Env} {e:Addr} {cls m B:Value} {Q:Unit->Shared->Prop} (st:bs.StaysIn s.heap) (y:s.heap.FunFrames bs l) (tr:s.heap.TracedAtW bs e cls m B) (D:NoCtx e s.heap)
  (q:∀h',bs.StaysIn h'->h'.FunFrames bs l->h'.TracedW bs e cls m->s.heap.UpToSlots h'->NoCtx e h'->Q () { s with heap:=h' }):wpAny M A (setFlight (.ref e) none) Q E s:=by
 let (o,x,T,H,t,n,C,r,u,p,i,j,k,G):=tr;let v:3<t.size:=(K5.mp G).1;unfold setFlight;refine c7 (A1 n r u ?_);rw [if_pos (by simp:(Value.ref T != Value.none)=true)];refine L6 j k v ?_;let a:∀b,b≠T->(s.heap.update T (Obj.mapFields (·.setIfInBounds 3 ((none:Option Addr).elim Value.none λf=>rawInt f)))).get? b=s.heap.get? b:=λb z=>C6 _ _ (λw=>z w.symm);let d:∀b c,s.heap.get? b=some c->(∀F,c.data≠.fields F)->b≠T:=λb c z h w=>by
  subst w;rw [j] at z;cases z;exact h t k
 let g:=L5 k (·.setIfInBounds 3 ((none:Option Addr).elim Value.none λf=>rawInt f));refine q _ (λb c z=>(a b λw=>by rw [w,p] at z;cases z).trans (st b c z)) (y.of_keeps λb c z h=>{c,(a b (d b c z h)).trans z,rfl}) ?_ (λb c z h=>{c.slots,(a b (d b c z h)).trans z}) (D.other (a e (A8 i)));exact {o,x,T,_,_,(a e (A8 i)).trans n,C,r,u,p,i,J4 _ j (O0 g),g,by simp [v]}
def KH {h h1 h2:Heap} (x:∀b o,h.get? b=some o->(∀a,o.data≠.fields a)->∃c,h1.get? b=some { o with slots:=c }) (y:h1.UpToSlots h2):h.UpToSlots h2:=Heap.UpToSlots.trans x y
def made2 {bs h:Heap} {env:Env} {rest:List Env} {L e:Addr} {cls:Value} {args:List Value} {Q:Unit->Shared->Prop} (f:A.frames=some (env::rest)) (fr:env.frame=some L) (st:bs.StaysIn h) (v:h.FunFrames bs (env::rest)) (a:Heap.MadeExcOf h s.heap e cls args)
  (q:∀c l,Heap.FlyingW bs rest e cls l c->s.heap.UpToSlots c->NoCtx e c->Q () { s with heap:=c }):wpAny M A (leaving env (.ref e)) Q E s:=by
 let (t,i,_,_):=a.there;let j:bs.get? e=none:=by
  cases z:bs.get? e with
  | none=>rfl
  | some o=>
   let w:=st e o z;rw [a.new] at w;cases w
 unfold leaving noteFrame;simp only [fr];refine c7 (c7 (A1 i rfl (x:=.none) rfl ?_));rw [if_neg (by decide)];refine Nk f (v.of_keeps λb o z _=>{o,a.keeps b o z,rfl}) fr i (λb o z=>a.keeps b o (st b o z)) j rfl rfl rfl λr ⟨n,x2,x3,x4⟩ nc1=>?_;refine Qs (s:={ s with heap:=r }) n x2 x3 nc1 λp m g u k d=>?_;let (_,_,g):=g;exact q p _ {(m),j,g,u} (KH x4 k) d
def leave2 {bs:Heap} {env:Env} {rest:List Env} {L e:Addr} {cls f:Value} {Q:Unit->Shared->Prop} (c:A.frames=some (env::rest)) (fr:env.frame=some L) (g:Heap.FlyingW bs (env::rest) e cls f s.heap) (l:NoCtx e s.heap)
  (q:∀a,Heap.FlyingW bs rest e cls f a->s.heap.UpToSlots a->NoCtx e a->Q () { s with heap:=a }):wpAny M A (leaving env (.ref e)) Q E s:=by
 let o:=g.2.1;unfold leaving;refine c7 (Wu c fr g l λm ⟨j,x2,x3,x4⟩ nc1=>?_);refine Qs (s:={ s with heap:=m }) j x2 x3 nc1 λk i d n h b=>?_;let (_,_,d):=d;exact q k {(i),o,d,n} (KH x4 h) b
def look2 {bs:Heap} {env:Env} {rest:List Env} {L e:Addr} {cls c:Value} {Q:Unit->Shared->Prop} (b:A.frames=some (env::rest)) (fr:env.frame=some L) (d:Heap.FlyingW bs (env::rest) e cls c s.heap) (g:NoCtx e s.heap)
  (q:∀a,Heap.HeldW bs (env::rest) e cls c L a->s.heap.UpToSlots a->NoCtx e a->Q () { s with heap:=a }):wpAny M A (noteFrame (.ref e) env) Q E s:=by
 let i:=d.2.1;refine Wu b fr d g λh ⟨f,x2,x3,x4⟩ nc1=>q h {(f),i,x2,x3} x4 nc1
def land2 {bs:Heap} {l:List Env} {L e:Addr} {cls c:Value} {Q:Unit->Shared->Prop} (m:Heap.HeldW bs l e cls c L s.heap) (i:NoCtx e s.heap)
  (q:∀a,Heap.FlyingW bs l e cls c a->s.heap.UpToSlots a->NoCtx e a->Q () { s with heap:=a }):wpAny M A (setFlight (.ref e) none) Q E s:=by
 let (h,n,f,j):=m;exact Qs h f j i λa g o k d b=>q a {(g),n,o,k} d b
def again2 {bs:Heap} {l:List Env} {e:Addr} {cls c:Value} {Q:Unit->Shared->Prop} (m:Heap.FlyingW bs l e cls c s.heap) (i:NoCtx e s.heap)
  (q:∀a,Heap.FlyingW bs l e cls c a->s.heap.UpToSlots a->NoCtx e a->Q () { s with heap:=a }):wpAny M A (setFlight (.ref e) none) Q E s:=by
 let (h,n,f,j):=m;exact Qs h f j.at i λa g o k d b=>q a {(g),n,o,k} d b
end
end Hd
namespace L2
open PySem PySem.Spec PyProof.Rows
def bL.is {P:Program} {w:World} {H:Hp} {h:Heap} {a:Addr} {o:HO} (x:bL P w H h a o):∃b,h.get? a=some b:=by
 cases o with
 | lst xs=>let (_,_,_,_,q):=x;exact {_,q}
 | tup xs=>let (_,_,_,b,q,_):=x;exact {_,q}
 | dK kvs=>let (_,_,_,_,b,_,_,q,_):=x;exact {_,q}
 | dT kvs=>let (_,_,_,_,b,_,_,q,_):=x;exact {_,q}
 | set S n=>let (b,_,_,_,q,_):=x;exact {_,q}
 | ins C dx fs=>let (_,_,_,q,_):=x;exact {_,q}
 | own y=>exact x
 | xd fs=>let (_,(_,_,_,q,_),_):=x;exact {_,q}
 | rng lo hi=>let (_,_,_,q):=x;exact {_,q}
 | frz b u=>let (q,_):=x;exact {_,q}
 | tbl ps=>exact {_,(show h.get? a=some _ from x)}
 | met f y=>exact {_,(show h.get? a=some _ from x)}
 | ext φ=>let (_,q,_):=x;exact q
structure Gz (P:Program) (w:World) (outer:List Env) (H:Hp) (h:Heap) (ea:Addr) (cls a0:Value) (H':Hp) (B h':Heap):Prop where
 fly:Heap.FlyingW B outer ea cls a0 h'
 nc:Hd.NoCtx ea h'
 hok:iH P w H' B
 new:h.get? ea=none
 keepB:∀b o,h.get? b=some o->H b=none->b ∉ iZ outer->B.get? b=some o
 slot:∀b o,h.get? b=some o->b ∈ iZ outer->∃sl,h'.get? b=some { o with slots:=sl }
 free:∀b o,h.get? b=some o->H b=none->H' b=none
 thereB:∀b o,h.get? b=some o->b ∉ iZ outer->∃o',B.get? b=some o'
 tups:∀b xs,H b=some (.tup xs)->H' b=some (.tup xs)
 frzs:∀b o u,H b=some (.frz o u)->H' b=some (.frz o u)
 tbls:∀b ps,H b=some (.tbl ps)->∃more,H' b=some (.tbl (ps++more))
section
variable {P:Program} {w:World} {outer:List Env} {H H':Hp} {h h' h2 B:Heap} {ea:Addr} {cls a0:Value}
def Gz.freeE (F:Gz P w outer H h ea cls a0 H' B h'):H' ea=none:=by
 cases q:H' ea with
 | none=>rfl
 | some o=>
  let (ob,z):=(F.hok ea o q).is;rw [F.fly.2.1] at z;cases z
def Gz.later (F:Gz P w outer H h ea cls a0 H' B h') (fl:Heap.FlyingW B outer ea cls a0 h2) (nc:Hd.NoCtx ea h2) (up:h'.UpToSlots h2):Gz P w outer H h ea cls a0 H' B h2 where
 fly:=fl
 nc:=nc
 hok:=F.hok
 new:=F.new
 keepB:=F.keepB
 slot:=λb o q hb=>by
  let (sl,z):=F.slot b o q hb
  let (_,o',z',nf):=F.fly.2.2.1.mem hb
  rw [z] at z'
  cases z'
  let (sl',z2):=up b _ z nf
  exact {(sl'),z2}
 free:=F.free
 thereB:=F.thereB
 tups:=F.tups
 frzs:=F.frzs
 tbls:=F.tbls
def Gz.un (F:Gz P w outer H h ea cls a0 H' B h'):Un (iZ outer) [] H H' h h' where
 keep:=λb o q n a _=>F.fly.1 b o (F.keepB b o q n a)
 slot:=λb o q _ a _=>F.slot b o q a
 free:=λb o q n _=>F.free b o q n
 there:=λb o q _=>by
  by_cases a:b ∈ iZ outer
  ·let (d,z):=F.slot b o q a
   exact {_,z}
  ·let (c,z):=F.thereB b o q a
   exact {c,F.fly.1 b c z}
 tups:=F.tups
 frzs:=F.frzs
 tbls:=F.tbls
def Gz.hokN (F:Gz P w outer H h ea cls a0 H' B h'):iH P w H' h':=F.hok.kept F.fly.1
end
def jK (P:Program) (w:World):nG:=λouter H s E e s'=>∃(ea:Addr) (cls a0:Value) (H':Hp) (B:Heap),
 e=Value.ref ea/\s'.os=s.os/\AllBare s'.gens/\Gz P w outer H s.heap ea cls a0 H' B s'.heap/\E cls none H'
def xT (X:Cx) (C:Addr) (R:Hp->Prop):Prop:=
 ∀(pins:List (Addr × Obj)) (σ:St) (H:Hp) (s:Shared) (h':Heap) (e:Addr) (vs:List Value),aP X pins σ H s->Heap.MadeExcOf s.heap h' e (.ref C) vs->R H->X.xe (.ref e) { s with heap:=h' }
def pZ {env:Env} {outer:List Env} {L:Addr} (a:env.frame=some L):iZ (env::outer)=L::iZ outer:=by
 unfold iZ;rw [K7,a]
section
variable {P:Program} {w:World} {K:PySem.W.Frag} {mg:Str->Option Value} {base:Heap} {N:List Str} {qual:Str} {scope:Scope} {f:Addr} {cd:Value} {A:Around} {outer:List Env} {s₀:Shared} {H₀:Hp} {E:XK}
def dO {C:Addr}:xT (jC (jK P w) P w K mg base N qual scope f cd A outer s₀ H₀ E) C (λH=>E (.ref C) none H):=by
 intro pins σ H s h' e vs I hx hE;let stk:s.heap.FunFrames (PySem.W.hideAll s.heap (iZ (envOfC qual scope s₀.heap.objs.size f cd::outer))) (envOfC qual scope s₀.heap.objs.size f cd::outer):=
  PySem.W.funFrames_hide I.stack λenv he a ha=>F2.mpr {(env),he,ha}
 let nof:∀b,(H b).isSome=true->b ∉ iZ (envOfC qual scope s₀.heap.objs.size f cd::outer):=λb hb z=>by
  rw [I.stkFree b z] at hb;cases hb
 let low:∀b o,s₀.heap.get? b=some o->b ∉ iZ outer->b ∉ iZ (envOfC qual scope s₀.heap.objs.size f cd::outer):=λb o q hb z=>by
  rw [pZ (L:=s₀.heap.objs.size) rfl] at z;rcases g7.mp z with z|z
  ·rw [z] at q;exact absurd (i5 q) (v8 _)
  ·exact hb z
 show wpAny _ _ (leaving _ (.ref e)) _ _ _;refine Hd.made2 (bs:=PySem.W.hideAll s.heap (iZ (envOfC qual scope s₀.heap.objs.size f cd::outer))) (h:=s.heap) (rest:=outer) I.ok.frames rfl (λb o q=>PySem.W.of_hideAll _ q) stk hx λh2 t x1 x4 xn=>?_;refine {e,.ref C,t,H,_,rfl,I.os,I.bare,{x1,xn,λa o q=>?_,?_,λb o q n hb=>?_,λb o q hb=>?_,λb o q n=>I.base.free b o q n (by intro z;cases z),λb o q hb=>?_,I.base.tups,I.base.frzs,I.base.tbls},hE}
 ·refine(I.hok a o q).stay (λb u hb r=>PySem.W.hideAll_get _ r (nof b ?_)) (λ_ z=>z) λ_ _ z=>z;rcases hb with rfl|hb
  ·rw [q];rfl
  ·rw [hb];rfl
 ·cases q:s₀.heap.get? e with
  | none=>rfl
  | some o=>
   let (o',z):=I.base.there e o q (by intro z;cases z);rw [hx.new] at z;cases z
 ·exact PySem.W.hideAll_get _ (I.base.keep b o q n hb (by intro z;cases z)) (low b o q hb)
 ·let (sl,z):=I.base.slot b o q (I.ok.frf b hb) hb (by intro z;cases z);let (_,o',z',nf):=I.funs.mem hb;rw [z] at z';cases z';let (sl',z2):=x4 b _ (hx.keeps b _ z) nf;exact {(sl'),z2}
 ·let (o',z):=I.base.there b o q (by intro z;cases z);exact {o',PySem.W.hideAll_get _ z (low b o q hb)}
def eS {E':XK} (hE:∀cls d H,E' cls d H->E cls d H):eE (jK P w) (jC (jK P w) P w K mg base N qual scope f cd A outer s₀ H₀ E) E':=by
 intro pins σ H s e s' I hc;let (ea,cls,a0,H',B,rfl,os,bare,F,hE'):=hc;let low:∀b o,s₀.heap.get? b=some o->b ∉ iZ outer->b ∉ iZ (envOfC qual scope s₀.heap.objs.size f cd::outer):=λb o q hb z=>by
  rw [pZ (L:=s₀.heap.objs.size) rfl] at z;rcases g7.mp z with z|z
  ·rw [z] at q;exact absurd (i5 q) (v8 _)
  ·exact hb z
 let up:∀b,b ∈ iZ outer->b ∈ iZ (envOfC qual scope s₀.heap.objs.size f cd::outer):=λb hb=>by
  rw [pZ (L:=s₀.heap.objs.size) rfl];exact d0 _ hb
 show wpAny _ _ (leaving _ (.ref ea)) _ _ _;refine Hd.leave2 (rest:=outer) I.ok.frames rfl F.fly F.nc λh2 x1 x4 xn=>?_;refine {ea,cls,a0,H',B,rfl,os.trans I.os,bare,{x1,xn,F.hok,?_,λb o q n hb=>?_,λb o q hb=>?_,λb o q n=>?_,λb o q hb=>?_,λb xs q=>F.tups b xs (I.base.tups b xs q),λb o u q=>F.frzs b o u (I.base.frzs b o u q),λb ps q=>?_},hE _ _ _ hE'}
 ·cases q:s₀.heap.get? ea with
  | none=>rfl
  | some o=>
   let (o',z):=I.base.there ea o q (by intro z;cases z);rw [F.new] at z;cases z
 ·exact F.keepB b o (I.base.keep b o q n hb (by intro z;cases z)) (I.base.free b o q n (by intro z;cases z)) (low b o q hb)
 ·let (sl,z):=I.base.slot b o q (I.ok.frf b hb) hb (by intro z;cases z);let (sl2,z2):=F.slot b _ z (up b hb);let (_,o',z',nf):=F.fly.2.2.1.mem (up b hb);rw [z2] at z';cases z';let (sl',z3):=x4 b _ z2 nf;exact {(sl'),z3}
 ·let (o',z):=I.base.there b o q (by intro z;cases z);exact F.free b o' z (I.base.free b o q n (by intro z;cases z))
 ·let (o',z):=I.base.there b o q (by intro z;cases z);exact F.thereB b o' z (low b o q hb)
 ·let (m1,z):=I.base.tbls b ps q;let (m2,z2):=F.tbls b _ z;exact {m1++m2,by rw [z2,Array.append_assoc]}
end
abbrev Hh:List Value:=[.type "ValueError",.type "Exception",.type "BaseException",.type "object"]
def ExcIs (K:PySem.W.Frag) (C:Addr):Prop:=PySem.W.excIn K C Hh "ValueError.__new__"=true
def Fz {K:PySem.W.Frag} {h:Heap} {C:Addr} (X:K.In h) (q:ExcIs K C):
  ∃j N t m r f o a p b dd c e i g d y,h.get? C=some (excClassObj t m C N r j f o a p b dd c e i g d "ValueError.__new__")/\h.Ns N y/\y "__init__"=none/\OwnTail h Hh j:=by
 unfold ExcIs PySem.W.excIn at q;split at q
 ·next dd cd sl ho=>
  split at q
  ·next C' j c e i g n d hm hs=>
   simp only [z8,beq_iff_eq,D2] at q;let (((((B,z),w),F),k),v):=q;subst B;subst z;let (t,r,D,E,m,A,o,a,p,b,G):=cd;dsimp only at hm w k v;subst hm;subst w;let u:sl=#[c,e,i,g,some (.builtin "ValueError.__new__"),d]:=by
    cases sl with
    | mk l=>
     let s:l=[c,e,i,g,some (.builtin "ValueError.__new__"),d]:=hs;rw [s]
   subst u;exact {j,E,t,m,r,A,o,a,p,b,dd,c,e,i,g,d,_,X _ _ ho,.of_isNs (PySem.W.isNs_of_in X k),PySem.W.nsMap_none_of_in X k v,PySem.W.tail_of_in X F}
  ·cases q
 ·cases q
section
variable {X:Cx} {x:Str} {C:Addr} {R:Hp->Prop} {e₀:Expr} {ta:TA} {np cpos pos:Pos}
def Xo (ta:TA) (R:Hp->Prop):TS:=λ_ σ H=>ta σ H λvs H1=>vs.length<=sizeLine/\R H1
def fY (n:X.calm=true) (k:ExcIs X.K C) (l:Gl X x) (j:X.mg x=some (.ref C)) (A:xT X C R) (p:PA X [e₀] ta)
  (g:starEach [e₀] X.env=[(false,eval e₀ X.env)]:=by rfl) (m:(x == ("__debug__":Str))=false:=by decide):
  PS X (.Raise (some (.Call (.Name x np) [e₀] [] cpos)) none pos) (Xo ta R):=by
 intro a s σ H D I h;let (o,N,nm,q,bs,hdct,sn,sub,ab,col,dd,k0,k1,k2,k3,k5,mN,E,r,d,T):=Fz I.mod.kin k;refine wpAny_Raise_call_subT (C:=C) (nm:=nm) (q:=q) (N:=N) (bs:=bs) (bm:=o) (hdct:=hdct) (sn:=sn) (sub:=sub) (ab:=ab) (col:=col) (dd:=dd) (k0:=k0) (k1:=k1) (k2:=k2) (k3:=k3) (k5:=k5)
  PySem.F.excBase_ValueError (mN:=mN) (T.hasType PySem.F.excBase_ValueError.hasBase) (I.ok.hd n) (by rw [g];rfl) d (lN I l j {rfl,?_} m)
 let b:=@p cpos a s σ H _ I h;rw [g] at b ⊢;refine O4 (v7 b (λv i B=>?_) λ_ _ z=>z);let (J,t,c,y,G,f):=B;refine {rfl,?_,c.bk _ _ E,r.keeps c.bk,T.keeps c.bk,λu e w=>A a σ t i u e _ c w f};show v.length<=sizeLine;rw [<- y.length];exact G
end
end L2
namespace L2
open PySem PySem.Spec PyProof.Rows PySem.W PySem.Calls Builtin Builtin.ObjectAttr Builtin.Getset_descriptor
structure uU (K:Frag) (C:Addr):Prop where
 exc:ExcIs K C
 cl:(clsIn K C).isSome=true
 ga:findIn K (.ref C) "__getattribute__"=some (some (.builtin "BaseException.__getattribute__"))
 gh:findIn K (.ref C) "__getattr__"=some none
 ca:findIn K (.ref C) "__class__"=some (some (.builtin "object.__class__"))
 cg:specialIn K (.builtin "object.__class__") "__get__"=some (some (.builtin "getset_descriptor.__get__"))
 ct:takesIn K (.builtin "object.__class__")=some true
 mo:mroIn K C (.type "object")=some true
 mb:mroIn K C (.type "BaseException")=some true
def kM (e C:Addr) (h:Heap):Prop:=∃o,h.get? e=some o/\o.cls=.ref C
section
variable {K:Frag} {e C:Addr}
def kM.ty {M:Model} {h:Heap} (p:kM e C h):Looks M h (typeOf (.ref e)) (.ref C):=by
 let (o,b,a):=p;exact a ▸ (Looks.ld b).andThen .now
def Ga {M:Model} {h:Heap} (X:K.In h) (T:uU K C):Looks M h (find (.ref e) (.ref C) "__class__") (.bind (.builtin "getset_descriptor.__get__") (.builtin "object.__class__")):=by
 let c:=looks_findIn (M:=M) X T.ca;let b:=looks_specialIn (M:=M) X T.cg;let a:=looks_takesIn (M:=M) X T.ct;refine c.andThen (b.andThen ?_);exact(show Looks M h (dataDescriptor? (some _) (some _)) (some (_,_)) from a.andThen .now).andThen (Looks.tag .now)
variable {prog:Program} {w:World} {A:Around} {E:Value->Shared->Prop} {s:Shared} {R:Result->Shared->Prop}
def rA {a:Value} (X:K.In s.heap) (T:uU K C) (p:kM e C s.heap) (h:R (.ok (.ret (.ref C))) s):
  codeAny (model prog w) A (.call (.builtin "getset_descriptor.__get__") {[.builtin "object.__class__",.ref e,a],[]}) R s:=by
 let (c,g,d,t,f):=s;let b:=p.ty (M:=model prog w);let Lb:=looks_mroIn (M:=model prog w) X T.mo;refine K1 KF.slot_gs.plain KF.entry_gs (KF.slot_gs.check _ _ _ _ _ _ _ _ KF.type_class (KF.args_gs _ _ _) ?_);unfold Builtin.«getset_descriptor.__get__» descrGet;rw [dga_obj];refine c7 (i0 ?_);unfold descrGetter descrCheckInstance descrNameAndClass isInstance;simp only [KF.owner_class]
 repeat lk
 refine {P8 _ ⋯,C9 KF.entry_class ?_};unfold Builtin.«object.__class__» shownTypeOf
 repeat lk
 exact h
end
section
variable {K:Frag} {e C:Addr} {prog:Program} {w:World} {A:Around} {E:Value->Shared->Prop} {s:Shared} {R:Result->Shared->Prop}
def uN {M:Model} {a:Value} {Q:Unit->Shared->Prop} (X:K.In s.heap) (T:uU K C) (p:kM e C s.heap) (d:Q () s):
  wpAny M A (checkBuiltinCall "BaseException.__getattribute__" {[.ref e,a],[]}) Q E s:=by
 let f:builtinKind "BaseException.__getattribute__"=some .slot:=⋯;let b:splitId "BaseException.__getattribute__"=some ("BaseException","__getattribute__"):=⋯;let h:=F.args_bexc_ga (.ref e) a;let c:Looks M s.heap (isInstance (.ref e) (.type "BaseException")) true:=p.ty.andThen (looks_mroIn X T.mb);let (i,g,j,t,k):=s;simp only [checkBuiltinCall,f,b];refine c7 (c.at ?_)
 repeat (first|wp_step)
 exact d
def xC {tk:Tok} {Q:Fin->Shared->Prop} (X:K.In s.heap) (T:uU K C) (p:kM e C s.heap) (c:Q (.done (.ret (.ref C))) s):
  wpAny (model prog w) A (Builtin.«object.__getattribute__» {[.ref e,.str "__class__" tk],[]}) Q E s:=by
 let a:=p.ty (M:=model prog w);let b:=Ga (M:=model prog w) (e:=e) X T;let (d,g,f,t,h):=s;unfold Builtin.«object.__getattribute__»
 repeat (first|with_reducible refine a.at ?_|with_reducible refine b.at ?_|wp_step)
 refine rA X T p ?_;exact i0 c
def uM {Q:Option Value->Shared->Prop} (X:K.In s.heap) (T:uU K C) (p:kM e C s.heap) (h:Q (some (.ref C)) { s with toks:=s.toks+1 }):
  wpAny (model prog w) A (getAttr? (.ref e) "__class__") Q E s:=by
 let d:=p.ty (M:=model prog w);let b:=looks_findIn (M:=model prog w) X T.ga;let c:=looks_findIn (M:=model prog w) X T.gh;let f:=F.attr_ValueError.ga.bind (.ref e);let a:(Value.builtin "BaseException.__getattribute__" == Value.builtin "object.__getattribute__")=false:=⋯;let (i,g,j,t,k):=s;unfold getAttr? getAttrBy? getAttrBy;refine c7 (wpAny_mkText (c7 (N4 (y0 (c7 (d.at (c7 (b.at ?_))))))));dsimp only
 rw [if_neg (by rw [a];simp)];unfold getAttrByItsOwn hookBefore;refine c7 (c.at ?_);refine c7 (N4 (y0 ?_));unfold callGetattribute boundAndCalled;rw [if_neg (by simp)];rw [f];refine c7 (i0 ?_);refine D9 (K1 F.attr_ValueError.ga.plain F.entry_bexc_ga (uN X T p (xC X T p ?_)));refine i0 (i0 ?_);exact h
def Mn (T:uU K C):KitX K (.ref e) (.ref C) (kM e C) where
 ty:=λ_ _ _ p=>p.ty
 it:=λ_ _ X _=>by
  have a:=T.cl
  unfold clsIn at a
  split at a
  ·next c' d' cd' sl' ho=>
   intro j l i g k q
   unfold isType loadHead
   exact c7 (wpAny_loadPart (k _ _ (X _ _ ho)) (i0 q))
  ·cases a
 ne:=λh f dd c n m X b=>by
  have a:=T.cl
  refine G7.mpr λq=>?_
  have d:C=f:=Value.ref.inj (beq_iff_eq.mp q)
  subst d
  unfold clsIn at a
  split at a
  ·next c' d' cd' sl' ho=>
   have z:=(X _ _ ho).symm.trans b
   cases z
  ·cases a
 ca:=λX p k=>uM X T p k
end
def rB (e C:Addr):HO:=.ext λhp=>kM e C hp/\Hd.NoCtx e hp
def Tq {P:Program} {w:World} {H:Hp} {h:Heap} {e C:Addr} (p:kM e C h) (n:Hd.NoCtx e h):bL P w H h e (rB e C):=by
 refine {{(p),n},?_,λg f q k=>?_}
 ·let (o,z,_):=p;exact {(o),z}
 ·let ((o,z,c),a,d,b,r):=q;exact {{o,k o z,c},a,d,k a b,r}
section
variable {X:Cx}
inductive KD:V->Value->Prop where
 | ty (n:String):KD (.ty n) (.type n)
 | ref (a:Addr):KD (.ref a) (.ref a)
def EX (K:Frag):List V->Hp->VK->Prop:=λxs H Q=>∃x y c b,xs=[x,y]/\KD y c/\((∃t,jG K H x t/\PySem.W.kitOne K t c=some b)\/∃e C,x=.ref e/\H e=some (rB e C)/\uU K C/\PySem.W.kitOne K (.ref C) c=some b)/\Q (.bl b) H
def dE:gC X (.builtin "isinstance") (EX X.K):=by
 intro i s σ H D B Q I r h;let (x,y,c,b,rfl,o,m,q):=h;let (u,v,rfl,g,j):=Hj r;let k:v=c:=by
  cases o with
  | ty n=>exact j
  | ref a=>exact j
 subst k;rcases m with ⟨t,ty,e⟩|⟨d,C,rfl,l,T,e⟩
 ·exact Ft I g ty e λf=>{.bl b,H,I.tok f,rfl,q}
 ·cases (show u=Value.ref d from g);let ((p,_),_):=(show bL X.prog X.w H s.heap d (rB d C) from I.hok d _ l);exact kia_one (Mn T) I.kIn p e (λz=>nomatch z) λf=>{.bl b,H,I.tok f,rfl,q}
end
end L2
namespace L2
open PySem PySem.Spec PyProof.Rows
def aP.re {X Y:Cx} {pins pins':List (Addr × Obj)} {σ:St} {H:Hp} {s:Shared} (I:aP X pins σ H s) (C:Y.Ok) (e1:Y.prog=X.prog) (i:Y.w=X.w) (n:Y.N=X.N) (t:Y.s₀=X.s₀) (o:Y.H₀=X.H₀) (j:Y.env=X.env) (q:Y.outer=X.outer) (r:Y.ex=X.ex)
  (G:∀p ∈ Y.pn++pins',p ∈ X.pn++pins):aP Y pins' σ H s:=by
 let (m,w,K,mg,k,A,N,T,U,F,e,c,J,L,l,S,O):=X;let (f,W,M,D,d,P,Q,B,x,h,a,b,E,y,g,u,v):=Y;dsimp only at e1 i n t o j q r;subst e1 i n t o j q r;exact {C,I.os,I.bare,I.base,I.loc,I.cell,I.free,I.freeC,λp z=>I.pin p (G p z),I.hok,I.len}
abbrev Cx.try_ (X:Cx) (pn:List (Addr × Obj)) (xe:Value->Shared->Prop):Cx:={ X with pn:=pn,xe:=xe }
abbrev Cx.suite (X:Cx) (e:Value):Cx:={ X with A:=X.A.mark (some e),calm:=false,xe:=λ_ _=>False }
theorem Cx.Ok.try_ {X:Cx} (a:X.Ok) (pn:List (Addr × Obj)) (xe:Value->Shared->Prop):(X.try_ pn xe).Ok:=
 {(a.mod),a.kind,a.glob,a.blt,a.above,a.inj,a.has,a.cab,a.hd,a.frames,a.stk,a.exf,a.bs,a.bsz,a.noex,a.exfs,a.funs,a.frf}
theorem Cx.Ok.suite {X:Cx} (a:X.Ok) (e:Value):(X.suite e).Ok:=
 {a.mod,a.kind,a.glob,a.blt,a.above,a.inj,a.has,a.cab,λz=>(nomatch z),a.frames,a.stk,a.exf,a.bs,a.bsz,a.noex,a.exfs,a.funs,a.frf}
def Gz.laid {P:Program} {w:World} {outer:List Env} {H H':Hp} {h h' B:Heap} {d C:Addr} {j:Value} (F:Gz P w outer H h d (.ref C) j H' B h'):
  Un (iZ outer) [] H (aS H' d (rB d C)) h h'/\iH P w (aS H' d (rB d C)) h':=by
 let a:=F.un;let e:=F.freeE;refine {{a.keep,a.slot,λb o q n i=>?_,a.there,λb g q=>?_,λb o u q=>?_,λb k q=>?_},λb u q=>?_}
 ·rw [aC (λz=>by rw [z,F.new] at q;cases q)];exact a.free b o q n i
 ·let z:=a.tups b g q;rw [aC (aD z e)];exact z
 ·let z:=a.frzs b o u q;rw [aC (aD z e)];exact z
 ·let (m,z):=a.tbls b k q;exact {m,by rw [aC (aD z e)];exact z}
 ·by_cases f:b=d
  ·subst f;rw [aB] at q;cases q;let (o,z,c):=F.fly.there;exact Tq {(o),z,c} F.nc
  ·rw [aC f] at q;exact(F.hokN b u q).stay (λ_ _ _ z=>z) (λc z=>by rw [aC (aD z e)];exact z) λc g z=>by rw [aC (aD z e)];exact z
section
variable {X:Cx}
def HS (Y:Cx) (ifs:List Expr) (t:TT):Prop:=
 ∀ ⦃pins:List (Addr × Obj)⦄ (s:Shared) (σ:St) (H:Hp) (Q:Bool->Hp->Prop),aP Y pins σ H s->t σ H Q ->
  wpAny (model Y.prog Y.w) Y.A (forIn ifs true λc r=>if r=true then do let ok <- isTrue c Y.env (eval c Y.env);pure (ForInStep.yield ok) else pure (ForInStep.yield r)) (TP Y pins σ Q) Y.xe s
def DT:TT:=λ_ H Q=>Q true H
def dL {Y:Cx}:HS Y [] DT:=λ_ _ _ H _ I h=>wpAny_tests_nil {(H),I,h}
def oC {Y:Cx} {c:Expr} {t:TT} (h:PT Y c t):HS Y [c] t:=λa s σ H Q I b=>wpAny_tests_one (h s σ H Q I b)
section
variable {NB:List Str} {scope:Scope}
end
mutual
inductive As (K:PySem.W.Frag) (H:Hp):V->PyData->Prop where
 | non:As K H .non .none
 | bl (b:Bool):As K H (.bl b) (.bool b)
 | int (i:Int):As K H (.int i) (.int i)
 | str (x:Str):As K H (.str x) (.str x)
 | lst {a:Addr} {xs:List V} {ds:List PyData}:cZ K H a xs->Ar K H xs ds->As K H (.ref a) (.list ds)
 | tup {a:Addr} {xs:List V} {ds:List PyData}:bN K H a xs->Ar K H xs ds->As K H (.ref a) (.tuple ds)
inductive Ar (K:PySem.W.Frag) (H:Hp):List V->List PyData->Prop where
 | nil:Ar K H [] []
 | cons {x:V} {d:PyData} {xs:List V} {ds:List PyData}:As K H x d->Ar K H xs ds->Ar K H (x::xs) (d::ds)
end
section
variable {pins:List (Addr × Obj)} {σ:St} {H:Hp} {s:Shared}
def As.reads (I:aP X pins σ H s) {x:V} {d:PyData} {u:Value} (h:As X.K H x d):bK x u->∃c,Reads s.heap u d c:=by
 refine As.rec (motive_1:=λx d _=>∀u,bK x u->∃c,Reads s.heap u d c) (motive_2:=λg j _=>∀z,bG g z->∃c,ReadsAll s.heap z j c) ?_ ?_ ?_ ?_ ?_ ?_ ?_ ?_ h u
 ·intro _ r;cases (show _=Value.none from r);exact {_,.none}
 ·intro b _ r;cases (show _=Value.bool b from r);exact {_,.bool b}
 ·intro i _ r;let (t,q):=(show ∃t,_=Value.int i t from r);cases q;exact {_,.int i t}
 ·intro x _ r;let (t,q):=(show ∃t,_=Value.str x t from r);cases q;exact {_,.str x t}
 ·intro a g j w _ l _ r;cases (show _=Value.ref a from r);let (e,m,p,_):=I.list w;let (c,f):=l _ m;let (o,y,v,n,k):=p.isList;exact {_,.list y v k (by simpa using f)}
 ·intro a g j w _ l _ r;cases (show _=Value.ref a from r);let (e,m,p,_):=I.tuple w;let (c,f):=l _ m;let (o,y,v,n,k):=(show s.heap.IsTuple a e.toArray from p);exact {_,.tuple y v k (by simpa using f)}
 ·intro _ r;cases r;exact {_,.nil}
 ·intro x d g j _ _ C D _ r;cases r with
  | cons r rs=>
   let (c,f):=C _ r;let (E,B):=D _ rs;exact {_,.cons f B}
end
def JD (K:PySem.W.Frag):R2:=λx y H Q=>∃dx dy,As K H x dx/\As K H y dy/\SeqAt.shaped dx=true/\SeqAt.shaped dy=true/\Q (.bl (PyData.eqv dx dy)) H
def JB (K:PySem.W.Frag):R2:=λx y H Q=>∃dx dy,As K H x dx/\As K H y dy/\SeqAt.shaped dx=true/\SeqAt.shaped dy=true/\Q (.bl (!PyData.eqv dx dy)) H
def Zx (g:X.A.units+64<cLine):kK X (compareOp .Eq) (JD X.K):=by
 intro pins s σ H x y v u Q I e j h;let (m,n,c,a,f,i,q):=h;let (k,b):=c.reads I e;let (l,d):=a.reads I j;exact SeqAt.compareEq_shaped b d f i g {.bl _,H,I,rfl,q}
def zE (g:X.A.units+64<cLine):kK X (compareOp .NotEq) (JB X.K):=by
 intro pins s σ H x y v u Q I e j h;let (m,n,c,a,f,i,q):=h;let (k,b):=c.reads I e;let (l,d):=a.reads I j;exact SeqAt.compareNe_shaped b d f i g {.bl _,H,I,rfl,q}
end
end L2
namespace PySem.SeqAt
open AutoSeq1 (wpAny_loadPart')
open MeetsSeq MeetsSeq2 MeetsSeq3
section
variable {A:Around} {s:Shared}
end
end PySem.SeqAt
namespace L2
open PySem PySem.Spec PyProof.Rows
section
variable {X:Cx}
section
variable {κ:Type} [DecidableEq κ]
def cV (kvs:List (κ × V)) (k:κ):Option V:=(kvs.find? λkv=>decide (kv.1=k)).map (·.2)
def mL (kvs:List (κ × V)) (k:κ) (v:V):List (κ × V):=
 if (kvs.any λkv=>decide (kv.1=k))=true then kvs.map (λkv=>if kv.1=k then(kv.1,v) else kv) else kvs++[(k,v)]
def eZ {p:κ × V} {r:List (κ × V)} {k:κ} (e:p.1=k):cV (p::r) k=some p.2:=by simp [cV,F3,e]
def fA {p:κ × V} {r:List (κ × V)} {k:κ} (e:¬ p.1=k):cV (p::r) k=cV r k:=by simp [cV,F3,e]
theorem oU (k:κ):∀kvs:List (κ × V),(kvs.any λb=>decide (b.1=k))=(cV kvs k).isSome
 | []=>rfl
 | p::r=>by
  rw [N5]
  by_cases e:p.1=k
  ·simp only [eZ e,decide_eq_true e,Bool.true_or,Option.isSome_some]
  ·rw [fA e,decide_eq_false e,Bool.false_or];exact oU k r
theorem rP (k j:κ) (y:V):∀kvs:List (κ × V),cV kvs k=none->cV (kvs++[(k,y)]) j=if j=k then some y else cV kvs j
 | [],_=>by
  by_cases e:k=j
  ·rw [if_pos e.symm];exact eZ (p:=(k,y)) e
  ·rw [if_neg (λz=>e z.symm)];exact fA (p:=(k,y)) e
 | p::r,hn=>by
  rw [List.cons_append]
  have b:¬ p.1=k:=λz=>by rw [eZ z] at hn;cases hn
  rw [fA b] at hn
  have c:=rP k j y r hn
  by_cases e:p.1=j
  ·rw [eZ e,eZ e,if_neg (λz=>b (e.trans z))]
  ·rw [fA e,fA e,c]
def mZ (kvs:List (κ × V)) (k:κ) (v:V):(mL kvs k v).length<=kvs.length+1:=by
 unfold mL;split
 ·rw [f8];omega
 ·rw [i6,j4,O2];omega
def vY {kvs:List (κ × V)} {k:κ} (v:V) (h:cV kvs k=none):mL kvs k v=kvs++[(k,v)]:=by
 unfold mL;rw [oU,h];exact if_neg (by decide)
def iJ.isSome_eq {o:Option V} {u:Option Value} (r:iJ o u):o.isSome=u.isSome:=by
 cases o with
 | none=>cases u with
  | none=>rfl
  | some _=>exact(show False from r).elim
 | some _=>cases u with
  | none=>exact(show False from r).elim
  | some _=>rfl
theorem iJ.getD {o:Option V} {u:Option Value} {d:V} {d':Value} (r:iJ o u) (b:bK d d'):bK (o.getD d) (u.getD d'):=by
 cases o with
 | none=>cases u with
  | none=>exact b
  | some _=>exact(show False from r).elim
 | some _=>cases u with
  | none=>exact(show False from r).elim
  | some _=>exact r
def KV.val {kvs:List (κ × V)} {vs:List (κ × Value)} (r:KV kvs vs) (k:κ):iJ (cV kvs k) (valueAt vs k):=by
 unfold KV at r
 induction r with
 | nil=>exact D5
 | @cons p q n c h t m=>
  let (j,l):=h;by_cases e:p.1=k
  ·let g:q.1=k:=j.symm.trans e;let b:valueAt (q::c) k=some q.2:=by simp [valueAt,F3,g]
   rw [eZ e,b];exact l
  ·let g:¬ q.1=k:=λz=>e (j.trans z);let b:valueAt (q::c) k=valueAt c k:=by simp [valueAt,F3,g]
   rw [fA e,b];exact m
theorem KV.any {kvs:List (κ × V)} {vs:List (κ × Value)} (r:KV kvs vs) (k:κ):(kvs.any λb=>decide (b.1=k))=vs.any λb=>decide (b.1=k):=by
 unfold KV at r
 induction r with
 | nil=>rfl
 | cons h t ih=>rw [N5,N5,ih,h.1]
def KV.repl {kvs:List (κ × V)} {vs:List (κ × Value)} (r:KV kvs vs) (k:κ) {y:V} {u:Value} (j:bK y u):
  KV (kvs.map λb=>if b.1=k then(b.1,y) else b) (vs.map λb=>if b.1=k then(b.1,u) else b):=by
 unfold KV at r ⊢
 induction r with
 | nil=>exact .nil
 | @cons p q ps qs h t ih=>
  rw [k7,k7];refine .cons ?_ ih;let (c,g):=h;by_cases e:p.1=k
  ·rw [if_pos e,if_pos (c.symm.trans e)];exact {(c),j}
  ·rw [if_neg e,if_neg (λz=>e (c.trans z))];exact {(c),g}
def KV.put {kvs:List (κ × V)} {vs:List (κ × Value)} (r:KV kvs vs) (k:κ) {y:V} {u:Value} (b:bK y u):KV (mL kvs k y) (stored vs k u):=by
 unfold mL stored;rw [r.any k];by_cases e:(vs.any λc=>decide (c.1=k))=true
 ·rw [if_pos e,if_pos e];exact r.repl k b
 ·rw [if_neg e,if_neg e];exact Paired.snoc r {(rfl),b}
theorem KV.length {kvs:List (κ × V)} {vs:List (κ × Value)} (r:KV kvs vs):kvs.length=vs.length:=Paired.length r
end
def sJ {P:Program} {w:World} {k:cC} {u:Value} (r:bK (kV k) u):(cK P w).is k u=true:=by
 cases k with
 | inl i=>let (t,e):=(show ∃t,u=Value.int i t from r);subst e;exact wN P w i t
 | inr x=>let (t,e):=(show ∃t,u=Value.str x t from r);subst e;exact wM P w x t
theorem sK {P:Program} {w:World}:∀{ks:List cC} {us:List Value},bG (ks.map kV) us->ItemsAre (cK P w) ks us
 | [],_,r=>by rw [O3] at r;cases r;exact .nil
 | k::ks,_,r=>by
  rw [k7] at r
  cases r with
  | cons h t=>exact .cons (sJ h) (sK t)
abbrev KT (H:Hp):List (List cC × V)->List (List cC × Addr × Value)->Prop:=Paired λp q=>p.1=q.1/\H q.2.1=some (.tup (p.1.map kV))/\bK p.2 q.2.2
def KT.val {H:Hp} {kvs:List (List cC × V)} {xs:List (List cC × Addr × Value)} (r:KT H kvs xs) (k:List cC):iJ (cV kvs k) ((atKey xs k).map (·.2)):=by
 induction r with
 | nil=>exact D5
 | @cons p q n c h t m=>
  let (j,_,l):=h;by_cases e:p.1=k
  ·let g:q.1=k:=j.symm.trans e;let b:atKey (q::c) k=some q.2:=by simp [atKey,F3,g]
   rw [eZ e,b];exact l
  ·let g:¬ q.1=k:=λz=>e (j.trans z);let b:atKey (q::c) k=atKey c k:=by simp [atKey,F3,g]
   rw [fA e,b];exact m
def KT.repl {H:Hp} {kvs:List (List cC × V)} {xs:List (List cC × Addr × Value)} (r:KT H kvs xs) (k:List cC) {y:V} {u:Value} (l:bK y u):
  KT H (kvs.map λc=>if c.1=k then(c.1,y) else c) (xs.map (putAt k u)):=by
 induction r with
 | nil=>exact .nil
 | @cons p q ps qs h t ih=>
  rw [k7,k7];refine .cons ?_ ih;let (b,g,j):=h;unfold putAt;by_cases e:p.1=k
  ·rw [if_pos e,if_pos (b.symm.trans e)];exact {(b),g,l}
  ·rw [if_neg e,if_neg (λz=>e (b.trans z))];exact {(b),g,j}
def KT.put {H:Hp} {kvs:List (List cC × V)} {xs:List (List cC × Addr × Value)} (r:KT H kvs xs) (k:List cC) {b:Addr} {y:V} {u:Value} (g:H b=some (.tup (k.map kV))) (c:bK y u):
  KT H (mL kvs k y) (storedH xs k b u):=by
 let e:(kvs.any λj=>decide (j.1=k))=(atKey xs k).isSome:=by
  rw [oU,(r.val k).isSome_eq,Option.isSome_map]
 unfold mL storedH;rw [e];by_cases q:(atKey xs k).isSome=true
 ·rw [if_pos q,if_pos q];exact r.repl k c
 ·rw [if_neg q,if_neg q];exact Paired.snoc r {(rfl),g,c}
def KT.keeps {H H':Hp} {kvs:List (List cC × V)} {xs:List (List cC × Addr × Value)} (r:KT H kvs xs) (g:∀b c,H b=some (.tup c)->H' b=some (.tup c)):KT H' kvs xs:=
 Paired.mapP r λ_ _ z=>{z.1,g _ _ z.2.1,z.2.2}
section
variable {P:Program} {w:World} {H:Hp} {h:Heap} {a:Addr}
def Wm {u:HO} (b:iH P w H h) (e:Rd H a u):bL P w H h a u:=e.ok b
def qG {kvs:List (cC × V)} (c:iH P w H h) (e:Rd H a (.dK kvs)):kvs.length<=sizeLine/\(a == sysModules)=false/\∃b,KV kvs b/\h.DictOf (cK P w) a b:=
 show bL P w H h a (.dK kvs) from Wm c e
def GK {kvs:List (cC × V)} (c:iH P w H h) (e:H a=some (.dK kvs)):kvs.length<=sizeLine/\(a == sysModules)=false/\∃b,KV kvs b/\h.DictOf (cK P w) a b:=qG c (.inl e)
def mQ {ks:List cC} (c:iH P w H h) (e:H a=some (.tup (ks.map kV))):(tupleKind (cK P w)).is h ks a:=by
 let (_,b,r,o,j,g,n,l):=(show bL P w H h a (.tup (ks.map kV)) from c a _ e);exact {o,b.toArray,n,j,g,l,by simpa using sK r}
def qE {kvs:List (List cC × V)} (g:iH P w H h) (e:Rd H a (.dT kvs)):kvs.length<=sizeLine/\(a == sysModules)=false /\
  ∃b,KT H kvs b/\h.DictOfH (tupleKind (cK P w)) a b:=by
 let (z,y,b,r,o,j,G,B,n,F,C,D):=(show bL P w H h a (.dT kvs) from Wm g e);refine {z,y,b,r,o,j,G,B,n,F,C,λx hx=>?_,D};let c:∀{l:List (List cC × V)} {m:List (List cC × Addr × Value)},KT H l m->∀x ∈ m,(tupleKind (cK P w)).is h x.1 x.2.1:=by
  intro l m q
  induction q with
  | nil=>intro x hx;exact nomatch hx
  | @cons p q ps qs hq t ih=>
   intro x hx;rcases g7.mp hx with e|hx
   ·subst e;exact mQ g (by rw [<- hq.1];exact hq.2.1)
   ·exact ih x hx
 exact c r x hx
def GG {kvs:List (List cC × V)} (c:iH P w H h) (e:H a=some (.dT kvs)):kvs.length<=sizeLine/\(a == sysModules)=false /\
  ∃b,KT H kvs b/\h.DictOfH (tupleKind (cK P w)) a b:=qE c (.inl e)
end
def kE (H:Hp) (a:Addr) (y:V) (r:Option V):Prop:=
 (∃kvs k,Rd H a (.dK kvs)/\y=kV k/\r=cV kvs k)\/∃kvs k b,Rd H a (.dT kvs)/\y=.ref b/\H b=some (.tup (k.map kV))/\r=cV kvs k
def Hb (H:Hp) (a:Addr) (y v:V) (H':Hp):Prop:=
 (∃kvs k,H a=some (.dK kvs)/\y=kV k/\kvs.length<sizeLine/\H'=aS H a (.dK (mL kvs k v))) \/
 ∃kvs k b,H a=some (.dT kvs)/\y=.ref b/\H b=some (.tup (k.map kV))/\kvs.length<sizeLine/\H'=aS H a (.dT (mL kvs k v))
theorem kE.k {H:Hp} {a:Addr} {kvs:List (cC × V)} {k:cC} (e:H a=some (.dK kvs)):kE H a (kV k) (cV kvs k):=.inl {kvs,k,.inl e,rfl,rfl}
theorem Hb.k {H:Hp} {a:Addr} {kvs:List (cC × V)} {k:cC} {v:V} (e:H a=some (.dK kvs)) (b:kvs.length<sizeLine):Hb H a (kV k) v (aS H a (.dK (mL kvs k v))):=.inl {(kvs),k,e,rfl,b,rfl}
section
variable {pins:List (Addr × Obj)} {σ:St} {H:Hp} {s:Shared} {a:Addr} {y v:V} {u r:Value} {o:Option V} {A:Around} {E:Value->Shared->Prop}
def aP.big (I:aP X pins σ H s):sysModules<s.heap.objs.size:=by
 let h:mainGlobals<s.heap.objs.size:=(I.mod.glob.keeps I.bk).lt;exact Nat.lt_trans (by decide) h
def Gh {Q:Value->Shared->Prop} (K:A.units+1<cLine) (I:aP X pins σ H s) (g:kE H a y (some v)) (B:bK y u) (h:∀m x,aP X pins σ H x->bK v m->Q m x):
  wpAny (model X.prog X.w) A (getItem (.ref a) u) Q E s:=by
 rcases g with ⟨kvs,k,e,t,l⟩|⟨kvs,k,b,e,t,D,l⟩
 ·subst t;let (z,C,F,j,dd):=qG I.hok e;let (m,q,c):=iJ.some_of (v:=v) (o:=valueAt F k) (by rw [l];exact j.val k);exact wpAny_getItem_of (sJ B) dd.mapOf q (h m _ (I.tok _) c)
 ·subst t;cases (show u=Value.ref b from B);let (z,C,G,j,dd):=qE I.hok e;let (m,q,c):=iJ.some_of (v:=v) (o:=(atKey G k).map (·.2)) (by rw [l];exact j.val k);let (p,J,n):=Option.map_eq_some_iff.mp q;refine wpAny_getItem_heap (tupleKind_room_in1 K) (mQ I.hok D) dd J ?_;rw [n];exact h m _ (I.tok _) c
def JV {Q:Value->Shared->Prop} (x:A.units+1<cLine) (I:aP X pins σ H s) (g:kE H a y o) (p:bK y u) (h:∀n,aP X pins σ H n->Q (.bool o.isSome) n):
  wpAny (model X.prog X.w) A (compareOp .In u (.ref a)) Q E s:=by
 rcases g with ⟨kvs,k,e,m,l⟩|⟨kvs,k,b,e,m,t,l⟩
 ·subst m;let (z,j,B,c,dd):=qG I.hok e;refine wpAny_in_of (sJ p) j dd.mapOf ?_;rw [<- (c.val k).isSome_eq,<- l];exact h _ (I.tok _)
 ·subst m;cases (show u=Value.ref b from p);let (z,j,C,c,dd):=qE I.hok e;refine wpAny_in_heap (tupleKind_room_in1 x) (mQ I.hok t) j dd ?_;let q:=(c.val k).isSome_eq;rw [Option.isSome_map] at q;rw [<- q,<- l];exact h _ (I.tok _)
def Ty {Q:Value->Shared->Prop} (x:A.units+1<cLine) (I:aP X pins σ H s) (g:kE H a y o) (p:bK y u) (h:∀n,aP X pins σ H n->Q (.bool (!o.isSome)) n):
  wpAny (model X.prog X.w) A (compareOp .NotIn u (.ref a)) Q E s:=by
 rcases g with ⟨kvs,k,e,m,l⟩|⟨kvs,k,b,e,m,t,l⟩
 ·subst m;let (z,j,B,c,dd):=qG I.hok e;refine wpAny_notIn_of (sJ p) j dd.mapOf ?_;rw [<- (c.val k).isSome_eq,<- l];exact h _ (I.tok _)
 ·subst m;cases (show u=Value.ref b from p);let (z,j,C,c,dd):=qE I.hok e;refine wpAny_notIn_heap (tupleKind_room_in1 x) (mQ I.hok t) j dd ?_;let q:=(c.val k).isSome_eq;rw [Option.isSome_map] at q;rw [<- q,<- l];exact h _ (I.tok _)
def Dv {h':Heap} {t':Nat} {c:HO} (I:aP X pins σ H s) (j:HE (H a)) (l:Heap.SameBut a s.heap h') (n:∃q,h'.get? a=some q) (g:bL X.prog X.w (aS H a c) h' a c):
  aP X pins σ (aS H a c) { s with heap:=h',toks:=t' }:=
 I.write (x:=a) (e:=a) j (.inl rfl) (λb q m z=>(l.2 b m).trans z) n g
def BF {P:Program} {w:World} {H':Hp} {h':Heap} {kvs:List (cC × V)} {vs:List (cC × Value)} (z:kvs.length<=sizeLine) (c:(a == sysModules)=false) (b:KV kvs vs) (dd:h'.DictOf (cK P w) a vs):
  bL P w H' h' a (.dK kvs):={(z),c,vs,b,dd}
def Gg {H':Hp} {Q:Unit->Shared->Prop} (hu:A.units+1<cLine) (I:aP X pins σ H s) (g:Hb H a y v H') (K:bK y u) (L:bK v r) (h:∀G,aP X pins σ H' G->Q () G):
  wpAny (model X.prog X.w) A (setItem (.ref a) u r) Q E s:=by
 rcases g with ⟨kvs,k,e,C,l,B⟩|⟨kvs,k,b,e,C,M,l,B⟩
 ·subst C B;let (z,x,S,j,dd):=GK I.hok e
  let p:S.length<=sizeLine:=by rw [<- j.length];exact z
  let D:(mL kvs k v).length<=sizeLine:=by have:=mZ kvs k v;omega
  refine wpAny_setItem_pairs (hsz:=p) (sJ K) dd λJ m t=>h _ ?_;let T:∃q,J.get? a=some q:=let ⟨q,_,_,n,_⟩:=m;{(q),n};exact Dv I (by rw [e];exact D5) t T (BF D x (j.put k L) m)
 ·subst C B;cases (show u=Value.ref b from K);let (z,x,Y,j,dd):=GG I.hok e
  let p:Y.length<=sizeLine:=by rw [<- Paired.length j];exact z
  let D:(mL kvs k v).length<=sizeLine:=by have:=mZ kvs k v;omega
  refine wpAny_setItem_heap (hsz:=p) (tupleKind_room_in1 hu) (mQ I.hok M) dd λJ m t=>h _ ?_;let (q,O,Z,n,N,W,h4,_,U):=m;refine Dv I (by rw [e];exact D5) t {(q),n} {D,x,_,(j.put k M L).keeps λc ys F=>?_,q,O,Z,n,N,W,h4,U};rw [aC (aI F e (λz=>nomatch z))];exact F
end
section
variable {pins:List (Addr × Obj)} {σ:St} {H:Hp} {s:Shared} {a:Addr} {kvs:List (cC × V)} {k:cC} {u:Value} {A:Around} {E:Value->Shared->Prop}
end
def HD (i:Expr):Prop:=∀ov iv,subscripted i false ov iv=operate [ov,iv] (getItem ov iv)
def Qb {prog:Program} {w:World} {A:Around} {E:Value->Shared->Prop} {s:Shared} {env:Env} {value b:Expr} {pos:Pos} {T p:String} {Q:Value->Shared->Prop}
  (z:typeLookup (.type T) "__getitem__"=pure (some (.builtin p))) (n:HD b)
  (h:wpAny (model prog w) A (eval value env) (λo j=>wpAny (model prog w) A (eval b env) (λi s₂=>s₂.TypeIs o T/\wpAny (model prog w) A (getItem o i) Q E s₂) E j) E s):
  wpAny (model prog w) A (eval (.Subscript value b pos) env) Q E s:=by
 refine Subscript_ (v7 h (λo j t=>v7 t (λi s₂ g=>?_) λ_ _ x=>x) λ_ _ x=>x);let (l,g):=g;unfold subscriptTail;refine c7 ?_;rw [getitemInPython_of_ne l.not_modules];refine c7 (wpAny_specialOf l z ?_);let c:wpAny (model prog w) A (subscripted b false o i) (λr m=>wpAny (model prog w) A (letTemporaryGo value o r >>= λ_=>pure r) Q E m) E s₂:=by
  rw [n o i];exact wpAny_operating (v7 g (λr m q=>c7 (wpAny_letTemporaryGo (i0 q))) λ_ _ x=>x)
 first
  | exact i0 (c7 c)
  | exact c7 (i0 (c7 c))
  | exact c7 c
def xF {X:Cx} {pins:List (Addr × Obj)} {σ:St} {H:Hp} {s:Shared} {a:Addr} {y:V} {o:Option V} (I:aP X pins σ H s) (g:kE H a y o):s.TypeIs (.ref a) "dict":=by
 rcases g with ⟨kvs,k,e,_,_⟩|⟨kvs,k,b,e,_,_,_⟩
 ·let (_,_,c,_,dd):=qG I.hok e;exact dd.typeIs
 ·let (_,_,j,_,dd):=qE I.hok e;exact dd.typeIs
def Vs (td ty:TE):TE:=λσ H Q=>td σ H λx H1=>ty σ H1 λy H2=>∃a v,x=.ref a/\kE H2 a y (some v)/\Q v H2
def IM (ty td:TE):TE:=λσ H Q=>ty σ H λy H1=>td σ H1 λx H2=>∃a o,x=.ref a/\kE H2 a y o/\Q (.bl o.isSome) H2
def Qa (ty td:TE):TE:=λσ H Q=>ty σ H λy H1=>td σ H1 λx H2=>∃a o,x=.ref a/\kE H2 a y o/\Q (.bl (!o.isSome)) H2
def EU (td ty tv:TE):TS:=λD σ H=>tv σ H λv H1=>td σ H1 λx H2=>ty σ H2 λy H3=>∃a H4,x=.ref a/\Hb H3 a y v H4/\D.nx σ H4
section
variable {o i e value:Expr} {pos pos' tpos:Pos} {td ty tv:TE}
def Cr (hu:X.A.units+1<cLine) (ho:PE X o td) (hi:PE X i ty) (hs:HD i):PE X (.Subscript o i pos) (Vs td ty):=by
 intro pins s σ H Q I h;refine Qb PySem.F.slot_dict_getitem.lookup hs (eH (ho s σ H _ I h) λu s1 x H1 I1 rx q1=>eH (hi s1 σ H1 _ I1 q1) λiv s2 y H2 I2 ry hUp=>?_);let (a,v,ex,g,q2):=hUp;subst ex;obtain rfl:u=Value.ref a:=rx;exact {xF I2 g,Gh hu I2 g ry λw' s3 I3 rw'=>{(v),H2,I3,rw',q2}}
def Zv (hu:X.A.units+1<cLine) (hi:PE X i ty) (ho:PE X o td):PC X .In i o (IM ty td):=by
 intro pins s σ H Q I h;refine eH (hi s σ H _ I h) λiv s1 y H1 I1 ry q1=>eH (ho s1 σ H1 _ I1 q1) λu s2 x H2 I2 rx hUp=>?_;let (a,ov,ex,g,q2):=hUp;subst ex;obtain rfl:u=Value.ref a:=rx;exact JV hu I2 g ry λs3 I3=>{.bl ov.isSome,H2,I3,rfl,q2}
def Ew (hu:X.A.units+1<cLine) (hi:PE X i ty) (ho:PE X o td):PC X .NotIn i o (Qa ty td):=by
 intro pins s σ H Q I h;refine eH (hi s σ H _ I h) λiv s1 y H1 I1 ry q1=>eH (ho s1 σ H1 _ I1 q1) λu s2 x H2 I2 rx hUp=>?_;let (a,ov,ex,g,q2):=hUp;subst ex;obtain rfl:u=Value.ref a:=rx;exact Ty hu I2 g ry λs3 I3=>{.bl (!ov.isSome),H2,I3,rfl,q2}
def Cj (hu:X.A.units+1<cLine) (ho:PE X o td) (hi:PE X i ty) (hv:PE X value tv) (hs:swapsWith value (some (.Subscript o i pos')) pos.line X.env=pure false):
  PS X (.Assign [.Subscript o i pos'] value pos) (EU td ty tv):=by
 intro pins s σ H D I h;refine wpAny_Assign_Subscript (eH (hv s σ H _ I h) λr s1 v H1 I1 rv q1=>eH (ho s1 σ H1 _ I1 q1) λu s2 x H2 I2 rx q2=>eH (hi s2 σ H2 _ I2 q2) λiv s3 y H3 I3 ry hUp=>?_) hs;let (a,H4,ex,g,q3):=hUp;subst ex;obtain rfl:u=Value.ref a:=rx;exact Gg hu I3 g ry rv λs4 I4=>{(σ),H4,I4,q3}
end
def No {P:Program} {w:World} {H:Hp} (h:Heap) (b:sysModules<h.objs.size):bL P w H (h.push { cls:=.type "dict",data:=.dict #[] }) h.objs.size (.dK []):=
 {i8 _,beq_eq_false_iff_ne.mpr (A8 (j8 b)),[],.nil,Heap.DictOf.new h}
def Xp:TE:=λ_ H Q=>∀p,H p=none->Q (.ref p) (aS H p (.dK []))
section
variable {pos:Pos}
def wB:PE X (.Dict [] [] pos) Xp:=λpins s σ H Q I h=>
 wpAny_Dict_empty {.ref s.heap.objs.size,_,I.laid (a:=s.heap.objs.size) (o:=.dK []) (t':=s.toks) (λ_ _ q=>f1 _ q) (d7 _) (No s.heap I.big),rfl,h _ (I.hok.fresh (d7 _))}
end
structure M1 (X:Cx) (o:Expr) (m:Str) (apos:Pos) (e:Expr) (cpos:Pos):Prop where
 base:attributeBase o m X.env (eval o X.env)=eval o X.env
 few:((backTo cpos (starEach [e] X.env)).all (λx=>!x.1) && (backToKw cpos (keywordEach [] X.env)).all (λx=>x.1.isSome)
  && decide (([e]:List Expr).length+([]:List Keyword).length+(if ([]:List Keyword).isEmpty then 0 else 1)<30))=true
 line:(apos.endLine == cpos.line)=true
 trees:backTo cpos (starEach [e] X.env)=[(false,eval e X.env)]
def LE (H:Hp) (a:Addr):Prop:=(∃kvs,Rd H a (.dK kvs))\/∃kvs,Rd H a (.dT kvs)
def AT {X:Cx} {pins:List (Addr × Obj)} {σ:St} {H:Hp} {s:Shared} {a:Addr} (I:aP X pins σ H s) (d:LE H a):
  s.TypeIs (.ref a) "dict"/\(∀b,Value.ref a=.ref b->∃c,s.heap.get? b=some c/\c.dict=none)/\(a == sysModules)=false:=by
 rcases d with ⟨kvs,e⟩|⟨kvs,e⟩
 ·let (_,j,m,_,dd):=qG I.hok e;refine {dd.typeIs,λb q=>?_,j};cases q;let (c,_,_,l,g,_):=dd;exact {(c),l,g.2.1}
 ·let (_,j,n,_,dd):=qE I.hok e;refine {dd.typeIs,λb q=>?_,j};cases q;let (c,_,_,l,g,_):=dd;exact {(c),l,g.2.1}
section
variable {pins:List (Addr × Obj)} {σ:St} {H:Hp} {s:Shared} {a:Addr} {y d:V} {u r:Value} {o:Option V} {A:Around} {E:Value->Shared->Prop}
def BG {Q:Value->Shared->Prop} (B:A.units+1<cLine) (I:aP X pins σ H s) (g:kE H a y o) (q:bK y u) (h:∀p n,aP X pins σ H n->bK (o.getD .non) p->Q p n):
  wpAny (model X.prog X.w) A (call (.builtin "dict.get") [.ref a,u]) Q E s:=by
 rcases g with ⟨kvs,k,e,m,l⟩|⟨kvs,k,b,e,m,t,l⟩
 ·subst m;let (z,j,C,c,dd):=qG I.hok e;refine call_meetsIn PySem.F.slot_dict_get dd.typeIs PySem.F.entry_dict_get (PySem.F.args_dict_get_2 _ _) (meets_dict_get (cK X.prog X.w) a (sJ q) j) {_,dd.mapOf,h _ _ (I.tok _) ?_};rw [l];exact(c.val k).getD rfl
 ·subst m;cases (show u=Value.ref b from q);let (z,j,x,c,dd):=qE I.hok e;refine call_meetsIn PySem.F.slot_dict_get dd.typeIs PySem.F.entry_dict_get (PySem.F.args_dict_get_2 _ _) (meetsH_dict_get (tupleKind (cK X.prog X.w)) a b j) {tupleKind_room_in1 B,k,x,mQ I.hok t,dd,h _ _ (I.tok _) ?_};rw [l];exact(c.val k).getD rfl
end
def Xq (td ty:TE):TE:=λσ H Q=>td σ H λx H1=>∃a,x=.ref a/\LE H1 a/\ty σ H1 λy H2=>∃o,kE H2 a y o/\Q (o.getD .non) H2
section
variable {o e f:Expr} {apos cpos:Pos} {td ty tx:TE}
def Km (hu:X.A.units+1<cLine) (ho:PE X o td) (he:PE X e ty) (m:M1 X o "get" apos e cpos):PE X (.Call (.Attribute o "get" apos) [e] [] cpos) (Xq td ty):=by
 intro pins s σ H Q I h;refine wpAny_Call_method m.base m.few m.line PySem.F.plainAttrs_dict PySem.F.slot_dict_get PySem.F.type_dict_get (eH (ho s σ H _ I h) λu s1 x H1 I1 rx hUp=>?_);let (a,ex,d,q1):=hUp;subst ex;obtain rfl:u=Value.ref a:=rx;let (t1,t2,_):=AT I1 d;refine {t1,t2,?_};rw [m.trees];refine N1 rfl (O4 (Calls.spliced_cons (eH (he s1 σ H1 _ I1 q1) λiv s2 y H2 I2 ry ⟨ov,g,q2⟩=>Calls.spliced_nil ?_)));exact BG hu I2 g ry λw' s3 I3 rw'=>{_,H2,I3,rw',q2}
end
section
variable {pins:List (Addr × Obj)} {σ:St} {H:Hp} {s:Shared} {a:Addr} {kvs:List (cC × V)} {A:Around} {E:Value->Shared->Prop}
end
section
variable {pins:List (Addr × Obj)} {σ:St} {H:Hp} {s:Shared} {a:Addr} {y:V} {u:Value} {A:Around} {E:Value->Shared->Prop}
end
def aJ {H:Hp} {p:Addr} {o:HO} (h:H p=none):aN H (aS H p o):=λb u q=>by
 rw [aC (aD q h)]
 exact q
def pJ:kK X (binaryOp .FloorDiv) (rI (λ_ j=>0<j/\j<2 ^ 64) λi j=>.int (i / j)):=FG λi j _ _ _ _ _ a q=>by
 let e:i.fdiv j=i / j:=Int.fdiv_eq_ediv_of_nonneg _ (x8 a.1)
 rw [<- e] at q
 refine floordiv_int (Int.ne_of_gt a.1) q (.inl (PyProof.noPylong_of_log2 ?_))
 let c:j.natAbs<2 ^ 64:=∎
 let b:j.natAbs≠0:=∎
 let d:j.natAbs.log2<64:=(Nat.log2_lt b).mpr c
 omega
end
end L2
namespace HT
open PySem PyProof.Rows
section
variable {prog:Program} {w:World} {A:Around} {E:Value->Shared->Prop} {s:Shared}
def getItem_tuple_all {t sl:Addr} {items:Array Value} {j i:Value} {lo hi:Option Int} {Q:Value->Shared->Prop} (a:IsTup s.heap t items) (f:s.heap.IsSliceOf sl j i .none) (pl:IsPart j lo) (l:IsPart i hi)
  (g:sIx items.size 0 lo=0/\sIx items.size items.size hi=items.size) (h:Q (.ref t) s):wpAny (model prog w) A (getItem (.ref t) (.ref sl)) Q E s:=by
 let (m,e,c,k):=id f;let d:s.TypeIs (.ref sl) "slice":={(m),e,c};unfold getItem
 try with_reducible refine y0 ?_
 first|refine c7 (i0 ?_)|skip
 refine c7 (wpAny_sequenceKey a.typeIs (by decide) ?_);refine c7 (B1 (name:=Str.ofString "__getitem__") a.typeIs C8
  (D4 C8 a.typeIs entry_tuple_getitem ?_ (args_tuple_getitem _ _)));show wpAny _ _ (Builtin.Tuple.tupleItemsOf (.ref t) >>= _) _ _ s;refine c7 (tupleItemsOf_ a ?_);refine c7 (wpAny_typeOf d ?_);rw [if_pos (by decide)];refine c7 (gT f pl l ?_);let b:(((sIx items.size 0 lo:Nat):Int) == 0 && (1:Int) == 1 && (sIx items.size items.size hi-sIx items.size 0 lo) == items.size)=true:=by
  rw [g.1,g.2];simp
 show wpAny _ _ (if (((sIx items.size 0 lo:Nat):Int) == 0 && (1:Int) == 1 && (sIx items.size items.size hi-sIx items.size 0 lo) == items.size)=true then _ else _) _ _ s;rw [if_pos b];let (o,p,r,n,q):=id a;refine c7 ?_;unfold Builtin.Tuple.tupleIsExact;refine c7 (wpAny_typeOf a.typeIs ?_);refine i0 ?_;rw [if_pos (by decide)];refine c7 (F4 ?_);exact i0 {_,rfl,i0 h}
end
end HT
namespace L2
open PySem PySem.Spec PyProof.Rows
section
variable {X:Cx}
def JA:V->Option Int->Option Int->Hp->VK->Prop:=λx lo hi H Q=>∃a xs,x=.ref a/\H a=some (.tup xs)/\∀p H',aN H H'->H' p=some (.tup (jD xs lo hi))->Q (.ref p) H'
def yQ:HQ X JA:=by
 intro c s σ H x v z u j k B Q I n l m o h;let (a,b,rfl,i,q):=h;by_cases f:HT.sIx b.length 0 j=0/\HT.sIx b.length b.length k=b.length
 ·cases (show v=Value.ref a from n);let (g,r,t,C):=I.tuple (bN.of i);let d:g.toArray.size=b.length:=by rw [j6];exact r.length.symm
  refine {"tuple",_,PyProof.Rows.slot_tuple_getitem.lookup,t.typeIs,?_};refine HT.getItem_tuple_all t l m o (by rw [d];exact f) {.ref a,H,I,rfl,q a H (aN.refl H) ?_};let e:jD b j k=b:=by
   unfold jD;rw [f.1,f.2];simp
  rw [e];exact i
 ·exact Yq c s σ H _ v z u j k B Q I n l m o {a,b,rfl,bN.of i,f,λp y=>q p _ (aJ y) aB}
end
abbrev Cx.blkF (X:Cx) (NB:List Str) (scope:Scope) (cl:List (Str × Addr)) (C:Addr) (s:Shared) (H:Hp) (fp:List Addr) (pn:List (Addr × Obj)):Cx:=
 { X with N:=NB,s₀:=s,H₀:=H,env:=compEnvC scope cl C X.env,outer:=X.stack,ex:=fp,fn:=λ_=>false,pn:=pn,xe:=λ_ _=>False }
def dZ (n:Nat) (js:List Nat) (σ:St):St:=List.replicate n none++js.map λj=>(σ[j]?).join
def tE (n:Nat) (js:List Nat) (wi:TI) (g:TG) (tc:TT) (te:TE):TE:=λσ H Q=>wi σ H λJ H1=>∀acc,H1 acc=none ->
 ∃W:Nat->Nat->List V->Hp->Prop,(∃m,W 0 m [] (aS H1 acc (.lst [])))/\∀i m ys H,W i m ys H->H acc=some (.lst ys) /\
  ((J.stop i H/\Q (.ref acc) H)\/(J.go i H/\∀x H',J.yld i H x H'->g x (dZ n js σ) H' λσ2 H2=>σ2.drop n=(dZ n js σ).drop n/\tc σ2 H2 λb H3=>
   if b=true then te σ2 H3 λy H4=>H4 acc=some (.lst ys)/\ys.length<sizeLine/\∃m',m'<m/\W (i+1) m' (ys++[y]) (aS H4 acc (.lst (ys++[y])))
   else ∃m',m'<m/\W (i+1) m' ys H3))
structure gB (X:Cx) (NB:List Str) (n:Nat) (js:List Nat) (scope:Scope) (cl:List (Str × Addr)):Prop where
 clo:closureFor scope X.env=pure cl
 sub:∀x c,cl.lookup x=some c->X.env.cells.lookup x=some c
 has:∀x,((relabel scope X.env).names.lookup x=some .cell\/(relabel scope X.env).names.lookup x=some .free)->(cl.lookup x).isSome=true
 len:NB.length=n+js.length
 nam:∀k j,js[k]?=some j->NB[n+k]?=X.N[j]?
 ck:∀x,BN (relabel scope X.env) x->x ∈ NB.drop n->((relabel scope X.env).names.lookup x=some .cell\/(relabel scope X.env).names.lookup x=some .free)/\(X.env.kindOf x=some .cell\/X.env.kindOf x=some .free)/\(cl.lookup x).isSome=true
section
variable {X:Cx} {NB:List Str} {n:Nat} {js:List Nat} {scope:Scope} {cl:List (Str × Addr)}
def mV (T:gB X NB n js scope cl) (σ:St):(dZ n js σ).length=NB.length:=by
 unfold dZ;rw [i6,A9,f8,T.len]
def qL {σ:St} {i:Nat} {v:V} (h:(dZ n js σ)[i]?=some (some v)):∃k j,i=n+k/\js[k]?=some j/\σ[j]?=some (some v):=by
 unfold dZ at h;rcases Nat.lt_or_ge i n with c|c
 ·rw [p7 (by rw [A9];exact c),List.getElem?_replicate,if_pos c] at h;cases h
 ·rw [u8 (by rw [A9];exact c),A9,i7] at h;cases hj:js[i-n]? with
  | none=>rw [hj] at h;cases h
  | some j=>
   rw [hj] at h;let h:some ((σ[j]?).join)=some (some v):=h;let h:=Option.some.inj h;refine {i-n,j,∎,hj,?_};cases hs:σ[j]? with
   | none=>rw [hs] at h;cases h
   | some o=>
    rw [hs] at h;let h:o=some v:=h;rw [h]
def xN {pins:List (Addr × Obj)} {σ:St} {H:Hp} {s:Shared} {h4:Heap} {tk:Nat} {C:List Addr} (I:aP X pins σ H s) (Y:scope.kind=.function) (T:gB X NB n js scope cl)
  (t:∀b ∈ C,lV X pins H b) (P:∀b ∈ C,b<s.heap.objs.size) {m:Str->Option Value} (Z:h4.Ns s.heap.objs.size m) (a:∀b o,s.heap.get? b=some o->h4.get? b=some o):
  aP (X.blkF NB scope cl s.heap.objs.size s H C (X.pn++pins)) [] (dZ n js σ) H { s with heap:=h4,toks:=tk }:=by
 let r:∀b,b≠X.env.locals->b ∉ X.fs->b ∉ iZ X.stack:=λb W K z=>(g7.mp (I.stkSub b z)).elim W K;let (m0,Q,A):=I.loc;refine {{I.ok.mod,Y,I.ok.glob,I.ok.blt,d7 _,λx y c l D=>I.ok.inj x y c (T.sub x c l) (T.sub y c D),λx q=>E8.mp (T.has x q),λx c q=>(nomatch q),I.ok.hd,I.ok.frames,.inl rfl,λb g=>{j8 (P b g),λx c q=>(t b g).2.2.2.2.1 x c (T.sub x c q)},I.bs,n8 I.ok.bsz I.sz,
  λb o q g=>?_,λb g=>r b (t b g).2.1 (t b g).2.2.1,I.stack,I.stkFree},rfl,I.bare,Un.kept a,{m,Z,λi x v l D M=>?_},λx c q=>?_,I.hok.fresh (d7 _),λx c q=>I.freeC x c (T.sub x c q),λp hp=>?_,I.hok.kept a,?_}
 ·rcases (t b g).2.2.2.1 with z|z
  ·exact I.ok.noex b o q z
  ·exact absurd (j7 (i5 q) (n8 I.ok.bsz z)) (v8 _)
 ·let (k,j,rfl,hj,S):=qL D;let l:NB[n+k]?=some x:=l
  let hx:X.N[j]?=some x:=by rw [<- T.nam k j hj];exact l
  let U:x ∈ NB.drop n:=g6 (i:=k) (by rw [o9];exact l);let (k1,G,k3):=T.ck x M U;let (c,F):=E8.mp k3;let (u,J,L):=A j x v hx S (G.elim (λz=>.inr (.inl z)) λz=>.inr (.inr z));refine {u,J,.inr {k1,c,F,?_}};rcases L with ⟨z,_⟩|⟨_,c',B,o,h,f⟩
  ·rcases G with w|w <;> (rw [w] at z;cases z)
  ·let e:c'=c:=Option.some.inj (B.symm.trans (T.sub x c F));subst e;exact {o,a _ _ h,f}
 ·let (v,o,h,f):=I.cell x c (T.sub x c q);exact {v,o,a _ _ h,f}
 ·let E:p ∈ X.pn++pins:=by simpa using hp
  let (q,n,ne,O,d):=I.pin p E;exact {a _ _ q,n,j8 (i5 q),r _ ne O,d}
 ·exact mV T σ
def sP {pins:List (Addr × Obj)} {σ m:St} {H H':Hp} {s s':Shared} {h2:Heap} {g:List Addr} {pl:List (Addr × Obj)} (I:aP X pins σ H s) (j:∀b ∈ g,lV X pins H b) (v:∀b ∈ g,b<s.heap.objs.size)
  (J:aP (X.blkF NB scope cl s.heap.objs.size s H g (X.pn++pins)) pl m H' s') (f:Heap.SameBut s.heap.objs.size s'.heap h2):aP X pins σ H' { s' with heap:=h2 }:=by
 let u:=J.base;let a:∀b o,s.heap.get? b=some o->b≠s.heap.objs.size:=λb o q=>j8 (i5 q);refine I.call' (s':={ s' with heap:=h2 }) (ch:=g) J.os {λb o q n d e=>(f.2 b (a b o q)).trans (u.keep b o q n d e),λb o q n d e=>?_,u.free,λb o q e=>?_,u.tups,u.frzs,u.tbls} (λb o q=>?_) J.bare λb d=>?_
 ·let (t,z):=u.slot b o q n d e;exact {t,(f.2 b (a b o q)).trans z}
 ·let (k,z):=u.there b o q e;exact {k,(f.2 b (a b o q)).trans z}
 ·refine(J.hok b o q).stay (λc y hc r=>(f.2 c ?_).trans r) (λ_ r=>r) λ_ _ r=>r;let h:H' s.heap.objs.size=none:=J.free;rintro rfl;rcases hc with rfl|hc
  ·rw [h] at q;cases q
  ·rw [h] at hc;cases hc
 ·let (w,l,x,p,f4,i):=j b d;exact {(p),l,f4,i}
def cS {P tg E:Expr} {O:List Expr} {pos:Pos} {wi:TI} {g:TG} {tc:TT} {te:TE} (hk:scope.kind=.function) (a6:∀x ∈ scope.names,x.2≠.cell)
  (N:∀x ∈ scope.names,x.2=.local->scope.names.lookup x.1=some .local) (_:(0:Nat)=0) (T:gB X NB n js scope cl) (hi:PI X tg E wi)
  (hg:∀C s H B pn,PG (X.blkF NB scope cl C s H B pn) tg g) (ht:∀C s H B pn,HS (X.blkF NB scope cl C s H B pn) O tc) (he:∀C s H B pn,PE (X.blkF NB scope cl C s H B pn) P te)
  (hs:∀x,foldedSetIterable E X.env x=pure x:=by intro _;rfl):PE X (.ListComp P [{tg,E,O,0}] scope pos) (tE n js wi g tc te):=by
 intro a s σ H Q I h;rw [eval_ListComp];refine wpAny_comprehension_free (use:=none) rfl hs T.clo hk N (gK (hi s σ H _ I h) λv s1 h1=>gK h1 λb1 t h2=>?_);let (it,B,tn,J,G,rfl,I2,U,a5,f2,h2):=h2;let av:∀b ∈ B,b<t.heap.objs.size:=λb D=>by
  let (o,q,_):=U.obj 0 _ a5 b D;exact i5 q
 refine B6 ?_;let hz:G t.heap.objs.size=none:=I2.hok.fresh (d7 _);let (W,(m0,w0),ah):=h2 t.heap.objs.size hz;let I3:aP X a σ (aS G t.heap.objs.size (.lst [])) { t with heap:=t.heap.push { cls:=.type "list",dict:=none,data:=.seq ([]:List Value).toArray } }:=
  I2.laid (t':=t.toks) (λb o q=>f1 _ q) (d7 _) {i8 _,[],0,.nil,j3 _ rfl}
 generalize hs3:({ t with heap:=t.heap.push { cls:=.type "list",dict:=none,data:=.seq ([]:List Value).toArray } }:Shared)=f at I3 ⊢
 let Z:∀b o,t.heap.get? b=some o->f.heap.get? b=some o:=λb o q=>by rw [<- hs3];exact f1 _ q
 let f3:∀b ∈ B,lV X a (aS G t.heap.objs.size (.lst [])) b:=λb D=>{by rw [aC (j8 (av b D))];exact(f2 b D).1,(f2 b D).2};let a7:∀b ∈ B,b<f.heap.objs.size:=λb D=>by
  let (o,q,_):=U.obj 0 _ a5 b D;exact i5 (Z b o q)
 refine wpAny_newFunctionEnv a6 (by intro y hy;simp at hy) (λh4 ax aj=>?_) hk;let F:∀b o,f.heap.get? b=some o->h4.get? b=some o:=λb o q=>(aj.2 b (j8 (i5 q))).trans (f1 _ q);let I4:=xN (tk:=f.toks+([]:List (Str × Value)).length) I3 hk T f3 a7 ax F;let a9:tn 0 h4:=U.keep _ _ _ a5 λb D o q=>F b o (Z b o q);let a4:∀{Y:Hp},(∀b ∈ B,Y b=none)->∀b ∈ B,lV (X.blkF NB scope cl f.heap.objs.size f (aS G t.heap.objs.size (.lst [])) B (X.pn++a)) [] Y b:=λhn b D=>by
  let (g0,g1,g2,g3,g4,g5):=f3 b D;exact {hn b D,j8 (a7 b D),λz=>(g7.mp (I3.stkSub b z)).elim g1 g2,.inl D,λx c q=>g4 x c (T.sub x c q),λp hp=>g5 p (by simpa using hp)}
 let a0:∀s5:Shared,s5={ f with heap:=h4,toks:=f.toks+([]:List (Str × Value)).length }->codeAny (model X.prog X.w) X.A (.compLoop (.ListComp P [{tg,E,O,0}] scope pos) 0 (.ref it) (.ref t.heap.objs.size) (compEnvC scope cl f.heap.objs.size X.env))
   (compPost (model X.prog X.w) X.A X.xe none (EP X a σ Q) (.ref t.heap.objs.size) f.heap.objs.size) s5:=by
  rintro s5 rfl;refine codeAny_loop rfl (λk s'=>∃i ys Y,aP (X.blkF NB scope cl f.heap.objs.size f (aS G t.heap.objs.size (.lst [])) B (X.pn++a)) [] (dZ n js σ) Y s'/\tn i s'.heap/\(∀b ∈ B,Y b=none)/\W i k ys Y)
   (λk s6 hI=>?_) m0 {0,[],_,I4,a9,λb D=>(f3 b D).1,w0}
  let (i,ys,H6,I6,af,a8,w6):=hI;show wpAny _ _ ((compTurn (.ListComp P [{tg,E,O,0}] scope pos) 0 (.ref it) (.ref t.heap.objs.size) (compEnvC scope cl f.heap.objs.size X.env)).onRaise (λx=>do noteFrame x (compEnvC scope cl f.heap.objs.size X.env);theTreesLotGoes x)) _ _ s6;refine wpAny_noted ?_;rw [compTurn_list];refine c7 (N3 (c7 ?_));let (az,ap):=ah i k ys H6 w6;rcases ap with ⟨ag,q⟩|⟨go,ac⟩
  ·refine gK (U.done (X.blkF NB scope cl f.heap.objs.size f (aS G t.heap.objs.size (.lst [])) B (X.pn++a)) rfl rfl rfl rfl i [] s6 _ H6 _ I6 (a4 a8) af ag) λr s7 K=>?_;let (hr,I7):=K;subst hr;let (m,hm,_):=I7.loc;exact i0 {m,hm,λh' au=>{.ref t.heap.objs.size,H6,sP I3 f3 a7 I7 au,rfl,q}}
  ·refine gK (U.item (X.blkF NB scope cl f.heap.objs.size f (aS G t.heap.objs.size (.lst [])) B (X.pn++a)) rfl rfl rfl rfl i [] s6 _ H6 _ I6 (a4 a8) af go) λr s7 K=>?_;let (u,hr,h7):=K;subst hr;refine c7 (gK h7 λ_ s8 K=>?_);let (x,H8,I8,r8,y8,a1,ao):=K;let as:=I8.pinned (a4 ao) (U.obj _ _ a1);let gp:∀{L:St} {H9:Hp} {s9:Shared},aP (X.blkF NB scope cl f.heap.objs.size f (aS G t.heap.objs.size (.lst [])) B (X.pn++a)) ([]++gN B s8.heap) L H9 s9->tn (i+1) s9.heap/\∀b ∈ B,H9 b=none:=λI9=>
    ⟨U.keep _ _ _ a1 λb D o e=>(I9.pin (b,o) (i9 _ (i9 _ (eT D e)))).1,λb D=>by
     let (o,e,d):=U.obj _ _ a1 b D
     exact(I9.pin (b,o) (i9 _ (i9 _ (eT D e)))).2.1⟩
   let wk:∀{L:St} {H9:Hp} {s9:Shared},L.drop n=(dZ n js σ).drop n->aP (X.blkF NB scope cl f.heap.objs.size f (aS G t.heap.objs.size (.lst [])) B (X.pn++a)) ([]++gN B s8.heap) L H9 s9->aP (X.blkF NB scope cl f.heap.objs.size f (aS G t.heap.objs.size (.lst [])) B (X.pn++a)) [] (dZ n js σ) H9 s9:=λ{L H9 s9} hd I9=>
    I9.unpinned.weak (by rw [mV T,I9.len]) λk v z=>by
     let (k',j,rfl,_,_):=qL z;let e:=congrArg (λl=>l[k']?) hd;simp only [o9] at e;rw [e];exact z
   refine c7 (v7 (hg _ _ _ _ _ s8 _ H8 x u _ as r8 (ac x H8 y8)) (λ_ s9 hq=>?_) λ_ _ z=>z.elim);let (L,H9,I9,ad,q9):=hq;refine c7 (v7 (ht _ _ _ _ _ s9 L H9 _ I9 q9) (λok ak hq=>?_) λ_ _ z=>z.elim);let (ae,M,S):=hq;cases ok with
   | false=>
    rw [if_neg (by simp)] at S;let (m',a2,ay):=S;exact i0 {rfl,m',a2,i+1,ys,ae,wk ad M,(gp M).1,(gp M).2,ay}
   | true=>
    rw [if_pos rfl] at S;refine c7 (c7 (v7 (he _ _ _ _ _ ak L ae _ M S) (λy am hq=>?_) λ_ _ z=>z.elim));let (yv,an,ar,ry,aa,ai,m',a2,al):=hq;let mt:=cU (X:=X.blkF NB scope cl f.heap.objs.size f (aS G t.heap.objs.size (.lst [])) B (X.pn++a)) ([]++gN B s8.heap) am L an (.ref t.heap.objs.size) [yv] (.ref t.heap.objs.size) [y] (λ_ Y=>W (i+1) m' (ys++[yv]) Y) ar rfl (.cons ry .nil) {_,ys,yv,rfl,rfl,aa,ai,al};refine c7 (v7 mt (λ_ b2 hq=>?_) λ_ _ z=>z.elim);let (b0,aq,a3,_,aw):=hq;exact i0 (i0 {rfl,m',a2,i+1,_,aq,wk ad a3,(gp a3).1,(gp a3).2,aw})
 exact codeAny_compStart_list (a0 _ rfl) (U.self _ 0 _ _ _ a9 (a0 _ rfl))
def JQ (K:PySem.W.Frag) (tl:TE):TI:=λσ H R=>tl σ H λx H1=>∃a,x=.ref a/\(((∃xs,cZ K H1 a xs)/\R (Vj K a) H1)\/((∃xs,bN K H1 a xs)/\R (Vi K a) H1))
def Zp {u l:Expr} {r:TE} (B:PE X l r) (g:X.calm=true:=by rfl):PI X u l (JQ X.K r):=by
 intro m s σ H R I h;refine eH (B s σ H _ I h) λv c x t d y j=>?_;let (a,e,j):=j;subst e;cases y;rcases j with ⟨⟨A,k⟩,q⟩|⟨⟨A,k⟩,q⟩
 ·let (f,z,p,w):=d.list k;refine M4 p.isList ?_;refine {c.heap.objs.size,[c.heap.objs.size],_,_,t,rfl,d.kept (t':=c.toks) λb o e=>f1 _ e,rQ a _ (I.ok.hd g),{_,j3 _ rfl,rfl,rfl},λb i=>?_,q};let e:b=c.heap.objs.size:=by simpa using i
  subst e;exact d.fpOk (d7 _) (d.hok.fresh (d7 _))
 ·let (f,z,p,w):=d.tuple k;refine P6 (show c.heap.IsTuple a f.toArray from p) ?_;refine {c.heap.objs.size,[c.heap.objs.size],_,_,t,rfl,d.kept (t':=c.toks) λb o e=>f1 _ e,oV a _ (I.ok.hd g),{_,j3 _ rfl,rfl,rfl},λb i=>?_,q};let e:b=c.heap.objs.size:=by simpa using i
  subst e;exact d.fpOk (d7 _) (d.hok.fresh (d7 _))
end
end L2
namespace L2
open PySem PySem.Spec PyProof.Rows PySem.W
open Classical in
section
variable {prog:Program} {w:World} {A:Around} {E:Value->Shared->Prop} {s:Shared}
end
theorem kH {α β γ:Type} {F:β->γ->Prop} (f:α->β) (g:α->γ):∀{l:List α},(∀i ∈ l,F (f i) (g i))->Paired F (l.map f) (l.map g)
 | [],_=>.nil
 | a::l,h=>.cons (h a (g8 ..)) (kH f g λi b=>h i (d0 _ b))
section
variable {X:Cx}
section
variable {prog:Program} {w:World} {A:Around} {E:Value->Shared->Prop}
end
section
variable {pos:Pos}
end
def aP.byNews {pins:List (Addr × Obj)} {σ:St} {H:Hp} {s:Shared} {h':Heap} {tk:Nat} {m:Str->Option Value} (I:aP X pins σ H s) (j:s.heap.Ns X.env.locals m) (F:Fr X.base X.env.locals h' m) (N:News X.base X.env.locals h' (oJ X.base s.heap X.env.locals)):
  aP X pins σ H { s with heap:=h',toks:=tk }:=by
 let a:∀b o,b≠X.env.locals->s.heap.get? b=some o->h'.get? b=some o:=λb o d e=>by
  cases z:X.base.get? b with
  | some f=>
   have:=I.bk b f z;rw [e] at this;cases this;exact F.keep b o z
  | none=>exact(N (b,o) (iY d z e)).1
 refine I.step (g':=s.gens) (d':=s.drawn) (ch:=[]) (λ_ z=>nomatch z) (λb o d _ _ e _=>a b o d e) (λb o d _ _ e _=>{o.slots,a b o d e}) (λb o _ e n=>n) (λb o _ e=>?_) (λ_ _ e=>e) (λ_ _ _ e=>e) (λb k e=>{#[],by simpa using e}) (λh g=>?_) (λb o q=>?_) I.bare
 ·by_cases d:b=X.env.locals
  ·subst d;let (f,_,_,z,_):=F.ns;exact {(f),z}
  ·exact {o,a b o d e}
 ·have:h=m:=funext λx=>g.agree j x;subst this;exact F.ns
 ·refine(I.hok b o q).stay (λc i hc r=>a c i ?_ r) (λ_ r=>r) λ_ _ r=>r;rintro rfl;rcases hc with hc|hc
  ·rw [<- hc,I.free] at q;cases q
  ·rw [I.free] at hc;cases hc
theorem mU:∀{bs:List Bool} {us:List Value},bG (bs.map V.bl) us->LSm.BoolsAre us bs
 | [],_,.nil=>.nil
 | b::bs,_,.cons e r=>by
  cases (show _=Value.bool b from e)
  exact .cons b (mU r)
def Ny (j:X.calm=true):gC X (.builtin "any") (λc H Q=>∃(a:Addr) (bs:List Bool),c=[.ref a]/\cZ X.K H a (bs.map V.bl)/\Q (.bl (bs.any id)) H):=by
 intro b s σ H c o Q I r h;let (a,bs,rfl,l,q):=h;let (u,rfl,i):=iL r;cases i;let (d,k,g,p):=I.list l;let (m,F):=I.fr;exact LSm.any_bools F pO (I.ok.hd j) g.isList (mU k) λt n e f=>{.bl _,H,I.byNews F.ns e f,rfl,q}
def qI (j:X.calm=true):gC X (.builtin "all") (λc H Q=>∃(a:Addr) (bs:List Bool),c=[.ref a]/\cZ X.K H a (bs.map V.bl)/\Q (.bl (bs.all id)) H):=by
 intro b s σ H c o Q I r h;let (a,bs,rfl,l,q):=h;let (u,rfl,i):=iL r;cases i;let (d,k,g,p):=I.list l;let (m,F):=I.fr;exact LSm.all_bools F pO (I.ok.hd j) g.isList (mU k) λt n e f=>{.bl _,H,I.byNews F.ns e f,rfl,q}
theorem bL.get {P:Program} {w:World} {H:Hp} {h:Heap} {a:Addr} {o:HO} (x:bL P w H h a o):∃u,h.get? a=some u:=by
 cases o with
 | lst xs=>let (_,_,_,_,e):=x;exact {_,e}
 | tup xs=>let (_,_,_,o,e,_):=x;exact {_,e}
 | dK kvs=>let (_,_,_,_,o,_,_,e,_):=x;exact {_,e}
 | dT kvs=>let (_,_,_,_,o,_,_,e,_):=x;exact {_,e}
 | set S n=>let (o,_,_,_,e,_):=x;exact {_,e}
 | ins C dx fs=>let (_,_,_,e,_):=x;exact {_,e}
 | own y=>let (_,e):=x;exact {_,e}
 | xd fs=>let (_,(_,_,_,e,_),_):=x;exact {_,e}
 | rng lo hi=>let (_,_,_,e):=x;exact {_,e}
 | frz ob u=>let (e,_):=x;exact {_,e}
 | tbl ps=>exact {_,show h.get? a=some _ from x}
 | met f y=>exact {_,show h.get? a=some _ from x}
 | ext φ=>let (_,(_,e),_):=x;exact {_,e}
def aP.byNewsL {pins:List (Addr × Obj)} {σ:St} {H:Hp} {s:Shared} {h':Heap} {tk:Nat} {m:Str->Option Value} {D:Addr} {zs:List V} (I:aP X pins σ H s) (A:s.heap.Ns X.env.locals m) (h:h'.Ns X.env.locals m)
  (a:∀b o,b≠X.env.locals->s.heap.get? b=some o->h'.get? b=some o) (j:s.heap.get? D=none) (C:zs.length<=sizeLine) {g:List Value} {n:Nat} (p:bG zs g) (i:h'.get? D=some { cls:=.type "list",data:=.seq g.toArray n }):
  H D=none/\aP X pins σ (aS H D (.lst zs)) { s with heap:=h',toks:=tk }:=by
 let k:H D=none:=by
  cases z:H D with
  | none=>rfl
  | some o=>
   let (u,e):=(I.hok D o z).get;rw [j] at e;cases e
 refine {k,?_};let B:∀b o,s.heap.get? b=some o->b≠D:=λb o e z=>by
  rw [z,j] at e;cases e
 let d:∀b o,H b=some o->b≠D:=λb o e z=>by
  rw [z,k] at e;cases e
 refine I.step (g':=s.gens) (d':=s.drawn) (ch:=[]) (λ_ z=>nomatch z) (λb o f _ _ e _=>a b o f e) (λb o f _ _ e _=>{o.slots,a b o f e}) (λb o _ e n=>by rw [aC (B b o e)];exact n) (λb o _ e=>?_) (λb v e=>by rw [aC (d b _ e)];exact e) (λb o u e=>by rw [aC (d b _ e)];exact e) (λb E e=>{#[],by rw [aC (d b _ e)];simpa using e}) (λt l=>?_) (λb o q=>?_) I.bare
 ·by_cases f:b=X.env.locals
  ·subst f;let (y,_,_,z,_):=h;exact {(y),z}
  ·exact {o,a b o f e}
 ·have:t=m:=funext λx=>l.agree A x;subst this;exact h
 ·by_cases f:b=D
  ·subst f;rw [aB] at q;cases q;exact {(C),g,n,p,i}
  ·rw [aC f] at q;refine(I.hok b o q).stay (λc w hc r=>a c w ?_ r) (λc e=>by rw [aC (d c _ e)];exact e) λc v e=>by rw [aC (d c _ e)];exact e
   rintro rfl;rcases hc with hc|hc
   ·rw [<- hc,I.free] at q;cases q
   ·rw [I.free] at hc;cases hc
theorem wR:∀{ns:List Int} {us:List Value},bG (ns.map V.int) us->IntsAre us ns
 | [],_,.nil=>.nil
 | n::ns,_,.cons {(t),e} r=>by
  subst e
  exact .cons n t (wR r)
def rZ:kK X (compareOp .LtE) (λx y H Q=>∃i j,x=.str i/\y=.str j/\Q (.bl (!decide (j.cps.toList<i.cps.toList))) H):=by
 intro a s σ H x y v u Q I c b h;let (i,j,rfl,rfl,q):=h;let (t,rfl):=c;let (d,rfl):=b;exact PySem.P.le_str {.bl _,H,I,rfl,q}
section
variable {prog:Program} {w:World} {A:Around} {E:Value->Shared->Prop} {s:Shared}
def yF {α:Type} {M:Model} {c:Prop} [Decidable c] {a b:Sem α} {Q:α->Shared->Prop} (d:c->wpAny M A a Q E s) (h2:¬ c->wpAny M A b Q E s):wpAny M A (if c then a else b) Q E s:=by
 split
 ·exact d ‹_›
 ·exact h2 ‹_›
def Ag {t:Addr} {items:Array Value} {i:Int} {u:Tok} {Q:Value->Shared->Prop} (ht:IsTup s.heap t items) (hi:Builtin.SmallTypes.fitsIndex i=true)
  (hQ:∀h':Heap,IsEnum h' (s.heap.objs.size+1) s.heap.objs.size i .none->h'.IsTupleIter s.heap.objs.size t 0->h'.objs.size=s.heap.objs.size+2->(∀b o,s.heap.get? b=some o->h'.get? b=some o)->Q (.ref (s.heap.objs.size+1)) { s with heap:=h' }):
  wpAny (model prog w) A (call (.type "enumerate") [.ref t] [("start",.int i u)]) Q E s:=by
 refine D9 (codeAny_of_tree ?_);refine i0 {P8 _ callType_meets._proof_1_1,C9 F.entry_type_call ?_};rw [Around.under_plain (weight_type_call_type "enumerate" [.ref t] [("start",.int i u)]) (units_type_call_type "enumerate" [.ref t] [("start",.int i u)])];let ft:=F.called_enumerate;unfold Builtin.«type.__call__»;refine B7 (by decide) ?_;refine B7 (by rw [ft.canCreate];decide) ?_;let hct:checkTypeCall "enumerate" { pos:=[.ref t],kw:=[("start",.int i u)] }=pure ():=by rfl
 let (c,tl,hmro):=ft.mro;let hmade:=ft.made;refine c7 (B5 hct ?_);refine c7 (B5 hmro ?_);refine B7 (by simp) ?_;refine c7 (B5 hmade ?_);refine c7 (i0 ?_);refine c7 (y0 ?_);let hcn:checkBuiltinCall "enumerate.__new__" { pos:=[Value.type "enumerate",.ref t],kw:=[("start",.int i u)] }=pure ():=by kernel_rfl
 refine D9 (K1 ft.plain F.entry_enumerate_new (B5 hcn ?_));unfold Builtin.«enumerate.__new__»;let hnc:Builtin.SmallTypes.newClass "enumerate" { pos:=[Value.type "enumerate",.ref t],kw:=[("start",.int i u)] }=pure (Value.type "enumerate",[.ref t]):=by rfl
 refine c7 (B5 hnc ?_);refine P2 (by decide) ?_;refine c7 ?_;unfold Builtin.SmallTypes.calledThroughType;refine c7 (wpAny_stack_any λst=>i0 ?_);let rest:∀(R:PySem.Fin->Shared->Prop) (E':Value->Shared->Prop),(∀h':Heap,IsEnum h' (s.heap.objs.size+1) s.heap.objs.size i .none->h'.IsTupleIter s.heap.objs.size t 0->h'.objs.size=s.heap.objs.size+2->(∀b o,s.heap.get? b=some o->h'.get? b=some o)->R (PySem.Fin.done (Flow.ret (.ref (s.heap.objs.size+1)))) { s with heap:=h' }) ->
   wpAny (model prog w) A.in1.in1 (do
    let obj <- Builtin.SmallTypes.indexObject "enumerate.__new__" (Value.int i u)
    let x <- asInt? obj
    match x with
    | some i=>
     if (!Builtin.SmallTypes.fitsIndex i)=true then do
      rule "enumerate.__new__.huge-start"
      match obj with
      | Value.int _ _=>do
       let given <- pure obj
       let it <- pyIter (.ref t)
       let r <- Builtin.SmallTypes.newRecord (Value.type "enumerate") (Builtin.SmallTypes.ownedTupleFields++[it,rawInt i,given,Value.none])
       ret r
      | _=>do
       let given <- mkInt i
       let it <- pyIter (.ref t)
       let r <- Builtin.SmallTypes.newRecord (Value.type "enumerate") (Builtin.SmallTypes.ownedTupleFields++[it,rawInt i,given,Value.none])
       ret r
     else do
      let it <- pyIter (.ref t)
      let r <- Builtin.SmallTypes.newRecord (Value.type "enumerate") (Builtin.SmallTypes.ownedTupleFields++[it,rawInt i,Value.none,Value.none])
      ret r
    | none=>do
     let _ <- (unsupported "internal:enumerate.__new__":Sem Unit)
     let it <- pyIter (.ref t)
     let r <- Builtin.SmallTypes.newRecord (Value.type "enumerate") (Builtin.SmallTypes.ownedTupleFields++[it,rawInt 0,Value.none,Value.none])
     ret r) R E' s:=λR E' hR=>by
  refine c7 (B5 (a:=Value.int i u) (by rfl) ?_);refine c7 (B5 (a:=some i) (by rfl) ?_);refine B7 (by rw [hi];decide) ?_;refine c7 (P6 (show s.heap.IsTuple t items from ht) ?_);refine c7 ?_;show wpAny _ _ (newObj (Value.type "enumerate") (Data.fields #[Value.none,Value.bool false,.ref s.heap.objs.size,rawInt i,Value.none,Value.none])) _ _ _;refine B6 ?_;refine i0 ?_;let sz:(s.heap.push { cls:=Value.type "tuple_iterator",data:=Data.fields #[Value.ref t,Value.int 0 0] }).objs.size=s.heap.objs.size+1:=by rw [D3]
  rw [sz];refine hR _ ?_ ?_ ?_ ?_
  ·rw [<- sz];exact j3 _ rfl
  ·exact {_,f1 _ (j3 _ rfl),rfl,rfl}
  ·rw [D3,sz]
  ·exact λb o e=>f1 _ (f1 _ e)
 refine yF (λ_=>?_) (λ_=>?_)
 all_goals
  refine c7 (B5 (a:=(Value.ref t,some (Value.int i u))) (by kernel_rfl) ?_);refine rest _ _ λh' e1 e2 e3 e4=>?_;show wpAny _ _ (isInstance (Value.ref (s.heap.objs.size+1)) (Value.type "enumerate") >>= _) _ _ _;refine c7 (wpAny_isInstance {_,e1,rfl} ft.sub ?_);refine B7 (by decide) ?_;refine c7 (y0 (B1 {_,e1,rfl} ft.init ?_));refine wpAny_call_entry_kw ft.init {_,e1,rfl} F.entry_object_init ?_ (by kernel_rfl);unfold Builtin.«object.__init__»;refine P2 (by rfl) ?_;refine c7 (wpAny_typeOf {_,e1,rfl} ?_);refine c7 (B5 ft.init.lookup ?_);refine c7 (B5 hmade ?_);refine B7 (by decide) ?_;refine B7 (by kernel_rfl) ?_;refine i0 {_,rfl,?_};refine B7 (by decide) ?_;refine i0 ?_;exact hQ h' e1 e2 e3 e4
def zQ {it t:Addr} {i:Nat} {items:Array Value} {x:Value} {Q:Value->Shared->Prop} (a:IsTupIter s.heap it t i) (l:IsTup s.heap t items) (g:items[i]?=some x)
  (h:∀e,IsTupIter e it t (i+1)->Heap.SameBut it s.heap e->Q x { s with heap:=e }):wpAny (model prog w) A (Builtin.SmallTypes.nextOf (.ref it)) Q E s:=by
 let (o,c,j,b):=id a;let (n,f,k,m,d):=id l;unfold Builtin.SmallTypes.nextOf;refine c7 (B1 a.typeIs slot_tupleiter_next (D4 slot_tupleiter_next a.typeIs entry_tupleiter_next ?_ (args_tupleiter_next _)));show wpAny _ _ (field (Value.ref it) 0 >>= _) _ _ _;refine c7 (A1 c b (x:=.ref t) rfl ?_);refine B7 (by rfl) ?_;refine c7 (A1 c b (x:=.int i 0) rfl ?_);refine c7 (L7 f d ?_);show wpAny _ _ (match items[((i:Int)).toNat]? with|some x=>_|none=>_) _ _ _;rw [G4,g];refine c7 (L6 c b (by simp) ?_);refine i0 {x,rfl,i0 (h _ {_,J4 _ c (O0 (L5 b _)),(Obj.cls_mapFields o _).trans j,?_} (K8 s.heap it _))};rw [L5 b];simp [rawInt]
def iX {it t:Addr} {i:Nat} {items:Array Value} {Q:Value->Shared->Prop} (m:A.handled=none) (a:IsTupIter s.heap it t i) (p:IsTup s.heap t items) (l:items[i]?=none)
  (j:∀g e,Heap.ExtBut it s.heap g->(∃o,g.get? e=some o/\o.cls=Value.type "StopIteration")->E (.ref e) { s with heap:=g }):wpAny (model prog w) A (Builtin.SmallTypes.nextOf (.ref it)) Q E s:=by
 let (o,c,u,d):=id a;let (v,h,n,q,f):=id p;unfold Builtin.SmallTypes.nextOf;refine c7 (B1 a.typeIs slot_tupleiter_next (D4 slot_tupleiter_next a.typeIs entry_tupleiter_next ?_ (args_tupleiter_next _)));show wpAny _ _ (field (Value.ref it) 0 >>= _) _ _ _;refine c7 (A1 c d (x:=.ref t) rfl ?_);refine B7 (by rfl) ?_;refine c7 (A1 c d (x:=.int i 0) rfl ?_);refine c7 (L7 h f ?_);show wpAny _ _ (match items[((i:Int)).toNat]? with|some x=>_|none=>_) _ _ _;rw [G4,l];refine c7 (F4 ?_);refine c7 (L6 c d (by simp) ?_);unfold Builtin.SmallTypes.stopIteration;refine c7 ?_;unfold newExc;refine c7 (wpAny_newTuple ?_ (i8 _));refine c7 (B5 rfl ?_);refine B6 ?_ (sizeOk_excFields _ _ _ _ _ _ _ _);unfold raiseNew;refine c7 (wpAny_handled ?_);rw [show A.in1.handled=none from m];refine wpAny_throw ?_;refine j _ _ (λb r k e=>?_) {_,j3 _ rfl,rfl};refine f1 _ (f1 _ ?_);rw [Heap.get?_update_ne _ _ _ _ k];exact e
def Gf {it t:Addr} {items:Array Value} (l:A.handled=none) (m:t≠it):Draws prog w A it [it,t] items.size (λi v=>items[i]?=some v) (λi h=>IsTupIter h it t i/\IsTup h t items) where
 live:=λi h ⟨⟨o,ho,_⟩,_⟩=>{(o),ho}
 frame:=λi h g ⟨⟨o,ho,r⟩,⟨d,a,e⟩⟩ k=>{{o,k it (by simp) o ho,r},{d,k t (by simp) d a,e}}
 item:=λi s Q E j b h=>zQ b.1 b.2 (q7 j) λg c f=>h _ g s.toks (q7 j) ⟨c,by
  let (d,a,e):=b.2
  exact {d,(f.2 t m).trans a,e}⟩ f
 done:=λs Q E b h=>iX l b.1 b.2 (by simp) h
def Fd {e it:Addr} {fp:List Addr} {n j:Nat} {i:Int} {P:Nat->Value->Prop} {St:Nat->Heap->Prop} {y:Value} {Q:Option Value->Shared->Prop} (D:Draws prog w A.in1 it fp n P St) (H:IsEnum s.heap e it i y) (K:St j s.heap) (Y:j<n) (J:e≠it) (X:e ∉ fp)
  (hQ:∀x t k,P j x->IsEnumOut t e it (i+1) x s.heap.objs.size->St (j+1) t->t.get? s.heap.objs.size=some { cls:=Value.type "tuple",data:=Data.seq #[Value.int i k,x] }->t.objs.size=s.heap.objs.size+1 ->
   (∀b o,b≠e->b≠it->s.heap.get? b=some o->t.get? b=some o)->Q (some (.ref s.heap.objs.size)) { s with heap:=t,toks:=k+1 }):wpAny (model prog w) A (pyNext (.ref e)) Q E s:=by
 let hT:s.TypeIs (.ref e) "enumerate":={_,H,rfl};show wpAny _ _ (_ >>= _) _ _ _;refine c7 (N4 (B1 hT J5 (D4 J5 hT F.entry_enumerate_next ?_ (F.args_enumerate_next_1 _))));unfold Builtin.«enumerate.__next__»;refine c7 (B5 (a:=(Value.ref e,[])) (by rfl) ?_);refine c7 (A1 H rfl rfl ?_);refine c7 (D.item j s _ _ Y K λx Z k hx M l=>?_);let m:=(l.2 e J).trans H;refine c7 (A1 m rfl rfl ?_);refine c7 (A1 m rfl rfl ?_);refine P2 (by rfl) ?_;refine c7 (wpAny_mkInt ?_);refine c7 (F6 m (by simp) λh2 O v=>?_);refine c7 (F6 O (by simp) λp I u=>?_);refine c7 (wpAny_newTuple ?_ (by show 2<=sizeLine;decide));let h:(p.push { cls:=Value.type "tuple",data:=Data.seq #[Value.int i k,x] }).get? e=some { cls:=Value.type "enumerate",data:=Data.fields #[Value.none,Value.bool false,Value.ref it,rawInt (i+1),Value.none,y] }:=f1 _ I;unfold Builtin.SmallTypes.ownedTupleIsFree;refine c7 (c7 (A1 h rfl rfl (i0 ?_)));refine P2 (by rfl) ?_;refine c7 (F4 ?_);refine c7 (A1 h rfl rfl ?_);refine c7 (F6 h (by simp) λh5 N C=>?_);unfold Builtin.SmallTypes.ownedTupleHandOut;refine c7 (c7 (F6 N (by simp) λh6 S G=>?_));refine F6 S (by simp) λr L B=>?_;refine c7 (P5 ?_);let d:p.objs.size=s.heap.objs.size:=u.1.trans (v.1.trans l.1);let T:(p.push { cls:=Value.type "tuple",data:=Data.seq #[Value.int i k,x] }).objs.size=s.heap.objs.size+1:=by rw [D3,d]
 let U:r.objs.size=s.heap.objs.size+1:=B.1.trans (G.1.trans (C.1.trans T));let el:e<s.heap.objs.size:=i5 H;let g:∀b o,b≠e->(p.push { cls:=Value.type "tuple",data:=Data.seq #[Value.int i k,x] }).get? b=some o->r.get? b=some o:=λb o c z=>(B.2 b c).trans ((G.2 b c).trans ((C.2 b c).trans z));let k1:∀b o,b≠e->Z.get? b=some o->r.get? b=some o:=λb o c z=>g b o c (f1 _ ((u.2 b c).trans ((v.2 b c).trans z)));refine i0 {_,rfl,?_};show wpAny _ _ (pure (some (Value.ref p.objs.size))) _ _ _;refine i0 ?_;rw [d];let f:r.get? e=some { cls:=Value.type "enumerate",data:=Data.fields #[rawInt (p.objs.size:Nat),Value.bool false,Value.ref it,rawInt (i+1),Value.none,x] }:=L;rw [d] at f;refine hQ x r k hx f (D.frame (j+1) Z r M λb c o z=>k1 b o (λq=>X (q ▸ c)) z) ?_ U λb o c W z=>k1 b o c ((l.2 b W).trans z);refine g _ _ (L4 el) ?_;rw [<- d];exact j3 _ rfl
def qY {e it t:Addr} {j:Nat} {i:Int} {items:Array Value} {c:Value} {Q:Option Value->Shared->Prop} (m:A.handled=none) (g:IsEnum s.heap e it i c) (f:IsTupIter s.heap it t j) (n:IsTup s.heap t items) (k:items[j]?=none)
  (l:∀b,Heap.ExtBut it s.heap b->Q none { s with heap:=b }):wpAny (model prog w) A (pyNext (.ref e)) Q E s:=by
 let h:s.TypeIs (.ref e) "enumerate":={_,g,rfl};show wpAny _ _ (_ >>= _) _ _ _;refine c7 (N4 (B1 h J5 (D4 J5 h F.entry_enumerate_next ?_ (F.args_enumerate_next_1 _))));unfold Builtin.«enumerate.__next__»;refine c7 (B5 (a:=(Value.ref e,[])) (by rfl) ?_);refine c7 (A1 g rfl rfl ?_);exact c7 (iX m f n k λb x d ⟨o,ho,hc⟩=>c7 (wpAny_isInstance {(o),ho,hc} isSubtype_stop (i0 (l b d))))
end
def aP.turnedL {pins:List (Addr × Obj)} {σ:St} {H:Hp} {s:Shared} {h':Heap} {tk:Nat} {ch:List Addr} {T:Addr} {zs:List V} (I:aP X pins σ H s) (d:∀b ∈ ch,lV X pins H b) (k:∀b o,b ∉ ch->s.heap.get? b=some o->h'.get? b=some o)
  (i:s.heap.objs.size<=T) (h:bL X.prog X.w (aS H T (.tup zs)) h' T (.tup zs)):aP X pins σ (aS H T (.tup zs)) { s with heap:=h',toks:=tk }:=by
 let m:H T=none:=I.hok.fresh i;let x:∀b o,s.heap.get? b=some o->b≠T:=λb o e z=>by
  have:=i5 e;rw [z] at this;exact absurd (j7 this i) (v8 _)
 let a:∀b o,H b=some o->b≠T:=λb o e z=>by
  rw [z,m] at e;cases e
 let g:X.env.locals ∉ ch:=λz=>(d _ z).2.1 rfl;refine I.step (g':=s.gens) (d':=s.drawn) (ch:=ch) (λb f=>{(d b f).2.2.2.1,(d b f).2.1,(d b f).2.2.2.2.1,(d b f).2.2.2.2.2}) (λb o _ _ hc e _=>k b o hc e) (λb o _ _ hc e _=>{o.slots,k b o hc e}) (λb o _ e n=>by rw [aC (x b o e)];exact n) (λb o hc e=>{o,k b o hc e}) (λb p e=>by rw [aC (a b _ e)];exact e) (λb o u e=>by rw [aC (a b _ e)];exact e) (λb y e=>{#[],by rw [aC (a b _ e)];simpa using e}) (λB j=>?_) (λb o q=>?_) I.bare
 ·let (o,l,v,z,r):=j;exact {o,l,v,k _ _ g z,r}
 ·by_cases f:b=T
  ·subst f;rw [aB] at q;cases q;exact h
  ·rw [aC f] at q;refine(I.hok b o q).stay (λc t hc r=>k c t ?_ r) (λc e=>by rw [aC (a c _ e)];exact e) λc p e=>by rw [aC (a c _ e)];exact e
   intro z;rcases hc with hc|hc
   ·rw [<- hc,(d c z).1] at q;cases q
   ·rw [(d c z).1] at hc;cases hc
def aP.turnedN {pins:List (Addr × Obj)} {σ:St} {H:Hp} {s:Shared} {h':Heap} {tk:Nat} {ch:List Addr} (I:aP X pins σ H s) (a:∀b ∈ ch,lV X pins H b) (k:∀b o,b ∉ ch->s.heap.get? b=some o->h'.get? b=some o):aP X pins σ H { s with heap:=h',toks:=tk }:=by
 let f:X.env.locals ∉ ch:=λz=>(a _ z).2.1 rfl;refine I.step (g':=s.gens) (d':=s.drawn) (ch:=ch) (λb d=>{(a b d).2.2.2.1,(a b d).2.1,(a b d).2.2.2.2.1,(a b d).2.2.2.2.2}) (λb o _ _ hc e _=>k b o hc e) (λb o _ _ hc e _=>{o.slots,k b o hc e}) (λb o _ e n=>n) (λb o hc e=>{o,k b o hc e}) (λb i e=>e) (λb o u e=>e) (λb m e=>{#[],by simpa using e}) (λp g=>?_) (λb o q=>?_) I.bare
 ·let (o,h,l,z,r):=g;exact {o,h,l,k _ _ f z,r}
 ·refine(I.hok b o q).stay (λc j hc r=>k c j ?_ r) (λc e=>e) λc i e=>e;intro z;rcases hc with hc|hc
  ·rw [<- hc,(a c z).1] at q;cases q
  ·rw [(a c z).1] at hc;cases hc
def HG (K:Frag) (t:Addr) (dC:Int):It:=
 ⟨λi H=>∃xs x,bN K H t xs/\xs[i]?=some x,λi H x H'=>∃T v,H T=none/\x=.ref T/\H'=aS H T (.tup [.int (dC+i),v])/\∀xs,bN K H t xs->xs[i]?=some v,λi H=>∃xs,bN K H t xs/\xs.length<=i⟩
def Eg {P:Program} {m:Option Value} {w:World} {K:Frag} {B:List Expr} {k1:Nat} {pos:Pos} {t e it:Addr} {dC:Int} (l:e≠it) (e0:m=none):Aj P w K m (.Tuple B k1 pos) (HG K t dC) [e,it] e (λi h=>(∃a,IsEnum h e it (dC+i) a)/\IsTupIter h it t i) where
 mem:=by simp
 obj:=λi h ⟨⟨a,d⟩,⟨o,G,_,hd⟩⟩ b hb=>by
  rcases g7.mp hb with rfl|hb
  ·exact {_,d,λv z=>by cases z}
  ·let e1:b=it:=by simpa using hb
   subst e1
   exact {o,G,λv z=>by rw [hd] at z;cases z}
 keep:=λi h h' ⟨⟨a,d⟩,⟨o,G,r⟩⟩ k=>{{a,k e (by simp) _ d},{o,k it (by simp) o G,r}}
 item:=by
  intro X T Z S Q i n s σ H E I J Y O;subst T Z S;let (xs,x,L,hx):=O;let (c,rv,p,hz):=I.tuple L;let (u,hu,ru):=rv.get hx;let ((a,d),f):=Y;let N:t≠it:=λz=>by
   let (o1,z1,z2,_):=f;let (o2,C,g,_):=p;rw [z,z1] at C;cases C;rw [z2] at g;injection g with g;exact absurd g (by decide)
  let a4:t≠e:=λz=>by
   let (o2,C,g,_):=p;rw [z,d] at C;cases C;injection g with g;exact absurd g (by decide)
  let D:Draws X.prog X.w X.A.in1 it [it,t] c.toArray.size (λi v=>c.toArray[i]?=some v) (λi h=>IsTupIter h it t i/\IsTup h t c.toArray):=Gf (Q.trans e0) N;let a3:i<c.toArray.size:=by
   have:=(c9.mp hu).1;simpa using this
  refine Fd D d {(f),p} a3 l (by simp [l,a4.symm]) λy h1 tk hy G a2 hT a5 kp=>{_,rfl,?_};let ey:y=u:=by
   have:c.toArray[i]?=some u:=by simpa using hu
   exact Option.some.inj (hy.symm.trans this)
  subst ey;refine wpAny_letOwnedTupleGo_enum G λh2 U j=>?_;let M:s.heap.objs.size≠e:=L4 (i5 d);let T2:h2.get? s.heap.objs.size=some { cls:=Value.type "tuple",data:=Data.seq #[Value.int (dC+i) tk,y] }:=(j.2 _ M).trans hT;let k2:∀b o,b ∉ [e,it]->s.heap.get? b=some o->h2.get? b=some o:=λb o hb z=>by
   let F:b≠e:=λq=>hb (by simp [q]);let a0:b≠it:=λq=>hb (by simp [q]);exact(j.2 b F).trans (kp b o F a0 z)
  refine {.ref s.heap.objs.size,aS H s.heap.objs.size (.tup [.int (dC+i),x]),I.turnedL J k2 (d7 _) {by show 2<=sizeLine;decide,[Value.int (dC+i) tk,y],.cons {_,rfl} (.cons ru .nil),{_,T2,rfl,_,rfl}},rfl,{_,x,I.hok.fresh (d7 _),rfl,rfl,λys a1=>by rw [I.tuple_inj a1 L];exact hx},{{y,?_},?_},λb hb=>?_}
  ·rw [show dC+((i+1:Nat):Int)=dC+i+1 by omega];exact U
  ·let (o,z,r):=a2.1;exact {o,(j.2 it l.symm).trans z,r}
  ·let lb:b<s.heap.objs.size:=by
    rcases g7.mp hb with rfl|hb
    ·exact i5 d
    ·let e1:b=it:=by simpa using hb
     subst e1;let (o,z,_):=f;exact i5 z
   rw [aC (j8 lb)];exact(J b hb).1
 done:=by
  intro X T Z S Q i n s σ H E I J Y O;subst T Z S;let (xs,L,hx):=O;let (c,rv,p,hz):=I.tuple L;let ((a,d),f):=Y;let hl:=rv.length;exact qY (Q.trans e0) d f p (by simp;omega) λh' eb=>{rfl,I.turnedN (tk:=s.toks) J λb o hb z=>eb b o (λq=>hb (by simp [q])) z}
 self:=λ_ _ _ _ _ ⟨⟨a,d⟩,_⟩ h=>wpAny_pyIter_enum d h
def GB (K:Frag) (ta td:TA):TI:=λσ H R=>ta σ H λxs H1=>td σ H1 λds H2=>∃(t:Addr) (d:Int),xs=[.ref t]/\ds=[.int d]/\Builtin.SmallTypes.fitsIndex d=true/\(∃ys,bN K H2 t ys)/\R (HG K t d) H2
def Cp {x:Str} {p pos c m:Pos} {a b:Expr} {l:List Expr} {k1:Nat} {C B:TA} (N:Gl X x) (J:X.mg x=none) (S:bootBuiltins x=some (.type "enumerate")) (ha:PA X [a] C) (Q:PK X [{some "start",b,c}] B) (U:x≠"__name__":=by decide) (o:(x == ("__debug__":Str))=false:=by decide)
  (k:(backToKw pos (keywordEach [{some "start",b,c}] X.env)).all (·.1.isSome)=true:=by rfl) (n:(backToKw pos (keywordEach [{some "start",b,c}] X.env)).filterMap (·.1)=[("start":Str)]:=by rfl)
  (T:starEach [a] X.env=(false,eval a X.env)::starEach [] X.env:=by rfl) (v:((backTo pos (starEach [a] X.env)).any (·.1) || (backToKw pos (keywordEach [{some "start",b,c}] X.env)).any (·.1.isNone))=false:=by rfl) (y:X.calm=true:=by rfl):
  PI X (.Tuple l k1 m) (.Call (.Name x p) [a] [{some "start",b,c}] pos) (GB X.K C B):=by
 intro f s σ H R I h;refine C1 (kR I N J S ?_ U o);refine PySem.W.callWith_of (P:=λg=>X.K.In g) v (λ_ _=>{.machine,.inr (.inl rfl),.now}) (PyProof.Rows.evalArgs_kw2 k (vF (ha f s σ H _ I h) λus O vs H1 Y r q=>?_) T);refine vF (Q pos f O σ H1 _ Y q) λws j zs F i Z z=>{i.kIn,?_};rw [n];let (t,d,rfl,rfl,hf,(ys,hq),z):=z;let (u,rfl,L):=r.one;cases L;let (u',rfl,tk,rfl):=Z.one;let (G,rv,pt,hz):=i.tuple hq;refine Ag pt hf λh' D M e3 e4=>?_;refine wpAny_pyIter_enum D ?_;let I3:aP X f σ F { j with heap:=h' }:=i.kept (t':=j.toks) e4;refine {j.heap.objs.size+1,[j.heap.objs.size+1,j.heap.objs.size],_,_,F,rfl,I3,Eg (t:=t) (dC:=d) (Nat.succ_ne_self _) (I.ok.hd y),{{.none,by rw [show d+((0:Nat):Int)=d by omega];exact D},M},λb hb=>?_,z};rcases g7.mp hb with rfl|hb
 ·exact i.fpOk (E6 _) (i.hok.fresh (E6 _))
 ·let e:b=j.heap.objs.size:=by simpa using hb
  subst e;exact i.fpOk (d7 _) (i.hok.fresh (d7 _))
end
end L2
namespace L2
open PySem PySem.Spec PyProof.Rows
section
variable {X:Cx}
end
section
variable {X:Cx} {NB:List Str} {n:Nat} {js:List Nat} {scope:Scope} {cl:List (Str × Addr)}
def tV {M tg E:Expr} {L:List Expr} {pos a5 py:Pos} {y:Str} {ix:Nat} {wi:TI} {g:TG} {tc:TT} {te:TE} (hN:X.N.Nodup) (aq:X.N[ix]?=some y) (b7:Au X.env.scope y) (hk:scope.kind=.function) (ae:∀x ∈ scope.names,x.2≠.cell)
  (a0:∀x ∈ scope.names,x.2=.local->scope.names.lookup x.1=some .local) (_:(0:Nat)=0) (T:gB X NB n js scope cl) (hi:PI X tg E wi)
  (hg:∀C s H G pn,PG (X.blkF NB scope cl C s H G pn) tg g) (ht:∀C s H G pn,HS (X.blkF NB scope cl C s H G pn) L tc) (he:∀C s H G pn,PE (X.blkF NB scope cl C s H G pn) M te)
  (as:swapsWith (.ListComp M [{tg,E,L,0}] scope pos) (some (.Name y py)) a5.line X.env=pure true:=by rfl)
  (hf:X.fn y=true\/X.env.scope.names.lookup y=some .local:=by first|exact .inl rfl|exact .inr rfl|assumption)
  (hs:∀x,foldedSetIterable E X.env x=pure x:=by intro _;rfl):PS X (.Assign [.Name y py] (.ListComp M [{tg,E,L,0}] scope pos) a5) (Ht (tE n js wi g tc te) (cI ix)):=by
 intro f s σ H D I h;rw [exec_Assign_Name_used _ _ _ _ as];refine c7 (N3 (c7 ?_));show wpAny _ X.A (do let _ <- comprehension (.ListComp M [{tg,E,L,0}] scope pos) scope X.env _ (newList []) false (eval E X.env) (some (assign (.Name y py) X.env))) _ _ s;refine c7 (v7 (wpAny_comprehension_free (use:=some (assign (.Name y py) X.env)) (Q:=λ_ s'=>SP X f D .next s') rfl hs T.clo hk a0 (gK (hi s σ H _ I h) λv s1 h1=>gK h1 λbd B h2=>?_)) (λ_ s' hq=>i0 (i0 hq)) λ_ _ e=>e);let (it,G,tn,J,P,rfl,I2,U,ac,f2,h2):=h2;let b5:∀b ∈ G,b<B.heap.objs.size:=λb F=>by
  let (o,q,_):=U.obj 0 _ ac b F;exact i5 q
 refine B6 ?_;let hz:P B.heap.objs.size=none:=I2.hok.fresh (d7 _);let (W,(m0,w0),ao):=h2 B.heap.objs.size hz;let I3:aP X f σ (aS P B.heap.objs.size (.lst [])) { B with heap:=B.heap.push { cls:=.type "list",dict:=none,data:=.seq ([]:List Value).toArray } }:=
  I2.laid (t':=B.toks) (λb o q=>f1 _ q) (d7 _) {i8 _,[],0,.nil,j3 _ rfl}
 generalize hs3:({ B with heap:=B.heap.push { cls:=.type "list",dict:=none,data:=.seq ([]:List Value).toArray } }:Shared)=t at I3 ⊢
 let a3:∀b o,B.heap.get? b=some o->t.heap.get? b=some o:=λb o q=>by rw [<- hs3];exact f1 _ q
 let f3:∀b ∈ G,lV X f (aS P B.heap.objs.size (.lst [])) b:=λb F=>{by rw [aC (j8 (b5 b F))];exact(f2 b F).1,(f2 b F).2};let af:∀b ∈ G,b<t.heap.objs.size:=λb F=>by
  let (o,q,_):=U.obj 0 _ ac b F;exact i5 (a3 b o q)
 refine wpAny_newFunctionEnv ae (by intro y hy;simp at hy) (λh4 b8 ar=>?_) hk;let O:∀b o,t.heap.get? b=some o->h4.get? b=some o:=λb o q=>(ar.2 b (j8 (i5 q))).trans (f1 _ q);let I4:=xN (tk:=t.toks+([]:List (Str × Value)).length) I3 hk T f3 af b8 O;let ah:tn 0 h4:=U.keep _ _ _ ac λb F o q=>O b o (a3 b o q);let aa:∀{H':Hp},(∀b ∈ G,H' b=none)->∀b ∈ G,lV (X.blkF NB scope cl t.heap.objs.size t (aS P B.heap.objs.size (.lst [])) G (X.pn++f)) [] H' b:=λhn b F=>by
  let (g0,g1,g2,g3,g4,g5):=f3 b F;exact {hn b F,j8 (af b F),λz=>(g7.mp (I3.stkSub b z)).elim g1 g2,.inl F,λx c q=>g4 x c (T.sub x c q),λp hp=>g5 p (by simpa using hp)}
 let a4:∀s5:Shared,s5={ t with heap:=h4,toks:=t.toks+([]:List (Str × Value)).length }->codeAny (model X.prog X.w) X.A (.compLoop (.ListComp M [{tg,E,L,0}] scope pos) 0 (.ref it) (.ref B.heap.objs.size) (compEnvC scope cl t.heap.objs.size X.env))
   (compPost (model X.prog X.w) X.A X.xe (some (assign (.Name y py) X.env)) (λ_ s'=>SP X f D .next s') (.ref B.heap.objs.size) t.heap.objs.size) s5:=by
  rintro s5 rfl;refine codeAny_loop rfl (λk s'=>∃i ys H',aP (X.blkF NB scope cl t.heap.objs.size t (aS P B.heap.objs.size (.lst [])) G (X.pn++f)) [] (dZ n js σ) H' s'/\tn i s'.heap/\(∀b ∈ G,H' b=none)/\W i k ys H')
   (λk s6 hI=>?_) m0 {0,[],_,I4,ah,λb F=>(f3 b F).1,w0}
  let (i,ys,H6,I6,am,ag,w6):=hI;show wpAny _ _ ((compTurn (.ListComp M [{tg,E,L,0}] scope pos) 0 (.ref it) (.ref B.heap.objs.size) (compEnvC scope cl t.heap.objs.size X.env)).onRaise (λx=>do noteFrame x (compEnvC scope cl t.heap.objs.size X.env);theTreesLotGoes x)) _ _ s6;refine wpAny_noted ?_;rw [compTurn_list];refine c7 (N3 (c7 ?_));let (bb,az):=ao i k ys H6 w6;rcases az with ⟨an,q⟩|⟨go,aj⟩
  ·refine gK (U.done (X.blkF NB scope cl t.heap.objs.size t (aS P B.heap.objs.size (.lst [])) G (X.pn++f)) rfl rfl rfl rfl i [] s6 _ H6 _ I6 (aa ag) am an) λr s7 S=>?_;let (hr,I7):=S;subst hr;let (m,hm,_):=I7.loc;let ba:aP X f σ H6 s7:=sP (h2:=s7.heap) I3 f3 af I7 {rfl,λ_ _=>rfl};let ad:H6 t.heap.objs.size=none:=I7.free;let K:=I3.fpOk (H':=H6) (d7 _) ad;refine i0 ?_;show wpAny _ _ (assign (.Name y py) X.env (.ref B.heap.objs.size)) _ _ _;refine wpAny_assign_Name (rT ba hN aq b7 (v:=.ref B.heap.objs.size) rfl (λs8 I8 a9=>?_) hf);let (a,b4,ha):=a9;let b3:t.heap.objs.size≠a:=by
    rcases ha with rfl|ha
    ·exact K.2.1
    ·exact λz=>K.2.2.2.2.1 _ _ ha z.symm
   refine {m,hm.sameBut b4 b3,λh9 a1=>{_,H6,?_,q}};refine I8.call' (s':={ s8 with heap:=h9 }) (ch:=[t.heap.objs.size]) rfl {λb o q n F he=>(a1.2 b (λz=>he (by simp [z]))).trans q,λb o q n F he=>{o.slots,(a1.2 b (λz=>he (by simp [z]))).trans q},λ_ _ _ n _=>n,λb o q he=>{o,(a1.2 b (λz=>he (by simp [z]))).trans q},λ_ _ q=>q,λ_ _ _ q=>q,λ_ ps q=>{#[],by rw [q];simp}} (λb o q=>?_) I8.bare λb F=>?_
   ·refine(I8.hok b o q).stay (λc w' hc r=>(a1.2 c ?_).trans r) (λ_ r=>r) λ_ _ r=>r;rintro rfl;rcases hc with rfl|hc
    ·rw [ad] at q;cases q
    ·rw [ad] at hc;cases hc
   ·let e:b=t.heap.objs.size:=by simpa using F
    subst e;exact {(K.2.2.2.1),K.2.1,K.2.2.2.2.1,K.2.2.2.2.2}
  ·refine gK (U.item (X.blkF NB scope cl t.heap.objs.size t (aS P B.heap.objs.size (.lst [])) G (X.pn++f)) rfl rfl rfl rfl i [] s6 _ H6 _ I6 (aa ag) am go) λr s7 S=>?_;let (u,hr,h7):=S;subst hr;refine c7 (gK h7 λ_ s8 S=>?_);let (x,H8,I8,r8,y8,a6,ay):=S;let b2:=I8.pinned (aa ay) (U.obj _ _ a6);let gp:∀{Y:St} {H9:Hp} {s9:Shared},aP (X.blkF NB scope cl t.heap.objs.size t (aS P B.heap.objs.size (.lst [])) G (X.pn++f)) ([]++gN G s8.heap) Y H9 s9->tn (i+1) s9.heap/\∀b ∈ G,H9 b=none:=λI9=>
    ⟨U.keep _ _ _ a6 λb F o e=>(I9.pin (b,o) (i9 _ (i9 _ (eT F e)))).1,λb F=>by
     let (o,e,d):=U.obj _ _ a6 b F
     exact(I9.pin (b,o) (i9 _ (i9 _ (eT F e)))).2.1⟩
   let wk:∀{Y:St} {H9:Hp} {s9:Shared},Y.drop n=(dZ n js σ).drop n->aP (X.blkF NB scope cl t.heap.objs.size t (aS P B.heap.objs.size (.lst [])) G (X.pn++f)) ([]++gN G s8.heap) Y H9 s9->aP (X.blkF NB scope cl t.heap.objs.size t (aS P B.heap.objs.size (.lst [])) G (X.pn++f)) [] (dZ n js σ) H9 s9:=λ{Y H9 s9} hd I9=>
    I9.unpinned.weak (by rw [mV T,I9.len]) λk v z=>by
     let (k',j,rfl,_,_):=qL z;let e:=congrArg (λl=>l[k']?) hd;simp only [o9] at e;rw [e];exact z
   refine c7 (v7 (hg _ _ _ _ _ s8 _ H8 x u _ b2 r8 (aj x H8 y8)) (λ_ s9 hq=>?_) λ_ _ z=>z.elim);let (Y,H9,I9,ak,q9):=hq;refine c7 (v7 (ht _ _ _ _ _ s9 Y H9 _ I9 q9) (λok au hq=>?_) λ_ _ z=>z.elim);let (al,Z,a2):=hq;cases ok with
   | false=>
    rw [if_neg (by simp)] at a2;let (m',a7,b9):=a2;exact i0 {rfl,m',a7,i+1,ys,al,wk ak Z,(gp Z).1,(gp Z).2,b9}
   | true=>
    rw [if_pos rfl] at a2;refine c7 (c7 (v7 (he _ _ _ _ _ au Y al _ Z a2) (λy aw hq=>?_) λ_ _ z=>z.elim));let (yv,ax,b1,ry,ai,ap,m',a7,av):=hq;let mt:=cU (X:=X.blkF NB scope cl t.heap.objs.size t (aS P B.heap.objs.size (.lst [])) G (X.pn++f)) ([]++gN G s8.heap) aw Y ax (.ref B.heap.objs.size) [yv] (.ref B.heap.objs.size) [y] (λ_ H'=>W (i+1) m' (ys++[yv]) H') b1 rfl (.cons ry .nil) {_,ys,yv,rfl,rfl,ai,ap,av};refine c7 (v7 mt (λ_ be hq=>?_) λ_ _ z=>z.elim);let (bc,b0,a8,_,b6):=hq;exact i0 (i0 {rfl,m',a7,i+1,_,b0,wk ak a8,(gp a8).1,(gp a8).2,b6})
 exact codeAny_compStart_list (a4 _ rfl) (U.self _ 0 _ _ _ ah (a4 _ rfl))
end
end L2
namespace L2
open PySem PySem.Spec PyProof.Rows PySem.W
theorem kI {α β:Type} {F:α->β->Prop}:∀{xs:List α} {c:List β},xs.length=c.length->(∀(j:Nat) x y,xs[j]?=some x->c[j]?=some y->F x y)->Paired F xs c
 | [],[],_,_=>.nil
 | [],_::_,h,_=>by simp at h
 | _::_,[],h,_=>by simp at h
 | a::xs,b::c,h,f=>.cons (f 0 a b rfl rfl) (kI (by simpa using h) λj x y d e=>f (j+1) x y (by simpa using d) (by simpa using e))
section
variable {X:Cx}
theorem vV:∀{cs:List Addr} {us:List Value},bG (cs.map V.ref) us->us=cs.map Value.ref
 | [],_,.nil=>rfl
 | c::cs,_,.cons r t=>by
  cases r
  rw [vV t]
  rfl
end
end L2
namespace L2
open PySem PySem.Spec PyProof.Rows PySem.W Builtin
section
variable {K:Frag} {x C:Addr} {prog:Program} {w:World} {A:Around} {E:Value->Shared->Prop} {s:Shared}
end
section
variable {X:Cx}
end
end L2
namespace L2
open PySem PySem.Spec PyProof.Rows PySem.W
section
variable {X:Cx}
def aP.as_at {pins:List (Addr × Obj)} {σ:St} {H:Hp} {s:Shared} {a:Addr} {u u':HO} (I:aP X pins σ H s) (e:H a=some u) (i:∀d,u≠.tup d) (A:∀h,u≠.tbl h) (D:∀x,u≠.own x) (l:∀o v,X.H₀ a≠some (.frz o v)) (g:bL X.prog X.w (aS H a u') s.heap a u'):aP X pins σ (aS H a u') s:=by
 let f:∀b,H b=none->b≠a:=λb n z=>by
  rw [z,e] at n;cases n
 refine {I.ok,I.os,I.bare,{I.base.keep,I.base.slot,λb o q n B=>?_,I.base.there,λb d q=>?_,λb o v q=>?_,λb h q=>?_},I.loc,I.cell,?_,λx c q=>?_,λp E=>?_,λb o q=>?_,I.len}
 ·let z:=I.base.free b o q n B;rw [aC (f b z)];exact z
 ·let z:=I.base.tups b d q;rw [aC (λy=>by rw [y,e] at z;exact i d (Option.some.inj z))];exact z
 ·rw [aC (λy=>l o v (by rw [<- y];exact q))];exact I.base.frzs b o v q
 ·let (m,z):=I.base.tbls b h q;exact {m,by rw [aC (λy=>by rw [y,e] at z;exact A _ (Option.some.inj z))];exact z}
 ·rw [aC (f _ I.free)];exact I.free
 ·rw [aC (f _ (I.freeC x c q))];exact I.freeC x c q
 ·let (t,k,C):=I.pin p E;exact {t,by rw [aC (f _ k)];exact k,C}
 ·by_cases j:b=a
  ·subst j;rw [aB] at q;cases q;exact g
  ·rw [aC j] at q;refine(I.hok b o q).stay (λc F _ r=>r) (λc z=>?_) λc d z=>?_
   ·rw [aC (λy=>by rw [y,e] at z;exact D _ (Option.some.inj z))];exact z
   ·rw [aC (λy=>by rw [y,e] at z;exact i _ (Option.some.inj z))];exact z
def bL.dK_at {P:Program} {w:World} {H H':Hp} {h:Heap} {a:Addr} {kvs:List (cC × V)} (q:bL P w H h a (.dK kvs)):bL P w H' h a (.dK kvs):=q
def aP.thaw {pins:List (Addr × Obj)} {σ:St} {H:Hp} {s:Shared} {a:Addr} {o:Obj} {kvs:List (cC × V)} (I:aP X pins σ H s) (e:H a=some (.frz o (.dK kvs))) (b:∀o v,X.H₀ a≠some (.frz o v)):aP X pins σ (aS H a (.dK kvs)) s:=by
 let (_,q):=(show bL X.prog X.w H s.heap a (.frz o (.dK kvs)) from I.hok a _ e);exact I.as_at e (λ_ z=>nomatch z) (λ_ z=>nomatch z) (λ_ z=>nomatch z) b q.dK_at
def aP.freeze {pins:List (Addr × Obj)} {σ:St} {H:Hp} {s:Shared} {a:Addr} {kvs:List (cC × V)} (I:aP X pins σ H s) (e:H a=some (.dK kvs)):∃o,s.heap.get? a=some o/\aP X pins σ (aS H a (.frz o (.dK kvs))) s:=by
 let q:=(show bL X.prog X.w H s.heap a (.dK kvs) from I.hok a _ e);let (o,b):=q.is;refine {o,b,I.as_at e (λ_ z=>nomatch z) (λ_ z=>nomatch z) (λ_ z=>nomatch z) (λc v z=>?_) {(b),q.dK_at}};have:=I.base.frzs a c v z;rw [e] at this;cases this
def Vz (H0:Hp) (t:TS):TS:=λD σ H=>t { D with nx:=λσ1 H1=>∃a o kvs,H1 a=some (.frz o (.dK kvs))/\(∀o v,H0 a≠some (.frz o v))/\D.nx σ1 (aS H1 a (.dK kvs)) } σ H
def Ci {st:Stmt} {t:TS} (h:PS X st t):PS X st (Vz X.H₀ t):=λb s σ H D I q=>gK (h s σ H _ I q) λf k z=>by
 cases f with
 | next=>
  let (i,l,j,a,o,d,c,g,e):=z
  exact {i,_,j.thaw c g,e}
 | _=>exact z
def Dr {X:Cx} {pins:List (Addr × Obj)} {σ:St} {H:Hp} {s:Shared} {a:Addr} {o:Obj} {kvs:List (cC × V)} {f:Array DictEntry} {ep:Nat} (I:aP X pins σ H s) (e:H a=some (.frz o (.dK kvs))) (h:o.data=.dict f ep):
  ∃b,KV kvs b/\s.heap.DictAt (cK X.prog X.w) a b ep:=by
 let (g,_,_,b,r,n,j,m,q,c,d,i,k,l):=(show bL X.prog X.w H s.heap a (.frz o (.dK kvs)) from I.hok a _ e);rw [g] at q;cases q;rw [h] at d;cases d;exact {(b),r,o,f,g,c,h,i,k,l}
section
variable {tg:Expr}
end
section
variable {prog:Program} {w:World} {A:Around} {E:Value->Shared->Prop} {s:Shared}
end
section
variable {prog:Program} {w:World} {A:Around} {E:Value->Shared->Prop} {s:Shared}
end
section
variable {prog:Program} {w:World} {A:Around} {E:Value->Shared->Prop}
end
def LD (x:Str):It:=⟨λi _=>i<x.length,λi H v H'=>H'=H/\∃c,x.cps[i]?=some c/\v=.str ⟨#[c]⟩,λi _=>x.length<=i⟩
def Hn {P:Program} {j:Option Value} {w:World} {K:Frag} {N:Expr} (x:Str) (t:Tok) (it:Addr) (G:j=none):Aj P w K j N (LD x) [it] it (λi h=>h.IsStrIter it "str_ascii_iterator" x t i) where
 mem:=by simp
 obj:=λi h a b g=>by
  let e:b=it:=by simpa using g
  subst e
  let (o,e,c,d):=a
  exact {o,e,λv z=>by rw [d] at z;cases z}
 keep:=λi h n a k=>by
  let (o,e,c,d):=a
  exact {o,k it (by simp) o e,c,d}
 item:=by
  intro X u B r F i f s σ H E I m a q;subst u B r;let p:i<x.cps.size:=q;let (A,C,S,D,f4,y):=m it (by simp);refine wpAny_pyNext_ascii_item a (q7 p) λn l O=>?_;let L:aP X f σ H { s with heap:=n,toks:=s.toks+1 }:=I.turned (λb o g e=>(O.2 b g).trans e) A C D f4 y;let (U,M,Q,J):=id l;exact {_,rfl,wT (s:={ s with heap:=n,toks:=s.toks+1 }) M Q J (by decide) {.str _,H,L,{_,rfl},{rfl,_,q7 p,rfl},l,λb g=>(m b g).1}}
 done:=by
  intro X u B r F i f s σ H E I m a q;subst u B r;let p:x.cps.size<=i:=q;let (A,C,S,D,f4,y):=m it (by simp);exact wpAny_pyNext_ascii_end (F.trans G) a (Array.getElem?_eq_none p) λn T=>{rfl,I.turned (t':=s.toks) (λb o g e=>T b o g e) A C D f4 y}
 self:=λ_ _ _ _ _ a h=>wpAny_pyIter_striter_ascii a h
def JP (tl:TE):TI:=λσ H R=>tl σ H λv H1=>∃x,v=.str x/\x.cps.all (·<128)=true/\R (LD x) H1
def Zo {i l:Expr} {g:TE} (r:PE X l g) (c:X.calm=true:=by rfl):PI X i l (JP g):=by
 intro f s σ H R I h;refine eH (r s σ H _ I h) λv a y p d k m=>?_;let (x,rfl,n,q):=m;let (t,rfl):=k;refine wpAny_pyIter_ascii n ?_;refine {a.heap.objs.size,[a.heap.objs.size],_,_,p,rfl,d.kept (t':=a.toks) λb o e=>f1 _ e,Hn x t _ (I.ok.hd c),{_,j3 _ rfl,rfl,rfl},λb j=>?_,q};let e:b=a.heap.objs.size:=by simpa using j
 subst e;exact d.fpOk (d7 _) (d.hok.fresh (d7 _))
section
variable {e:Expr} {apos cpos p:Pos} {ty:TE}
end
end
end L2
namespace Sr
open PySem PyProof.Rows
noncomputable def eY:Bool->Keyed->Array Keyed->Nat->Nat->Nat->StateT SortSt Sem (Option Nat):=sortPriv% PySem.Builtin.gallop
noncomputable def xO (left:Bool) (key:Keyed) (arr:Array Keyed) (base:Nat) (i:Nat):StateT SortSt Sem (Option Bool):=do
 let x <- elem' arr (base+i)
 if left then lt' x key else return (<- lt' key x).map (!·)
abbrev GS:=Option (Option Nat) × Nat × Nat
noncomputable def BL (ask:Nat->StateT SortSt Sem (Option Bool)) (n lo hi:Nat):StateT SortSt Sem (Option Nat):=do
 let c <- forIn [0:n] ((none,lo,hi):GS) λ_ c=>if c.2.1 ≥ c.2.2 then pure (.done (none,c.2.1,c.2.2)) else ask (c.2.1+(c.2.2-c.2.1) / 2) >>= λr=>match r with
  | some w=>if w=true then pure (.yield (none,c.2.1+(c.2.2-c.2.1) / 2+1,c.2.2)) else pure (.yield (none,c.2.1,c.2.1+(c.2.2-c.2.1) / 2))
  | _=>pure (.done (some none,c.2.1,c.2.2))
 match c.1 with
 | some r=>pure r
 | none=>pure (some c.2.2)
noncomputable def Ml (ask:Nat->StateT SortSt Sem (Option Bool)) (f:Bool->Bool) (n mx:Nat) (k:Nat->Nat->StateT SortSt Sem (Option Nat)):StateT SortSt Sem (Option Nat):=do
 let c <- forIn [0:n] ((none,0,1):GS) λ_ c=>if c.2.2 ≥ mx then pure (.done (none,c.2.1,c.2.2)) else ask c.2.2 >>= λr=>match r with
  | some w=>if f w=true then pure (.done (none,c.2.1,c.2.2)) else pure (.yield (none,c.2.2,2 * c.2.2+1))
  | _=>pure (.done (some none,c.2.1,c.2.2))
 match c.1 with
 | some r=>pure r
 | none=>k c.2.1 c.2.2
def zX (left:Bool) (e:Keyed) (d:Array Keyed) (base n a:Nat):eY left e d base n a=(xO left e d base a >>= λr=>match r with
  | some w=>if w=true then Ml (λv=>xO left e d base (a+v)) (λb=>!b) n (n-a) λu v=>BL (xO left e d base) n (a+u+1) (a+min v (n-a))
   else Ml (λv=>xO left e d base (a-v)) (λb=>b) n (a+1) λu v=>BL (xO left e d base) n (a+1-min v (a+1)) (a-u)
  | _=>pure none):=by
 refine congrArg (bind _) (funext λr=>?_);cases r with
 | none=>rfl
 | some w=>
  dsimp only
  refine congr (congrArg (@ite _ _ _) (congrArg (bind _) (funext λc=>?_))) (congrArg (bind _) (funext λc=>?_))
  all_goals
   let (r,c):=c;cases r with
   | some r=>rfl
   | none=>
    refine congrArg (bind _) (funext λc=>?_);let (r,c):=c;cases r <;> rfl
section
variable {M:Model} {A:Around} {E:Value->Shared->Prop} {s:Shared} {st:SortSt}
def uZ {g:Nat->StateT SortSt Sem (Option Bool)} {n lo hi:Nat} {p:Nat->Bool} {Q:Option Nat->SortSt->Prop} (F:∀i,i<n->∀R:Option Bool->SortSt->Prop,R (some (p i)) st->wpS M A E s (g i) R st)
  (v:∀i j,i<=j->j<n->p j=true->p i=true) (y:lo<=hi) (h2:hi<=n) (B:∀i,i<lo->p i=true) (G:∀i,hi<=i->i<n->p i=false)
  (h:∀k,k<=n->(∀i,i<k->p i=true)->(∀i,k<=i->i<n->p i=false)->Q (some k) st):wpS M A E s (BL g n lo hi) Q st:=by
 let l:∀lo hi:Nat,lo<=hi->hi<=lo->hi<=n->(∀i,i<lo->p i=true)->(∀i,hi<=i->i<n->p i=false)->Q (some hi) st:=λlo hi q o u f d=>h hi u (λi z=>f i ∎) d;refine i4 (K2 (Q:=λc a=>a=st/\c.1=none/\Q (some c.2.2) st) (D0 (I:=λx c a=>a=st/\c.1=none/\c.2.1<=c.2.2/\c.2.2<=n/\c.2.2+x<=n+c.2.1/\(∀i,i<c.2.1->p i=true)/\∀i,c.2.2<=i->i<n->p i=false) (λx c a _ K z=>?_) (λc a z=>?_) {rfl,rfl,y,h2,n8 h2 (N6 _ _),B,G}) λc a z=>?_)
 ·let (rfl,w,q,o,u,f,d):=z;let (r,lo,hi):=c;dsimp only at *;by_cases b:lo ≥ hi
  ·rw [if_pos b];exact j5 {rfl,rfl,l _ _ q b o f d}
  ·rw [if_neg b];let C:lo<=lo+(hi-lo) / 2:=N6 _ _;let J:lo+(hi-lo) / 2<hi:=∎;generalize lo+(hi-lo) / 2=m at *;refine i4 (F _ ∎ _ ?_);cases e:p m with
   | true=>exact j5 {rfl,rfl,(by dsimp only;omega),o,(by dsimp only;omega),λi t=>v i _ (Nat.le_of_lt_succ t) ∎ e,d}
   | false=>
    refine j5 {rfl,rfl,C,(by dsimp only;omega),(by dsimp only;omega),f,λi D H=>?_};cases z:p i with
    | false=>rfl
    | true=>rw [v _ i D H z] at e;cases e
 ·let (rfl,w,q,o,u,f,d):=z;exact {rfl,w,l _ _ q ∎ o f d}
 ·let (r,c):=c;let (rfl,rfl,z):=z;exact j5 z
def rL {g:Nat->StateT SortSt Sem (Option Bool)} {f:Bool->Bool} {n d:Nat} {k:Nat->Nat->StateT SortSt Sem (Option Nat)} {p:Nat->Bool} {Q:Option Nat->SortSt->Prop} (o:∀v,v<d->∀R:Option Bool->SortSt->Prop,R (some (p v)) st->wpS M A E s (g v) R st) (q:f (p 0)=false) (t:0<d) (h2:d<=n)
  (h:∀u v,u<v->u<d->f (p u)=false->(v<d->f (p v)=true)->wpS M A E s (k u v) Q st):wpS M A E s (Ml g f n d k) Q st:=by
 refine i4 (K2 (Q:=λc a=>a=st/\c.1=none/\wpS M A E s (k c.2.1 c.2.2) Q st) (D0 (I:=λx c a=>a=st/\c.1=none/\c.2.1<c.2.2/\x+1<=c.2.2/\c.2.1<d/\f (p c.2.1)=false) (λx c a _ y z=>?_) (λc a z=>?_) {rfl,rfl,Nat.zero_lt_one,d7 _,t,q}) λc a z=>?_)
 ·let (rfl,m,j,w,l,i):=z;by_cases b:c.2.2 ≥ d
  ·rw [if_pos b];exact j5 {rfl,rfl,h _ _ j l i λz=>absurd z (Nat.not_lt.mpr b)}
  ·rw [if_neg b];refine i4 (o _ ∎ _ ?_);dsimp only
   cases e:f (p c.2.2) with
   | true=>
    rw [if_pos rfl];exact j5 {rfl,rfl,h _ _ j l i λ_=>e}
   | false=>
    rw [if_neg (by simp)];exact j5 {rfl,rfl,(by omega:c.2.2<2 * _+1),(by omega:_<=2 * c.2.2+1),Nat.lt_of_not_le b,e}
 ·let (rfl,m,j,w,l,i):=z;exact {rfl,m,h _ _ j l i λz=>∎}
 ·let (r,c):=c;let (rfl,rfl,z):=z;exact z
def oR {left:Bool} {d:Keyed} {c:Array Keyed} {base n a:Nat} {p:Nat->Bool} {Q:Option Nat->SortSt->Prop}
  (f:∀i,i<n->∀R:Option Bool->SortSt->Prop,R (some (p i)) st->wpS M A E s (xO left d c base i) R st)
  (b:∀i j,i<=j->j<n->p j=true->p i=true) (r:a<n)
  (h:∀k,k<=n->(∀i,i<k->p i=true)->(∀i,k<=i->i<n->p i=false)->Q (some k) st):
  wpS M A E s (eY left d c base n a) Q st:=by
 let o:∀i j,i<=j->j<n->p i=false->p j=false:=λi j x t e=>by
  cases z:p j with
  | false=>rfl
  | true=>rw [b i j x t z] at e;cases e
 rw [zX];refine i4 (f a r _ ?_);dsimp only
 cases e0:p a with
 | true=>
  rw [if_pos rfl];refine rL (p:=λv=>p (a+v)) (λv w=>f _ ∎) (by show (!p a)=false;rw [e0];rfl) ∎ (Nat.sub_le _ _) λu v y B g l=>?_;let g:p (a+u)=true:=by simpa using g
  refine uZ f b ∎ ∎ (λi z=>b i (a+u) ∎ ∎ g) (λi q m=>?_) h;exact o (a+v) i ∎ m (by simpa using l ∎)
 | false=>
  rw [if_neg (by simp)];refine rL (p:=λv=>p (a-v)) (λv w=>f _ ∎) e0 (Nat.succ_pos _) r λu v y B g l=>?_;refine uZ f b ∎ ∎ (λi z=>?_) (λi q m=>o (a-u) i q m g) h;exact b i (a-v) ∎ ∎ (l ∎)
end
structure oN (prog:Program) (w:World) (A:Around) (E:Value->Shared->Prop) (s:Shared) (κ:SortKind) (a₀:Array Keyed) (rk:Keyed->Int):Prop where
 lt:∀{x y:Keyed} {st:SortSt} {Q:Option Bool->SortSt->Prop},x ∈ a₀.toList->y ∈ a₀.toList->kindOf st=κ->Q (some (decide (rk x<rk y))) st->wpS (model prog w) A E s (lt' x y) Q st
structure SB (κ:SortKind) (a₀:Array Keyed) (st:SortSt):Prop where
 perm:(arrOf st).Perm a₀
 kind:kindOf st=κ
 failed:failedOf st=none
theorem SB.size {κ:SortKind} {a₀:Array Keyed} {st:SortSt} (h:SB κ a₀ st):(arrOf st).size=a₀.size:=h.perm.size_eq
def SB.put {κ:SortKind} {a₀:Array Keyed} {st:SortSt} (h:SB κ a₀ st) {xs:Array Keyed} (a:xs.Perm (arrOf st)):SB κ a₀ (setArr st xs):={a.trans h.perm,h.kind,h.failed}
def SB.at {κ:SortKind} {a₀:Array Keyed} {st:SortSt} (h:SB κ a₀ st) {i:Nat} (hi:i<a₀.size):∃p,(arrOf st)[i]?=some p/\p ∈ a₀.toList:=by
 let a:i<(arrOf st).size:=by rw [h.size];exact hi
 exact {_,getElem?_pos _ i a,(K6.mp h.perm).mem_iff.mp (by simp)}
def R (rk:Keyed->Int) (xs:Array Keyed) (i:Nat):Int:=match xs[i]? with
 | some p=>rk p
 | none=>0
def lZ (rk:Keyed->Int) (xs:Array Keyed) (lo hi:Nat):Prop:=∀i j,lo<=i->i<=j->j<hi->R rk xs i<=R rk xs j
def Ha (rk:Keyed->Int) (xs:Array Keyed) (lo hi:Nat):Prop:=∀i j,lo<=i->i<=j->j<hi->R rk xs j<=R rk xs i
def qU (lo:Nat) (xs ys:Array Keyed):Prop:=∀k,k<lo->xs[k]?=ys[k]?
def qU.refl {lo:Nat} {xs:Array Keyed}:qU lo xs xs:=λ_ _=>rfl
theorem qU.trans {lo:Nat} {xs ys zs:Array Keyed} (h:qU lo xs ys) (k:qU lo ys zs):qU lo xs zs:=λi a=>(h i a).trans (k i a)
def iD {rk:Keyed->Int} {xs ys:Array Keyed} {i j:Nat} (h:xs[i]?=ys[j]?):R rk xs i=R rk ys j:=by unfold R;rw [h]
def iK {rk:Keyed->Int} {xs:Array Keyed} {i:Nat} {p:Keyed} (h:xs[i]?=some p):R rk xs i=rk p:=by unfold R;rw [h]
def xU {rk:Keyed->Int} {xs:Array Keyed} {a d:Nat} (f:a<xs.size) (g:d<=a) (k:Nat):
  R rk (bubble xs a d) k=if k=a-d then R rk xs a else if a-d<k/\k<=a then R rk xs (k-1) else R rk xs k:=by
 let e:=getElem?_bubble f d g k;by_cases c:k=a-d
 ·rw [if_pos c] at e ⊢;exact iD e
 ·rw [if_neg c] at e ⊢;by_cases b:a-d<k/\k<=a
  ·rw [if_pos b] at e ⊢;exact iD e
  ·rw [if_neg b] at e ⊢;exact iD e
def qQ {rk:Keyed->Int} {xs:Array Keyed} {i j:Nat} (b:j<=xs.size) (k:Nat):
  R rk (mirror xs i j ((j-i) / 2)) k=if i<=k/\k<j then R rk xs (i+j-1-k) else R rk xs k:=by
 let e:=getElem?_mirror_all (i:=i) b k;by_cases a:i<=k/\k<j
 ·rw [if_pos a] at e ⊢;exact iD e
 ·rw [if_neg a] at e ⊢;exact iD e
def dS {rk:Keyed->Int} {xs:Array Keyed} {i j:Nat} (b:j<=xs.size) (a:∀k,i<=k->k<j->R rk xs k=R rk xs (j-1)) (k:Nat):
  R rk (mirror xs i j ((j-i) / 2)) k=R rk xs k:=by
 rw [qQ b];split
 ·rw [a _ ∎ ∎,a k ∎ ∎]
 ·rfl
def gH {xs:Array Keyed} {lo i j:Nat} (a:j<=xs.size) (hi:lo<=i):qU lo (mirror xs i j ((j-i) / 2)) xs:=λk b=>by
 rw [getElem?_mirror_all a,if_neg ∎]
def wP {xs:Array Keyed} {lo a d:Nat} (b:a<xs.size) (e:lo+d<=a):qU lo (bubble xs a d) xs:=λk c=>by
 rw [getElem?_bubble b d ∎,if_neg ∎,if_neg ∎]
section
variable {prog:Program} {w:World} {A:Around} {E:Value->Shared->Prop} {s:Shared} {κ:SortKind} {a₀:Array Keyed} {rk:Keyed->Int}
def bJ {st:SortSt} {xs:Array Keyed} {i:Nat} {p:Keyed} {Q:Keyed->SortSt->Prop} (e:xs[i]?=some p) (h:Q p st):wpS (model prog w) A E s (elem' xs i) Q st:=by
 rw [elem'_eq,e];exact j5 h
def lC {st:SortSt} {i j:Nat} {Q:Option Bool->SortSt->Prop} (C:oN prog w A E s κ a₀ rk) (a:SB κ a₀ st) (hi:i<a₀.size) (f:j<a₀.size)
  (h:Q (some (decide (R rk (arrOf st) i<R rk (arrOf st) j))) st):wpS (model prog w) A E s (ltAt' i j) Q st:=by
 let (p,c,d):=a.at hi;let (q,b,e):=a.at f;rw [ltAt'_eq];refine i4 (J6 ?_);refine i4 (bJ c (i4 (bJ b ?_)));refine C.lt d e a.kind ?_;rw [iK c,iK b] at h;exact h
abbrev AS:=Option (Option Nat) × Nat
abbrev DS:=Option (Option Nat) × Nat × Nat
def Of (lo a m:Nat):StateT SortSt Sem AS:=
 forIn [a:m] ((none,a):AS) λ_ c=>do
  let x <- ltAt' (lo+c.2) (lo+c.2-1)
  match x with
  | some b=>if b=true then pure (ForInStep.done (none,c.2)) else pure (ForInStep.yield (none,c.2+1))
  | _=>pure (ForInStep.done (some none,c.2))
def Nm (lo n m:Nat):StateT SortSt Sem (Option Nat):=do
 reverseSlice' lo (lo+n)
 let c <- Of lo n m
 match c.1 with
 | some r=>pure r
 | none=>pure (some c.2)
def Ds (lo n m:Nat):StateT SortSt Sem DS:=
 forIn [n:m] ((none,n,0):DS) λ_ c=>do
  let x <- ltAt' (lo+c.2.1) (lo+c.2.1-1)
  match x with
  | some b=>
   if b=true then
    if c.2.2 > 0 then do
     reverseSlice' (lo+c.2.1-(c.2.2+1)) (lo+c.2.1)
     pure (ForInStep.yield (none,c.2.1+1,0))
    else pure (ForInStep.yield (none,c.2.1+1,0))
   else do
    let x <- ltAt' (lo+c.2.1-1) (lo+c.2.1)
    match x with
    | some d=>if d=true then pure (ForInStep.done (none,c.2.1,c.2.2)) else pure (ForInStep.yield (none,c.2.1+1,c.2.2+1))
    | _=>pure (ForInStep.done (some none,c.2.1,c.2.2))
  | _=>pure (ForInStep.done (some none,c.2.1,c.2.2))
def xA (lo n m:Nat):StateT SortSt Sem (Option Nat):=do
 liftM (rule "list.sort.descending-run")
 let c <- Ds lo (n+1) m
 match c.1 with
 | some r=>pure r
 | none=>
  if c.2.2 > 0 then do
   reverseSlice' (lo+c.2.1-(c.2.2+1)) (lo+c.2.1)
   Nm lo c.2.1 m
  else Nm lo c.2.1 m
def Gi (lo m:Nat):countRun' lo m=(do
  let c <- Of lo 1 m
  match c.1 with
  | some r=>pure r
  | none=>
   if (c.2 == m)=true then pure (some c.2)
   else if c.2 > 1 then do
    let x <- ltAt' lo (lo+c.2-1)
    match x with
    | some b=>if b=true then pure (some c.2) else do
      reverseSlice' lo (lo+c.2)
      xA lo c.2 m
    | _=>pure none
   else xA lo c.2 m):=by
 rw [countRun'_eq];unfold xA Nm Ds Of;dsimp only
 congr 1;funext c;let (r,n):=c;cases r with
 | some r=>rfl
 | none=>
  dsimp only
  split
  ·rfl
  ·split
   ·congr 1;funext x;cases x with
    | none=>rfl
    | some b=>
     dsimp only
     split
     ·rfl
     ·congr 1;funext _r;congr 1;funext _u;congr 1;congr 1;funext s2;let (d,f,g):=s2;cases d with
      | some d=>rfl
      | none=>
       dsimp only
       split
       ·congr 1;funext _v;congr 1;funext _w;congr 1;funext s3;let (a,e):=s3;cases a <;> rfl
       ·congr 1;funext _w;congr 1;funext s3;let (a,e):=s3;cases a <;> rfl
   ·congr 1;funext _u;congr 1;congr 1;funext s2;let (d,f,g):=s2;cases d with
    | some d=>rfl
    | none=>
     dsimp only
     split
     ·congr 1;funext _v;congr 1;funext _w;congr 1;funext s3;let (a,e):=s3;cases a <;> rfl
     ·congr 1;funext _w;congr 1;funext s3;let (a,e):=s3;cases a <;> rfl
structure jI (κ:SortKind) (a₀:Array Keyed) (lo:Nat) (st₀ st:SortSt):Prop extends SB κ a₀ st where
 like:qU lo (arrOf st) (arrOf st₀)
 pend:pendingOf st=pendingOf st₀
theorem jI.put {lo:Nat} {st₀ st:SortSt} (h:jI κ a₀ lo st₀ st) {xs:Array Keyed} (a:xs.Perm (arrOf st)) (b:qU lo xs (arrOf st)):jI κ a₀ lo st₀ (setArr st xs):=
 {h.toSB.put a,b.trans h.like,h.pend}
variable {st₀:SortSt} {lo:Nat}
def vA {st:SortSt} {a m:Nat} {Q:AS->SortSt->Prop} (C:oN prog w A E s κ a₀ rk) (hn:lo+m<=a₀.size) (ha:1<=a) (han:a<=m) (hB:SB κ a₀ st)
  (hs:lZ rk (arrOf st) lo (lo+a))
  (h:∀n,a<=n->n<=m->lZ rk (arrOf st) lo (lo+n)->(n=m\/R rk (arrOf st) (lo+n)<R rk (arrOf st) (lo+n-1))->Q (none,n) st):
  wpS (model prog w) A E s (Of lo a m) Q st:=by
 unfold Of;refine D0 (I:=λx c st'=>st'=st/\c=(none,x)/\lZ rk (arrOf st) lo (lo+x)) ?step ?fin {(rfl),rfl,hs}
 case fin=>
  rintro c st' ⟨rfl,rfl,hs'⟩;rw [show max a m=m by omega] at hs' ⊢;exact h m han (d7 _) hs' (.inl rfl)
 case step=>
  rintro x c st' hax hxn ⟨rfl,rfl,hs'⟩;dsimp only
  refine i4 (lC C hB ∎ ∎ ?_);by_cases hless:R rk (arrOf st') (lo+x)<R rk (arrOf st') (lo+x-1)
  ·simp only [hless,decide_true,if_true];exact j5 (h x hax ∎ hs' (.inr hless))
  ·simp only [hless,decide_false,A5,if_false];refine j5 {rfl,rfl,λi j hl hij hj=>?_};by_cases hjx:j<lo+x
   ·exact hs' i j hl hij hjx
   ·let hj':j=lo+x:=∎;subst hj';by_cases hi':i=lo+x
    ·subst hi';exact g9 _
    ·exact v5 (hs' i (lo+x-1) hl ∎ ∎) (K3.mp hless)
def uY {st:SortSt} {n m:Nat} {Q:Option Nat->SortSt->Prop} (C:oN prog w A E s κ a₀ rk) (q:lo+m<=a₀.size) (p:1<=n) (d:n<=m) (g:jI κ a₀ lo st₀ st)
  (l:Ha rk (arrOf st) lo (lo+n)) (h:∀k b,jI κ a₀ lo st₀ b->1<=k->k<=m->lZ rk (arrOf b) lo (lo+k)->Q (some k) b):
  wpS (model prog w) A E s (Nm lo n m) Q st:=by
 unfold Nm;let a:lo+n<=(arrOf st).size:=by rw [g.size];omega
 refine i4 (wpS_reverse ?_);let c:jI κ a₀ lo st₀ (setArr st (mirror (arrOf st) lo (lo+n) ((lo+n-lo) / 2))):=g.put (mirror_perm _ _ _ _) (gH a (d7 _));refine i4 (vA C q p d c.toSB ?_ λk r f e _=>j5 (h k _ c ∎ f e));intro i j u o t;show R rk (mirror (arrOf st) lo (lo+n) ((lo+n-lo) / 2)) i<=R rk (mirror (arrOf st) lo (lo+n) ((lo+n-lo) / 2)) j;rw [qQ a,qQ a,if_pos ∎,if_pos ∎];exact l _ _ ∎ ∎ ∎
def Ed {st:SortSt} {n m:Nat} {Q:DS->SortSt->Prop} (C:oN prog w A E s κ a₀ rk) (hn:lo+m<=a₀.size) (h1:1<=n) (hnn:n<=m) (hB:jI κ a₀ lo st₀ st)
  (hs:Ha rk (arrOf st) lo (lo+n))
  (h:∀k q st',jI κ a₀ lo st₀ st'->n<=k->k<=m->Ha rk (arrOf st') lo (lo+k)->q+1<=k->(∀i,lo+k-(q+1)<=i->i<lo+k->R rk (arrOf st') i=R rk (arrOf st') (lo+k-1))->Q (none,k,q) st'):
  wpS (model prog w) A E s (Ds lo n m) Q st:=by
 unfold Ds;refine D0 (I:=λx c st'=>∃q,c=(none,x,q)/\jI κ a₀ lo st₀ st'/\Ha rk (arrOf st') lo (lo+x)/\q+1<=x /\
   (∀i,lo+x-(q+1)<=i->i<lo+x->R rk (arrOf st') i=R rk (arrOf st') (lo+x-1))) ?step ?fin {0,rfl,hB,hs,∎,λi h1 h2=>by congr 1;omega}
 case fin=>
  rintro c st' ⟨q,rfl,hB',hs',hq,he⟩;rw [show max n m=m by omega] at hs' hq he ⊢;exact h m q st' hB' hnn (d7 _) hs' hq he
 case step=>
  rintro x c st' hax hxn ⟨q,rfl,hB',hs',hq,he⟩;dsimp only
  let hsz:lo+x<=(arrOf st').size:=by rw [hB'.size];omega
  refine i4 (lC C hB'.toSB ∎ ∎ ?_);by_cases hless:R rk (arrOf st') (lo+x)<R rk (arrOf st') (lo+x-1)
  ·simp only [hless,decide_true,if_true];let step1:∀xs:Array Keyed,(∀k,R rk xs k=R rk (arrOf st') k)->Ha rk xs lo (lo+(x+1)):=by
    intro xs hk i j hl hij hj;rw [hk,hk];by_cases hjx:j<lo+x
    ·exact hs' i j hl hij hjx
    ·let hj':j=lo+x:=∎;subst hj';by_cases hi':i=lo+x
     ·subst hi';exact g9 _
     ·exact v5 (x8 hless) (hs' i (lo+x-1) hl ∎ ∎)
   by_cases hneq:q > 0
   ·rw [if_pos hneq];refine i4 (wpS_reverse (j5 {0,rfl,hB'.put (mirror_perm _ _ _ _) (gH hsz ∎),step1 _ (dS hsz he),∎,λi h1 h2=>by congr 1;omega}))
   ·rw [if_neg hneq];exact j5 {0,rfl,hB',step1 _ (λ_=>rfl),∎,λi h1 h2=>by congr 1;omega}
  ·simp only [hless,decide_false,A5,if_false];refine i4 (lC C hB'.toSB ∎ ∎ ?_);by_cases hlarger:R rk (arrOf st') (lo+x-1)<R rk (arrOf st') (lo+x)
   ·simp only [hlarger,decide_true,if_true];exact j5 (h x q st' hB' hax ∎ hs' hq he)
   ·simp only [hlarger,decide_false,A5,if_false];let heqx:R rk (arrOf st') (lo+x)=R rk (arrOf st') (lo+x-1):=∎;refine j5 {q+1,rfl,hB',λi j hl hij hj=>?_,∎,λi h1 h2=>?_}
    ·by_cases hjx:j<lo+x
     ·exact hs' i j hl hij hjx
     ·let hj':j=lo+x:=∎;subst hj';by_cases hi':i=lo+x
      ·subst hi';exact g9 _
      ·rw [heqx];exact hs' i (lo+x-1) hl ∎ ∎
    ·rw [show lo+(x+1)-1=lo+x by omega];by_cases hix:i=lo+x
     ·subst hix;rfl
     ·rw [heqx];exact he i ∎ ∎
def rM {st:SortSt} {n m:Nat} {Q:Option Nat->SortSt->Prop} (C:oN prog w A E s κ a₀ rk) (o:lo+m<=a₀.size) (g:n+1<=m) (u:jI κ a₀ lo st₀ st)
  (r:Ha rk (arrOf st) lo (lo+(n+1))) (h:∀k a,jI κ a₀ lo st₀ a->1<=k->k<=m->lZ rk (arrOf a) lo (lo+k)->Q (some k) a):
  wpS (model prog w) A E s (xA lo n m) Q st:=by
 unfold xA;refine i4 (P3 (F4 {rfl,?_}));refine i4 (Ed C o ∎ g u r λk q a c v f e y p=>?_);dsimp only
 let d:lo+k<=(arrOf a).size:=by rw [c.size];omega
 by_cases b:q > 0
 ·rw [if_pos b];refine i4 (wpS_reverse (uY C o ∎ f (c.put (mirror_perm _ _ _ _) (gH d ∎)) ?_ h));intro i j x l t;show R rk (mirror (arrOf a) _ _ _) j<=R rk (mirror (arrOf a) _ _ _) i;rw [dS d p,dS d p];exact e i j x l t
 ·rw [if_neg b];exact uY C o ∎ f c e h
def Ee {st:SortSt} {m:Nat} {Q:Option Nat->SortSt->Prop} (C:oN prog w A E s κ a₀ rk) (D:lo+m<=a₀.size) (H:1<=m) (e:jI κ a₀ lo st₀ st)
  (h:∀k l,jI κ a₀ lo st₀ l->1<=k->k<=m->lZ rk (arrOf l) lo (lo+k)->Q (some k) l):
  wpS (model prog w) A E s (countRun' lo m) Q st:=by
 rw [Gi];refine i4 (vA C D (d7 1) H e.toSB (λi j d v G=>by
  have:i=j:=∎
  subst this;exact g9 _) λn q t c B=>?_);dsimp only
 by_cases f:n=m
 ·rw [if_pos (by simpa using f)];exact j5 (h n st e q t c)
 ·rw [if_neg (by simpa using f)];let p:R rk (arrOf st) (lo+n)<R rk (arrOf st) (lo+n-1):=B.resolve_left f;by_cases u:n > 1
  ·rw [if_pos u];refine i4 (lC C e.toSB ∎ ∎ ?_);by_cases b:R rk (arrOf st) lo<R rk (arrOf st) (lo+n-1)
   ·simp only [b,decide_true,if_true];exact j5 (h n st e q t c)
   ·simp only [b,decide_false,A5,if_false];let g:lo+n<=(arrOf st).size:=by rw [e.size];omega
    let a:∀k,lo<=k->k<lo+n->R rk (arrOf st) k=R rk (arrOf st) (lo+n-1):=by
     intro k d I;let J:=c lo k ∎ d I;let K:=c k (lo+n-1) d ∎ ∎;omega
    refine i4 (wpS_reverse (rM C D ∎ (e.put (mirror_perm _ _ _ _) (gH g (d7 _))) ?_ h));intro i j d v G;show R rk (mirror (arrOf st) _ _ _) j<=R rk (mirror (arrOf st) _ _ _) i;rw [dS g a,dS g a];by_cases x:j<lo+n
    ·rw [a i d ∎,a j ∎ x];exact g9 _
    ·let F:j=lo+n:=∎;subst F;by_cases o:i=lo+n
     ·subst o;exact g9 _
     ·rw [a i d ∎];exact x8 p
  ·rw [if_neg u];let r:n=1:=∎;subst r;refine rM C D ∎ e ?_ h;intro i j d v G;by_cases o:i=j
   ·subst o;exact g9 _
   ·let y:i=lo:=∎;let z:j=lo+1:=∎;subst y;subst z;exact x8 p
def yE {st:SortSt} {n ok:Nat} {Q:Bool->SortSt->Prop} (C:oN prog w A E s κ a₀ rk) (hn:lo+n<=a₀.size) (hok:ok<=n) (hB:jI κ a₀ lo st₀ st) (hs:lZ rk (arrOf st) lo (lo+ok))
  (h:∀st',jI κ a₀ lo st₀ st'->lZ rk (arrOf st') lo (lo+n)->Q true st'):wpS (model prog w) A E s (binarySort' lo n ok) Q st:=by
 rw [binarySort'_eq];refine i4 (K2 (D0 (I:=λk c st'=>c=(none,())/\jI κ a₀ lo st₀ st'/\lZ rk (arrOf st') lo (lo+min k n))
  (Q:=λc st'=>c=(none,())/\jI κ a₀ lo st₀ st'/\lZ rk (arrOf st') lo (lo+n)) ?step ?fin ?init) ?post)
 case post=>
  rintro c st' ⟨rfl,hB',hs'⟩;exact j5 (h st' hB' hs')
 case init=>
  refine {rfl,hB,λi j hl hij hj=>?_};by_cases h1:ok=0
  ·have:i=j:=∎;subst this;exact g9 _
  ·exact hs i j hl hij ∎
 case fin=>
  rintro c st' ⟨hc,hB',hs'⟩;refine {hc,hB',?_};rwa [show min (max (max ok 1) n) n=n by omega] at hs'
 case step=>
  rintro k c st' hak hkn ⟨rfl,hB',hs'⟩;rw [show min k n=k by omega] at hs';let hk:lo+k<a₀.size:=∎;refine i4 (K2 (D0 (I:=λx c st''=>st''=st'/\∃l r,c=(none,l,r)/\l<=r/\r<=k/\r+x<=k+l /\
    (∀i,lo<=i->i<lo+l->R rk (arrOf st') i<=R rk (arrOf st') (lo+k))/\(∀i,lo+r<=i->i<lo+k->R rk (arrOf st') (lo+k)<R rk (arrOf st') i))
   (Q:=λc st''=>st''=st'/\∃l r,c=(none,l,r)/\l<=k /\
    (∀i,lo<=i->i<lo+l->R rk (arrOf st') i<=R rk (arrOf st') (lo+k))/\(∀i,lo+l<=i->i<lo+k->R rk (arrOf st') (lo+k)<R rk (arrOf st') i)) ?istep ?ifin ?iinit) ?ipost)
  case iinit=>exact {rfl,0,k,rfl,∎,∎,∎,λi _ hi=>∎,λi h1 h2=>∎}
  case ifin=>
   rintro c st'' ⟨rfl,l,r,rfl,hlr,hrk,hm,hlo,hhi⟩;have:l=r:=∎;subst this;exact {(rfl),l,l,rfl,hrk,hlo,hhi}
  case istep=>
   rintro x c st'' _ hxk ⟨rfl,l,r,rfl,hlr,hrk,hm,hlo,hhi⟩;dsimp only
   by_cases hge:l ≥ r
   ·rw [if_pos hge];have:l=r:=∎;subst this;exact j5 {(rfl),l,l,rfl,hrk,hlo,hhi}
   ·rw [if_neg hge];let m1:l<=(l+r) / 2:=∎;let m2:(l+r) / 2<r:=∎;generalize (l+r) / 2=m at *;refine i4 (lC C hB'.toSB hk ∎ ?_);by_cases hless:R rk (arrOf st'') (lo+k)<R rk (arrOf st'') (lo+m)
    ·simp only [hless,decide_true,if_true];refine j5 {rfl,l,m,rfl,m1,∎,∎,hlo,λi h1 h2=>?_};exact P9 hless (hs' _ _ ∎ h1 h2)
    ·simp only [hless,decide_false,A5,if_false];refine j5 {rfl,m+1,r,rfl,m2,hrk,∎,λi h0 h1=>?_,hhi};exact v5 (hs' i (lo+m) h0 ∎ ∎) (K3.mp hless)
  case ipost=>
   rintro c st'' ⟨rfl,l,r,rfl,hlk,hlo,hhi⟩;show wpS _ _ _ _ (do moveDown' (lo+k) (lo+l);pure (ForInStep.yield (none,()))) _ _;let hks:lo+k<(arrOf st'').size:=by rw [hB'.size];exact hk
   rw [moveDown'_eq];refine i4 (L8 (j5 {rfl,hB'.put (bubble_perm _ _ _) (wP hks ∎),?_}));rw [show min (k+1) n=k+1 by omega];intro i j hl hij hj;show R rk (bubble (arrOf st'') (lo+k) (lo+k-(lo+l))) i<=R rk (bubble (arrOf st'') (lo+k) (lo+k-(lo+l))) j;rw [xU hks ∎,xU hks ∎,show lo+k-(lo+k-(lo+l))=lo+l by omega]
   repeat' split
   all_goals first
    | (exfalso;omega)
    | exact g9 _
    | exact hlo _ ∎ ∎
    | exact x8 (hhi _ ∎ ∎)
    | exact hs' _ _ ∎ ∎ ∎
def jZ {α:Type} {a:Array α} {i:Nat}:(a.extract i a.size).toList=a.toList.drop i:=by
 rw [K4,E1,o7];rw [C2];simp
def xB {α:Type} {a:Array α} {i k:Nat}:(a.extract i (i+k)).toList=(a.toList.drop i).take k:=by
 rw [K4,E1];congr 1;omega
def fN (rk:Keyed->Int) (l:List Keyed):Prop:=l.Pairwise λx y=>rk x<=rk y
structure Mg (rk:Keyed->Int) (a b:List Keyed) (o:List Keyed) (i j:Nat):Prop where
 perm:(o++(a.drop i++b.drop j)).Perm (a++b)
 srt:fN rk o
 la:∀x ∈ o,∀y ∈ a.drop i,rk x<=rk y
 lb:∀x ∈ o,∀y ∈ b.drop j,rk x<=rk y
def Mg.len {rk:Keyed->Int} {a b o:List Keyed} {i j:Nat} (h:Mg rk a b o i j):o.length+((a.length-i)+(b.length-j))=a.length+b.length:=by
 have:=h.perm.length_eq;simpa using this
def fN.app {rk:Keyed->Int} {x y:List Keyed} (h:fN rk x) (k:fN rk y) (l:∀u ∈ x,∀v ∈ y,rk u<=rk v):fN rk (x++y):=
 C4.mpr {(h),k,l}
theorem fN.drop {rk:Keyed->Int} {x:List Keyed} {i:Nat} (h:fN rk x):fN rk (x.drop i):=h.sublist (List.drop_sublist _ _)
theorem fN.take {rk:Keyed->Int} {x:List Keyed} {i:Nat} (h:fN rk x):fN rk (x.take i):=h.sublist (M5 _ _)
def Mg.takeA {rk:Keyed->Int} {a b o:List Keyed} {i j k:Nat} (h:Mg rk a b o i j) (d:fN rk a) (n:∀x ∈ (a.drop i).take k,∀y ∈ b.drop j,rk x<=rk y):Mg rk a b (o++(a.drop i).take k) (i+k) j:=by
 let e:a.drop i=(a.drop i).take k++a.drop (i+k):=by
  rw [<- C7];exact(z9 k _).symm
 let g:fN rk ((a.drop i).take k++a.drop (i+k)):=e ▸ d.drop;let f:∀x ∈ (a.drop i).take k,x ∈ a.drop i:=λx hx=>y4 hx;let m:∀x ∈ a.drop (i+k),x ∈ a.drop i:=λx hx=>by rw [e];exact i9 _ hx
 refine {?_,h.srt.app d.drop.take λu p v l=>h.la u p v (f v l),λx hx y c=>?_,λx hx y c=>?_}
 ·refine List.Perm.trans (List.Perm.of_eq ?_) h.perm
  conv=>rhs;rw [e]
  simp [q8]
 ·rcases j1.mp hx with hx|hx
  ·exact h.la x hx y (m y c)
  ·exact(C4.mp g).2.2 x hx y c
 ·rcases j1.mp hx with hx|hx
  ·exact h.lb x hx y c
  ·exact n x hx y c
def Mg.takeB {rk:Keyed->Int} {a b o:List Keyed} {i j k:Nat} (h:Mg rk a b o i j) (d:fN rk b) (n:∀x ∈ (b.drop j).take k,∀y ∈ a.drop i,rk x<=rk y):Mg rk a b (o++(b.drop j).take k) i (j+k):=by
 let e:b.drop j=(b.drop j).take k++b.drop (j+k):=by
  rw [<- C7];exact(z9 k _).symm
 let g:fN rk ((b.drop j).take k++b.drop (j+k)):=e ▸ d.drop;let f:∀x ∈ (b.drop j).take k,x ∈ b.drop j:=λx hx=>y4 hx;let m:∀x ∈ b.drop (j+k),x ∈ b.drop j:=λx hx=>by rw [e];exact i9 _ hx
 refine {?_,h.srt.app d.drop.take λu p v l=>h.lb u p v (f v l),λx hx y c=>?_,λx hx y c=>?_}
 ·refine List.Perm.trans ?_ h.perm
  conv=>rhs;rw [e]
  have:(a.drop i++((b.drop j).take k++b.drop (j+k))).Perm ((b.drop j).take k++(a.drop i++b.drop (j+k))):=by
   rw [<- q8,<- q8];exact List.perm_append_comm.append_right _
  rw [q8];exact(this.symm).append_left _
 ·rcases j1.mp hx with hx|hx
  ·exact h.la x hx y c
  ·exact n x hx y c
 ·rcases j1.mp hx with hx|hx
  ·exact h.lb x hx y (m y c)
  ·exact(C4.mp g).2.2 x hx y c
def gQ {α:Type} {l:List α} {i:Nat} {x:α} (h:l[i]?=some x):(l.drop i).take 1=[x]:=by
 let a:i<l.length:=by
  rcases Nat.lt_or_ge i l.length with z|z
  ·exact z
  ·rw [w8 z] at h;cases h
 rw [E2 a];rw [c8 a] at h;cases h;rfl
def Mg.pushA {rk:Keyed->Int} {a b o:List Keyed} {i j:Nat} {x:Keyed} (h:Mg rk a b o i j) (f:fN rk a) (e:a[i]?=some x) (c:∀y ∈ b.drop j,rk x<=rk y):Mg rk a b (o++[x]) (i+1) j:=by
 have:=h.takeA (k:=1) f (by rw [gQ e];intro u d;cases l9.mp d;exact c);rwa [gQ e] at this
def Mg.pushB {rk:Keyed->Int} {a b o:List Keyed} {i j:Nat} {x:Keyed} (h:Mg rk a b o i j) (c:fN rk b) (e:b[j]?=some x) (d:∀y ∈ a.drop i,rk x<=rk y):Mg rk a b (o++[x]) i (j+1):=by
 have:=h.takeB (k:=1) c (by rw [gQ e];intro u f;cases l9.mp f;exact d);rwa [gQ e] at this
def jF (rk:Keyed->Int) (a b:List Keyed) (r:Array Keyed):Prop:=r.toList.Perm (a++b)/\fN rk r.toList
def Mg.doneB {rk:Keyed->Int} {a b:Array Keyed} {o:Array Keyed} {i j:Nat} (h:Mg rk a.toList b.toList o.toList i j) (d:fN rk a.toList) (e:b.size<=j):jF rk a.toList b.toList (o++a.extract i a.size++b.extract j b.size):=by
 let z:b.toList.drop j=[]:=N2 (by simpa using e);let c:(o++a.extract i a.size++b.extract j b.size).toList=o.toList++a.toList.drop i:=by
  rw [o4,o4,jZ,jZ,z,C5]
 refine {?_,?_}
 ·rw [c];have:=h.perm;rwa [z,C5] at this
 ·rw [c];exact h.srt.app d.drop h.la
def Mg.doneA {rk:Keyed->Int} {a b:Array Keyed} {o:Array Keyed} {i j:Nat} (h:Mg rk a.toList b.toList o.toList i j) (d:fN rk b.toList) (e:a.size<=i):jF rk a.toList b.toList (o++a.extract i a.size++b.extract j b.size):=by
 let z:a.toList.drop i=[]:=N2 (by simpa using e);let c:(o++a.extract i a.size++b.extract j b.size).toList=o.toList++b.toList.drop j:=by
  rw [o4,o4,jZ,jZ,z,C5]
 refine {?_,?_}
 ·rw [c];have:=h.perm;rwa [z,List.nil_append] at this
 ·rw [c];exact h.srt.app d.drop h.lb
def Mg.lastA {rk:Keyed->Int} {a b:Array Keyed} {o:Array Keyed} {i j:Nat} (h:Mg rk a.toList b.toList o.toList i j) (k:fN rk a.toList) (g:fN rk b.toList) (e:i+1=a.size) (m:∀y ∈ b.toList,∀x,a.toList[a.size-1]?=some x->rk y<=rk x):jF rk a.toList b.toList (o++b.extract j b.size++a.extract i a.size):=by
 let d:(o++b.extract j b.size++a.extract i a.size).toList=o.toList++(b.toList.drop j++a.toList.drop i):=by
  rw [o4,o4,jZ,jZ,q8]
 refine {?_,?_}
 ·rw [d];exact(List.perm_append_comm.append_left _).trans h.perm
 ·rw [d];refine h.srt.app (g.drop.app k.drop λu c v hv=>?_) λu c v hv=>?_
  ·let f:i<a.toList.length:=by simp;omega
   let l:a.toList.drop i=[a.toList[i]]:=by
    rw [E2 f,N2 (by simp;omega)]
   rw [l] at hv;cases l9.mp hv;refine m u (D1 c) _ ?_;rw [show a.size-1=i by omega,c8 f]
  ·rcases j1.mp hv with hv|hv
   ·exact h.lb u c v hv
   ·exact h.la u c v hv
structure Sg (st₀ st:SortSt):Prop where
 kind:kindOf st=kindOf st₀
 arr:arrOf st=arrOf st₀
 pend:pendingOf st=pendingOf st₀
 failed:failedOf st=failedOf st₀
def Sg.refl {st:SortSt}:Sg st st:={(rfl),rfl,rfl,rfl}
def sD:Nat->StateT SortSt Sem Unit:=sortPriv% PySem.Builtin.setMinGallop
def Mj (g:Nat):sD g=modify λt=>SortSt.mk' (kindOf t) (arrOf t) (pendingOf t) g (failedOf t):=rfl
def kZ {st st₀:SortSt} {g:Nat} {Q:Unit->SortSt->Prop} (b:Sg st₀ st) (h:∀a,Sg st₀ a->Q () a):wpS (model prog w) A E s (sD g) Q st:=by
 rw [Mj];exact L8 (h _ {(b.kind),b.arr,b.pend,b.failed})
def oS {st:SortSt} {b:Keyed} {a:Array Keyed} {base n d:Nat} {Q:Option Nat->SortSt->Prop} (C:oN prog w A E s κ a₀ rk) (t:kindOf st=κ) (F:b ∈ a₀.toList) (u:∀x ∈ a.toList,x ∈ a₀.toList)
  (D:fN rk ((a.toList.drop base).take n)) (U:base+n<=a.size) (B:d<n)
  (h:∀k,k<=n->(∀x ∈ (a.toList.drop base).take k,rk x<=rk b)->(∀i x,k<=i->i<n->a.toList[base+i]?=some x->rk b<rk x)->Q (some k) st):
  wpS (model prog w) A E s (eY false b a base n d) Q st:=by
 let c:∀i,i<n->∃x,a[base+i]?=some x/\x ∈ a₀.toList/\((a.toList.drop base).take n)[i]?=some x:=λi g=>by
  let z:base+i<a.size:=∎;refine {a[base+i],q7 z,u _ (by simp),?_};rw [t9 g,o9];simp [z]
 refine oR (p:=λi=>!decide (rk b<R rk a (base+i))) (λi g Q h=>?_) (λi j o T e=>?_) B λk H P L=>h k H (λx O=>?_) λi x J G e=>?_
 ·let (x,e,m,_):=c i g;unfold xO;refine i4 (bJ e ?_);rw [if_neg (by simp)];refine i4 (C.lt F m t (j5 ?_));rw [iK e] at h;exact h
 ·let (x,r,_,M):=c i ∎;let (y,f,_,S):=c j T
  try dsimp only at e ⊢
  rw [iK f] at e;rw [iK r];simp only [D2,decide_eq_false_iff_not,K3] at e ⊢;rcases F7 o with z|z
  ·subst z;rw [r] at f;cases f;exact e
  ·refine v5 ?_ e;let (I,v):=c9.mp M;let (K,N):=c9.mp S;rw [<- v,<- N];exact w9.mp D i j I K z
 ·let (i,g,rfl):=r9 O;let l:i<k:=by
   have:=g;simp at this;omega
  let (y,f,_,_):=c i ∎;have:=P i l
  try dsimp only at this
  rw [iK f] at this;simp only [D2,decide_eq_false_iff_not,K3] at this;let q:((a.toList.drop base).take k)[i]?=some y:=by
   rw [t9 l,o9];simpa using f
  rw [c8 g] at q;cases q;exact this
 ·have:=L i J G
  try dsimp only at this
  rw [iK (show a[base+i]?=some x by simpa using e)] at this;simpa using this
def oT {st:SortSt} {b:Keyed} {a:Array Keyed} {base n d:Nat} {Q:Option Nat->SortSt->Prop} (C:oN prog w A E s κ a₀ rk) (t:kindOf st=κ) (F:b ∈ a₀.toList) (u:∀x ∈ a.toList,x ∈ a₀.toList)
  (D:fN rk ((a.toList.drop base).take n)) (U:base+n<=a.size) (B:d<n)
  (h:∀k,k<=n->(∀x ∈ (a.toList.drop base).take k,rk x<rk b)->(∀i x,k<=i->i<n->a.toList[base+i]?=some x->rk b<=rk x)->Q (some k) st):
  wpS (model prog w) A E s (eY true b a base n d) Q st:=by
 let c:∀i,i<n->∃x,a[base+i]?=some x/\x ∈ a₀.toList/\((a.toList.drop base).take n)[i]?=some x:=λi g=>by
  let z:base+i<a.size:=∎;refine {a[base+i],q7 z,u _ (by simp),?_};rw [t9 g,o9];simp [z]
 refine oR (p:=λi=>decide (R rk a (base+i)<rk b)) (λi g Q h=>?_) (λi j o T e=>?_) B λk H P L=>h k H (λx O=>?_) λi x J G e=>?_
 ·let (x,e,m,_):=c i g;unfold xO;refine i4 (bJ e ?_);rw [if_pos rfl];refine C.lt m F t ?_;rw [iK e] at h;exact h
 ·let (x,r,_,M):=c i ∎;let (y,f,_,S):=c j T
  try dsimp only at e ⊢
  rw [iK f] at e;rw [iK r];simp only [decide_eq_true_eq] at e ⊢;rcases F7 o with z|z
  ·subst z;rw [r] at f;cases f;exact e
  ·refine Int.lt_of_le_of_lt ?_ e;let (I,v):=c9.mp M;let (K,N):=c9.mp S;rw [<- v,<- N];exact w9.mp D i j I K z
 ·let (i,g,rfl):=r9 O;let l:i<k:=by
   have:=g;simp at this;omega
  let (y,f,_,_):=c i ∎;have:=P i l
  try dsimp only at this
  rw [iK f] at this;simp only [decide_eq_true_eq] at this;let q:((a.toList.drop base).take k)[i]?=some y:=by
   rw [t9 l,o9];simpa using f
  rw [c8 g] at q;cases q;exact this
 ·have:=L i J G
  try dsimp only at this
  rw [iK (show a[base+i]?=some x by simpa using e)] at this;simpa using this
noncomputable def AJ:Array Keyed->Array Keyed->StateT SortSt Sem (Array Keyed):=sortPriv% PySem.Builtin.mergeLo
abbrev SA:=Option (Array Keyed) × Array Keyed × Nat × Nat × Nat × Nat
abbrev SG:=Option (Array Keyed) × Array Keyed × Nat × Nat × Nat × Nat × Nat
abbrev SO:=Option (Array Keyed) × Array Keyed × Nat × Nat × Nat
section
variable (x y:Array Keyed)
noncomputable def Ts (o:Array Keyed) (i j:Nat):=o++x.extract i x.size++y.extract j y.size
noncomputable def FP (o:Array Keyed) (i j:Nat):=o++y.extract j y.size++x.extract i x.size
noncomputable def KN (g:Nat) (o:Array Keyed) (i j c d:Nat):StateT SortSt Sem (ForInStep SA):=
 elem' y j >>= λp=>elem' x i >>= λq=>lt' p q >>= λr=>match r with
 | some w=>if w=true then elem' y j >>= λp=>
   if (j+1 == y.size)=true then pure (.done (some (Ts x y (o.push p) i (j+1)),o.push p,i,j+1,0,d+1))
   else if d+1 ≥ g then pure (.done (none,o.push p,i,j+1,0,d+1)) else pure (.yield (none,o.push p,i,j+1,0,d+1))
  else elem' x i >>= λq=>
   if (i+1+1 == x.size)=true then pure (.done (some (FP x y (o.push q) (i+1) j),o.push q,i+1,j,c+1,0))
   else if c+1 ≥ g then pure (.done (none,o.push q,i+1,j,c+1,0)) else pure (.yield (none,o.push q,i+1,j,c+1,0))
 | _=>pure (.done (some (Ts x y o i j),o,i,j,c,d))
noncomputable def JK (o:Array Keyed) (i j g c d:Nat):StateT SortSt Sem (ForInStep SG):=do
 let q <- elem' x i
 if (i+1+1 == x.size)=true then pure (.done (some (FP x y (o.push q) (i+1) j),o.push q,i+1,j,g,c,d))
 else if (c<7 && d<7)=true then pure (.done (none,o.push q,i+1,j,g,c,d)) else pure (.yield (none,o.push q,i+1,j,g,c,d))
noncomputable def KO (o:Array Keyed) (i j g c d:Nat):StateT SortSt Sem (ForInStep SG):=
 elem' x i >>= λq=>eY true q y j (y.size-j) 0 >>= λr=>match r with
 | some k=>if k > 0 then
   if (j+k == y.size)=true then pure (.done (some (Ts x y (o++y.extract j (j+k)) i (j+k)),o++y.extract j (j+k),i,j+k,g,c,k)) else JK x y (o++y.extract j (j+k)) i (j+k) g c k
  else JK x y o i j g c k
 | _=>pure (.done (some (Ts x y o i j),o,i,j,g,c,d))
noncomputable def JL (o:Array Keyed) (i j g c d:Nat):StateT SortSt Sem (ForInStep SG):=do
 let p <- elem' y j
 if (j+1 == y.size)=true then pure (.done (some (Ts x y (o.push p) i (j+1)),o.push p,i,j+1,g,c,d)) else KO x y (o.push p) i (j+1) g c d
noncomputable def JM (o:Array Keyed) (i j g c d:Nat):StateT SortSt Sem (ForInStep SG):=
 sD g >>= λ_=>elem' y j >>= λp=>eY false p x i (x.size-i) 0 >>= λr=>match r with
 | some k=>if k > 0 then
   if (i+k+1 == x.size)=true then pure (.done (some (FP x y (o++x.extract i (i+k)) (i+k) j),o++x.extract i (i+k),i+k,j,g,k,d))
   else if (i+k == x.size)=true then pure (.done (some (Ts x y (o++x.extract i (i+k)) (i+k) j),o++x.extract i (i+k),i+k,j,g,k,d))
   else JL x y (o++x.extract i (i+k)) (i+k) j g k d
  else JL x y o i j g k d
 | _=>pure (.done (some (Ts x y o i j),o,i,j,g,c,d))
noncomputable def KP (o:Array Keyed) (i j g c d:Nat):StateT SortSt Sem (ForInStep SG):=if g > 1 then JM x y o i j (g-1) c d else JM x y o i j g c d
noncomputable def KM (o:Array Keyed) (i j g:Nat):StateT SortSt Sem (ForInStep SO):=do
 let c <- forIn [0:x.size+y.size] ((none,o,i,j,0,0):SA) λ_ c=>KN x y g c.2.1 c.2.2.1 c.2.2.2.1 c.2.2.2.2.1 c.2.2.2.2.2
 match c.1 with
 | some r=>pure (.done (some r,c.2.1,c.2.2.1,c.2.2.2.1,g))
 | none=>do
  liftM (rule "list.sort.gallop")
  let c <- forIn [0:x.size+y.size] ((none,c.2.1,c.2.2.1,c.2.2.2.1,g+1,c.2.2.2.2.1,c.2.2.2.2.2):SG) λ_ c=>KP x y c.2.1 c.2.2.1 c.2.2.2.1 c.2.2.2.2.1 c.2.2.2.2.2.1 c.2.2.2.2.2.2
  match c.1 with
  | some r=>pure (.done (some r,c.2.1,c.2.2.1,c.2.2.2.1,c.2.2.2.2.1))
  | none=>do
   sD (c.2.2.2.2.1+1)
   pure (.yield (none,c.2.1,c.2.2.1,c.2.2.2.1,c.2.2.2.2.1+1))
def Ta:AJ x y=(do
  liftM (rule "list.sort.merge-lo")
  let p <- elem' y 0
  if (1 == y.size)=true then pure (Ts x y #[p] 0 1) else if (0+1 == x.size)=true then pure (FP x y #[p] 0 1) else do
  let st <- get
  let c <- forIn [0:x.size+y.size] ((none,#[p],0,1,gallopOf st):SO) λ_ c=>KM x y c.2.1 c.2.2.1 c.2.2.2.1 c.2.2.2.2
  match c.1 with
  | some r=>pure r
  | none=>do unsupported "internal:list.sort.merge-bound"):=by
 refine congrArg (bind _) (funext λ_=>congrArg (bind _) (funext λp=>?_));dsimp only
 refine congr (congrArg (@ite _ _ _) rfl) (congr (congrArg (@ite _ _ _) rfl) (congrArg (bind _) (funext λst=>congr (congrArg bind (congrArg (forIn _ _) (funext λn=>funext λc=>congrArg (bind _) (funext λc=>?_)))) (funext λc=>?_))))
 ·let (r,c):=c;cases r with
  | some r=>rfl
  | none=>
   refine congrArg (bind _) (funext λ_=>congrArg (bind _) (funext λc=>?_));let (r,c):=c;cases r <;> rfl
 ·let (r,c):=c;cases r <;> rfl
end
def lS {l:List Keyed} {i:Nat} {y:Keyed} (h:y ∈ l.drop i):∃k,i<=k/\l[k]?=some y:=by
 let (n,a,e):=r9 h;refine {i+n,∎,?_};rw [<- o9,c8 a,e]
def jQ {l:List Keyed} {i:Nat} {x:Keyed} (f:fN rk l) (e:l[i]?=some x):∀y ∈ l.drop i,rk x<=rk y:=λy b=>by
 let (k,u,a):=lS b
 let (t,r):=c9.mp e
 let (m,h):=c9.mp a
 rcases F7 u with z|z
 ·subst z;rw [e] at a;cases a;exact g9 _
 ·rw [<- r,<- h];exact w9.mp f i k t m z
def nV {x:Array Keyed} {i:Nat} (h:i<x.size):∃p,x[i]?=some p/\x.toList[i]?=some p/\p ∈ x.toList:={x[i],q7 h,by simp [h],by simp}
structure Md (rk:Keyed->Int) (x y o:Array Keyed) (i j n:Nat):Prop where
 m:Mg rk x.toList y.toList o.toList i j
 hi:i+1<x.size
 hj:j<y.size
 sz:n<=o.size
structure Rn (a₀:Array Keyed) (rk:Keyed->Int) (x y:Array Keyed):Prop where
 mx:∀p ∈ x.toList,p ∈ a₀.toList
 my:∀p ∈ y.toList,p ∈ a₀.toList
 sx:fN rk x.toList
 sy:fN rk y.toList
inductive En {γ:Type} (D:Array Keyed->Prop) (G:γ->Prop):Option (Array Keyed)->γ->Prop
 | out {r c} (h:D r):En D G (some r) c
 | on {c} (h:G c):En D G none c
def Eb {γ:Type} (D:Array Keyed->Prop) (G' G:γ->Prop):ForInStep (Option (Array Keyed) × γ)->Prop
 | .done c=>En D G' c.1 c.2
 | .yield c=>c.1=none/\G c.2
variable {x y o:Array Keyed} {i j n g c d:Nat} {st:SortSt} {p q:Keyed}
abbrev Wl (rk:Keyed->Int) (x y:Array Keyed):Array Keyed->Prop:=jF rk x.toList y.toList
abbrev yC {β:Type} (rk:Keyed->Int) (x y:Array Keyed) (n:Nat):Array Keyed × Nat × Nat × β->Prop:=λc=>Md rk x y c.1 c.2.1 c.2.2.1 n
def Md.a (h:Md rk x y o i j n) (R:Rn a₀ rk x y) (b:∀p ∈ y.toList,∀q,x.toList[x.size-1]?=some q->rk p<=rk q) (e:x.toList[i]?=some q) (l:∀v ∈ y.toList.drop j,rk q<=rk v):(i+1+1=x.size->Wl rk x y (FP x y (o.push q) (i+1) j))/\(¬ i+1+1=x.size->Md rk x y (o.push q) (i+1) j (n+1)):=by
 let m:Mg rk x.toList y.toList (o.push q).toList (i+1) j:=by
  rw [M6];exact h.m.pushA R.sx e l
 let k:=h.hi;let f:=h.sz;exact {λz=>m.lastA R.sx R.sy z b,λz=>{m,∎,h.hj,by rw [O5];omega}}
def Md.b (h:Md rk x y o i j n) (R:Rn a₀ rk x y) (e:y.toList[j]?=some p) (l:∀v ∈ x.toList.drop i,rk p<=rk v):(j+1=y.size->Wl rk x y (Ts x y (o.push p) i (j+1)))/\(¬ j+1=y.size->Md rk x y (o.push p) i (j+1) (n+1)):=by
 let m:Mg rk x.toList y.toList (o.push p).toList i (j+1):=by
  rw [M6];exact h.m.pushB R.sy e l
 let f:=h.hj;let a:=h.sz;exact {λz=>m.doneB R.sx (J3 z.symm),λz=>{m,h.hi,∎,by rw [O5];omega}}
def Md.le {a:Nat} (h:Md rk x y o i j n) (l:a<=n):Md rk x y o i j a:={h.m,h.hi,h.hj,n8 l h.sz}
def mG {γ:Type} {D:Array Keyed->Prop} {G' G:γ->Prop} {b:Bool} {u:Prop} [Decidable u] {P:Prop} {r:Array Keyed} {c:γ} (k:P->D r) (h2:¬ P->G c) (l:∀c,G c->G' c) (f:b=true↔P):
  wpS (model prog w) A E s (if b=true then pure (.done (some r,c)) else if u then pure (.done (none,c)) else pure (.yield (none,c)):StateT SortSt Sem (ForInStep (Option (Array Keyed) × γ))) (λr e=>e=st/\Eb D G' G r) st:=by
 by_cases a:b=true
 ·rw [if_pos a];exact j5 {rfl,.out (k (f.mp a))}
 rw [if_neg a];let z:=h2 λz=>a (f.mpr z);by_cases h:u
 ·rw [if_pos h];exact j5 {rfl,.on (l _ z)}
 ·rw [if_neg h];exact j5 {(rfl),rfl,z}
def FR {k:Nat} (D:k<=n+1) (C:oN prog w A E s κ a₀ rk) (G:kindOf st=κ) (R:Rn a₀ rk x y) (J:∀p ∈ y.toList,∀q,x.toList[x.size-1]?=some q->rk p<=rk q) (h:Md rk x y o i j n):wpS (model prog w) A E s (KN x y g o i j c d) (λr t=>t=st/\Eb (Wl rk x y) (yC rk x y k) (yC rk x y (n+1)) r) st:=by
 let (p,F,B,H):=nV h.hj;let (q,v,u,I):=nV (x:=x) (i:=i) (by have:=h.hi;omega);refine i4 (bJ F (i4 (bJ v (i4 (C.lt (R.my p H) (R.mx q I) G ?_)))));dsimp only
 by_cases e:rk p<rk q
 ·rw [if_pos (decide_eq_true e)];let (f,m):=h.b R B λz l=>v5 (x8 e) (jQ R.sx u z l);exact i4 (bJ F (mG f m (λ_ z=>z.le D) beq_iff_eq))
 ·rw [if_neg (by simpa using e)];let (f,m):=h.a R J u λz l=>v5 (K3.mp e) (jQ R.sy B z l);exact i4 (bJ v (mG f m (λ_ z=>z.le D) beq_iff_eq))
def Ww (R:Rn a₀ rk x y) (m:∀p ∈ y.toList,∀q,x.toList[x.size-1]?=some q->rk p<=rk q) (h:Md rk x y o i j n) (k:x[i]?=some q) (f:x.toList[i]?=some q) (l:∀v ∈ y.toList.drop j,rk q<=rk v):wpS (model prog w) A E s (JK x y o i j g c d) (λr b=>b=st/\Eb (Wl rk x y) (yC rk x y n) (yC rk x y n) r) st:=by
 let (e,t):=h.a R m f l;exact i4 (bJ k (mG e (λz=>(t z).le (E6 _)) (λ_ z=>z) beq_iff_eq))
def FS (C:oN prog w A E s κ a₀ rk) (H:kindOf st=κ) (R:Rn a₀ rk x y) (D:∀p ∈ y.toList,∀q,x.toList[x.size-1]?=some q->rk p<=rk q) (h:Md rk x y o i j n):wpS (model prog w) A E s (KO x y o i j g c d) (λr B=>B=st/\Eb (Wl rk x y) (yC rk x y n) (yC rk x y n) r) st:=by
 let I:=h.hi;let O:=h.hj;let P:=h.sz;let (q,l,b,N):=nV (x:=x) (i:=i) ∎;refine i4 (bJ l (i4 (oT C H (R.mx q N) R.my R.sy.drop.take ∎ ∎ λk Q M J=>?_)));dsimp only
 let a:∀v ∈ y.toList.drop (j+k),rk q<=rk v:=λv f=>by
  let (t,S,G):=lS f;let L:=(c9.mp G).1;rw [r6] at L;exact J (t-j) v ∎ ∎ (by rw [show j+(t-j)=t by omega];exact G)
 by_cases F:k > 0
 ·rw [if_pos F];let m:Mg rk x.toList y.toList (o++y.extract j (j+k)).toList i (j+k):=by
   rw [o4,xB];exact h.m.takeB R.sy λu K v f=>v5 (x8 (M u K)) (jQ R.sx b v f)
  by_cases e:(j+k == y.size)=true
  ·rw [if_pos e];exact j5 {rfl,.out (m.doneB R.sx (J3 (beq_iff_eq.mp e).symm))}
  ·rw [if_neg e];have:¬ j+k=y.size:=λz=>e (beq_iff_eq.mpr z);exact Ww R D {m,I,∎,by rw [M7];omega} l b a
 ·rw [if_neg F];obtain rfl:k=0:=∎;exact Ww R D h l b a
def Wx (C:oN prog w A E s κ a₀ rk) (f:kindOf st=κ) (R:Rn a₀ rk x y) (u:∀p ∈ y.toList,∀q,x.toList[x.size-1]?=some q->rk p<=rk q) (h:Md rk x y o i j n) (ep:y[j]?=some p) (t:y.toList[j]?=some p) (l:∀v ∈ x.toList.drop i,rk p<=rk v):wpS (model prog w) A E s (JL x y o i j g c d) (λr a=>a=st/\Eb (Wl rk x y) (yC rk x y n) (yC rk x y n) r) st:=by
 let (k,m):=h.b R t l;refine i4 (bJ ep ?_);by_cases e:(j+1 == y.size)=true
 ·rw [if_pos e];exact j5 {rfl,.out (k (beq_iff_eq.mp e))}
 ·rw [if_neg e];exact FS C f R u ((m λz=>e (beq_iff_eq.mpr z)).le (E6 _))
def Wy {st₀:SortSt} (C:oN prog w A E s κ a₀ rk) (B:kindOf st₀=κ) (N:Sg st₀ st) (R:Rn a₀ rk x y) (I:∀p ∈ y.toList,∀q,x.toList[x.size-1]?=some q->rk p<=rk q) (h:Md rk x y o i j n):wpS (model prog w) A E s (JM x y o i j g c d) (λr b=>Sg st₀ b/\Eb (Wl rk x y) (yC rk x y n) (yC rk x y n) r) st:=by
 let W:=h.hi;let L:=h.hj;let X:=h.sz;let (p,G,H,M):=nV h.hj;refine i4 (kZ N λF a=>i4 (bJ G (i4 (oS C (a.kind.trans B) (R.my p M) R.mx R.sx.drop.take ∎ ∎ λk Y S O=>?_))));dsimp only
 let f:∀v ∈ x.toList.drop (i+k),rk p<=rk v:=λv D=>by
  let (t,Z,K):=lS D;let Q:=(c9.mp K).1;rw [r6] at Q;exact x8 (O (t-i) v ∎ ∎ (by rw [show i+(t-i)=t by omega];exact K))
 refine K2 ?_ λr b (z:b=F/\_)=>{z.1 ▸ a,z.2};by_cases J:k > 0
 ·rw [if_pos J];let m:Mg rk x.toList y.toList (o++x.extract i (i+k)).toList (i+k) j:=by
   rw [o4,xB];exact h.m.takeA R.sx λu P v D=>v5 (S u P) (jQ R.sy H v D)
  by_cases e:(i+k+1 == x.size)=true
  ·rw [if_pos e];exact j5 {rfl,.out (m.lastA R.sx R.sy (beq_iff_eq.mp e) I)}
  rw [if_neg e];by_cases l:(i+k == x.size)=true
  ·rw [if_pos l];exact j5 {rfl,.out (m.doneA R.sy (J3 (beq_iff_eq.mp l).symm))}
  rw [if_neg l];let T:¬ i+k+1=x.size:=λz=>e (beq_iff_eq.mpr z);let U:¬ i+k=x.size:=λz=>l (beq_iff_eq.mpr z);exact Wx C (a.kind.trans B) R I {m,∎,L,by rw [M7];omega} G H f
 ·rw [if_neg J];obtain rfl:k=0:=∎;exact Wx C (a.kind.trans B) R I h G H f
def jP {γ:Type} {D:Array Keyed->Prop} {G:Nat->γ->Prop} {G':γ->Prop} {S:SortSt->Prop} {m:Nat} {f:Nat->(Option (Array Keyed) × γ)->StateT SortSt Sem (ForInStep (Option (Array Keyed) × γ))} {c:γ} {Q:(Option (Array Keyed) × γ)->SortSt->Prop} (v:G 0 c) (u:S st)
  (C:∀t c st,G t c->S st->wpS (model prog w) A E s (f t (none,c)) (λr a=>S a/\Eb D G' (G (t+1)) r) st) (B:∀c,G m c->G' c) (h:∀r c a,S a->En D G' r c->Q (r,c) a):wpS (model prog w) A E s (forIn [0:m] (none,c) f) Q st:=by
 refine D0 (I:=λt c a=>S a/\c.1=none/\G t c.2) (λt c a _ _ z=>?_) (λc a z=>?_) {(u),rfl,v}
 ·let (e,k,b):=z;let (r,c):=c;obtain rfl:r=none:=k;refine K2 (C t c a b e) λr l z=>?_;cases r with
  | done c=>exact h c.1 c.2 l z.1 z.2
  | yield c=>exact z
 ·let (e,k,b):=z;let (r,c):=c;obtain rfl:r=none:=k;rw [Nat.max_eq_right (i8 _)] at b;exact h _ _ _ e (.on (B _ b))
def FQ {st₀:SortSt} (C:oN prog w A E s κ a₀ rk) (b:kindOf st₀=κ) (f:Sg st₀ st) (R:Rn a₀ rk x y) (m:∀p ∈ y.toList,∀q,x.toList[x.size-1]?=some q->rk p<=rk q) (h:Md rk x y o i j n):wpS (model prog w) A E s (KM x y o i j g) (λr a=>Sg st₀ a/\Eb (Wl rk x y) (λ_=>False) (yC rk x y (n+1)) r) st:=by
 refine i4 (jP (D:=Wl rk x y) (G:=λt=>yC rk x y (n+t)) (G':=yC rk x y (n+1)) (S:=λa=>a=st) h rfl (λt c a h e=>?_) (λc h=>h.le (by have:=h.hi;omega)) λr c a e k=>?_)
 ·cases e;exact FR (N7 (N6 n t)) C (f.kind.trans b) R m h
 cases e;cases k with
 | out h=>exact j5 {f,.out h}
 | on h=>
  refine i4 (P3 (F4 {rfl,?_}));refine i4 (jP (D:=Wl rk x y) (G:=λ_=>yC rk x y (n+1)) (G':=yC rk x y (n+1)) (S:=Sg st₀) h f (λt c a h e=>?_) (λc h=>h) λr c a e k=>?_)
  ·dsimp only [KP];by_cases u:c.2.2.2.1 > 1
   ·rw [if_pos u];exact Wy C b e R m h
   ·rw [if_neg u];exact Wy C b e R m h
  cases k with
  | out h=>exact j5 {e,.out h}
  | on h=>exact i4 (kZ e λv l=>j5 {(l),rfl,h})
def Pt {Q:Array Keyed->SortSt->Prop} (C:oN prog w A E s κ a₀ rk) (H:kindOf st=κ)
  (J:∀p ∈ x.toList,p ∈ a₀.toList) (N:∀p ∈ y.toList,p ∈ a₀.toList) (l:fN rk x.toList) (u:fN rk y.toList) (T:1<=x.size) (P:1<=y.size)
  (M:∀p,y.toList[0]?=some p->∀q ∈ x.toList,rk p<=rk q) (F:∀p ∈ y.toList,∀q,x.toList[x.size-1]?=some q->rk p<=rk q)
  (h:∀r a,jF rk x.toList y.toList r->Sg st a->Q r a):wpS (model prog w) A E s (AJ x y) Q st:=by
 rw [Ta];let (v,I,B,_):=nV (x:=y) (i:=0) ∎;refine i4 (P3 (F4 {rfl,i4 (bJ I ?_)}));let k:Mg rk x.toList y.toList (#[v]:Array Keyed).toList 0 1:=by
  let z:Mg rk x.toList y.toList [] 0 0:={by simp,G6,λ_ h=>(nomatch h),λ_ h=>(nomatch h)};exact z.pushB u B (by rw [E7];exact M v B)
 by_cases f:(1 == y.size)=true
 ·rw [if_pos f];exact j5 (h _ _ (k.doneB l (J3 (beq_iff_eq.mp f).symm)) Sg.refl)
 rw [if_neg f];let K:¬ 1=y.size:=λz=>f (beq_iff_eq.mpr z);by_cases b:(0+1 == x.size)=true
 ·rw [if_pos b];exact j5 (h _ _ (k.lastA l u (beq_iff_eq.mp b) F) Sg.refl)
 rw [if_neg b];let O:¬ 0+1=x.size:=λz=>b (beq_iff_eq.mpr z);refine i4 (J6 (i4 (jP (D:=Wl rk x y) (G:=λt=>yC rk x y (t+1)) (G':=λ_=>False) (S:=Sg st) {k,(by omega:0+1<x.size),(by omega:1<y.size),d7 _} Sg.refl (λt c a h e=>FQ C H e {(J),N,l,u} F h) (λc h=>?_) λr c a e L=>?_)))
 ·have:=h.m.len;have:=h.sz;rw [r6,r6,r6] at *;omega
 cases L with
 | out z=>exact j5 (h _ _ z e)
 | on z=>exact z.elim
structure Mh (rk:Keyed->Int) (a b:List Keyed) (o:List Keyed) (n m:Nat):Prop where
 perm:(a.take n++b.take m++o).Perm (a++b)
 srt:fN rk o
 la:∀y ∈ a.take n,∀x ∈ o,rk y<=rk x
 lb:∀y ∈ b.take m,∀x ∈ o,rk y<=rk x
def Mh.len {rk:Keyed->Int} {a b o:List Keyed} {n m:Nat} (h:Mh rk a b o n m):min n a.length+min m b.length+o.length=a.length+b.length:=by
 have:=h.perm.length_eq;simp at this;omega
def oW {a:List Keyed} {i n:Nat} (hi:i<=n):a.take n=a.take i++(a.drop i).take (n-i):=by
 rw [<- Q3];congr 1;omega
def Mh.takeA {rk:Keyed->Int} {a b o:List Keyed} {n m i:Nat} (h:Mh rk a b o n m) (k:fN rk a) (hi:i<=n) (t:∀x ∈ (a.drop i).take (n-i),∀y ∈ b.take m,rk y<=rk x):Mh rk a b ((a.drop i).take (n-i)++o) i m:=by
 let e:=oW (a:=a) hi;let l:fN rk (a.take i++(a.drop i).take (n-i)):=e ▸ k.take;refine {?_,k.drop.take.app h.srt λu z v r=>h.la u (by rw [e];exact i9 _ z) v r,λy f x hx=>?_,λy f x hx=>?_}
 ·refine List.Perm.trans ?_ h.perm;rw [e];have:(b.take m++(a.drop i).take (n-i)).Perm ((a.drop i).take (n-i)++b.take m):=List.perm_append_comm;have:=(this.append_left (a.take i)).append_right o;simpa [q8] using this
 ·rcases j1.mp hx with hx|hx
  ·exact(C4.mp l).2.2 y f x hx
  ·exact h.la y (by rw [e];exact A4 _ f) x hx
 ·rcases j1.mp hx with hx|hx
  ·exact t x hx y f
  ·exact h.lb y f x hx
def Mh.takeB {rk:Keyed->Int} {a b o:List Keyed} {n m j:Nat} (h:Mh rk a b o n m) (k:fN rk b) (r:j<=m) (z:∀x ∈ (b.drop j).take (m-j),∀y ∈ a.take n,rk y<=rk x):Mh rk a b ((b.drop j).take (m-j)++o) n j:=by
 let e:=oW (a:=b) r;let l:fN rk (b.take j++(b.drop j).take (m-j)):=e ▸ k.take;refine {?_,k.drop.take.app h.srt λu B v t=>h.lb u (by rw [e];exact i9 _ B) v t,λy f x hx=>?_,λy f x hx=>?_}
 ·refine List.Perm.trans ?_ h.perm;rw [e];simp [q8]
 ·rcases j1.mp hx with hx|hx
  ·exact z x hx y f
  ·exact h.la y f x hx
 ·rcases j1.mp hx with hx|hx
  ·exact(C4.mp l).2.2 y f x hx
  ·exact h.lb y (by rw [e];exact A4 _ f) x hx
def Mh.pushA {rk:Keyed->Int} {a b o:List Keyed} {n m:Nat} {x:Keyed} (h:Mh rk a b o n m) (k:fN rk a) (r:1<=n) (e:a[n-1]?=some x) (l:∀y ∈ b.take m,rk y<=rk x):Mh rk a b (x::o) (n-1) m:=by
 let z:(a.drop (n-1)).take (n-(n-1))=[x]:=by rw [show n-(n-1)=1 by omega];exact gQ e
 have:=h.takeA (i:=n-1) k ∎ (by rw [z];intro u f;cases l9.mp f;exact l);rwa [z] at this
def Mh.pushB {rk:Keyed->Int} {a b o:List Keyed} {n m:Nat} {x:Keyed} (h:Mh rk a b o n m) (f:fN rk b) (r:1<=m) (e:b[m-1]?=some x) (k:∀y ∈ a.take n,rk y<=rk x):Mh rk a b (x::o) n (m-1):=by
 let z:(b.drop (m-1)).take (m-(m-1))=[x]:=by rw [show m-(m-1)=1 by omega];exact gQ e
 have:=h.takeB (j:=m-1) f ∎ (by rw [z];intro u l;cases l9.mp l;exact k);rwa [z] at this
def jY {α:Type} {a:Array α} {n:Nat}:(a.extract 0 n).toList=a.toList.take n:=by
 rw [K4,E1];simp
def oE {α:Type} {a:Array α} {i n:Nat}:(a.extract i n).toList=(a.toList.drop i).take (n-i):=by
 rw [K4,E1]
def Mh.doneA {rk:Keyed->Int} {a b:Array Keyed} {o:Array Keyed} {m:Nat} (h:Mh rk a.toList b.toList o.toList.reverse 0 m) (f:fN rk b.toList):jF rk a.toList b.toList (a.extract 0 0++b.extract 0 m++o.reverse):=by
 let e:(a.extract 0 0++b.extract 0 m++o.reverse).toList=b.toList.take m++o.toList.reverse:=by
  rw [o4,o4,jY,jY,E3];simp
 refine {?_,?_}
 ·rw [e];simpa using h.perm
 ·rw [e];exact f.take.app h.srt h.lb
def Mh.doneB {rk:Keyed->Int} {a b:Array Keyed} {o:Array Keyed} {n:Nat} (h:Mh rk a.toList b.toList o.toList.reverse n 0) (f:fN rk a.toList):jF rk a.toList b.toList (a.extract 0 n++b.extract 0 0++o.reverse):=by
 let e:(a.extract 0 n++b.extract 0 0++o.reverse).toList=a.toList.take n++o.toList.reverse:=by
  rw [o4,o4,jY,jY,E3];simp
 refine {?_,?_}
 ·rw [e];simpa using h.perm
 ·rw [e];exact f.take.app h.srt h.la
def Mh.firstB {rk:Keyed->Int} {a b:Array Keyed} {o:Array Keyed} {n:Nat} (h:Mh rk a.toList b.toList o.toList.reverse n 1) (t:fN rk a.toList) (r:fN rk b.toList) (m:∀p,b.toList[0]?=some p->∀q ∈ a.toList,rk p<=rk q):jF rk a.toList b.toList (b.extract 0 1++a.extract 0 n++o.reverse):=by
 let k:(b.extract 0 1++a.extract 0 n++o.reverse).toList=b.toList.take 1++a.toList.take n++o.toList.reverse:=by
  rw [o4,o4,jY,jY,E3]
 refine {?_,?_}
 ·rw [k];exact(List.perm_append_comm.append_right _).trans h.perm
 ·rw [k];refine(r.take.app t.take λu hu v f=>?_).app h.srt λu hu v f=>?_
  ·let (i,l,e):=r9 hu;let z:i=0:=by simp at l;omega
   subst z;refine m u ?_ v (y4 f);have:=c8 l;rw [t9 ∎] at this;rw [this,e]
  ·rcases j1.mp hu with hu|hu
   ·exact h.lb u hu v f
   ·exact h.la u hu v f
noncomputable def Mx:Array Keyed->Array Keyed->StateT SortSt Sem (Array Keyed):=sortPriv% PySem.Builtin.mergeHi
abbrev LA:=Option (Array Keyed) × Nat × Nat × Array Keyed × Nat × Nat
abbrev CQ:=Option (Array Keyed) × Nat × Nat × Array Keyed × Nat × Nat × Nat
abbrev KZ:=Option (Array Keyed) × Nat × Nat × Array Keyed × Nat
section
variable (x y:Array Keyed)
noncomputable def Tu (o:Array Keyed) (i j:Nat):=x.extract 0 i++y.extract 0 j++o.reverse
noncomputable def GD (o:Array Keyed) (i j:Nat):=y.extract 0 j++x.extract 0 i++o.reverse
noncomputable def KR (g i j:Nat) (o:Array Keyed) (c d:Nat):StateT SortSt Sem (ForInStep LA):=
 elem' y (j-1) >>= λp=>elem' x (i-1) >>= λq=>lt' p q >>= λr=>match r with
 | some w=>if w=true then elem' x (i-1) >>= λq=>
   if (i-1 == 0)=true then pure (.done (some (Tu x y (o.push q) (i-1) j),i-1,j,o.push q,c+1,0))
   else if c+1 ≥ g then pure (.done (none,i-1,j,o.push q,c+1,0)) else pure (.yield (none,i-1,j,o.push q,c+1,0))
  else elem' y (j-1) >>= λp=>
   if (j-1 == 1)=true then pure (.done (some (GD x y (o.push p) i (j-1)),i,j-1,o.push p,0,d+1))
   else if d+1 ≥ g then pure (.done (none,i,j-1,o.push p,0,d+1)) else pure (.yield (none,i,j-1,o.push p,0,d+1))
 | _=>pure (.done (some (Tu x y o i j),i,j,o,c,d))
noncomputable def JR (i j:Nat) (o:Array Keyed) (g c d:Nat):StateT SortSt Sem (ForInStep CQ):=
 elem' x (i-1) >>= λq=>
 if (i-1 == 0)=true then pure (.done (some (Tu x y (o.push q) (i-1) j),i-1,j,o.push q,g,c,d))
 else if (c<7 && d<7)=true then pure (.done (none,i-1,j,o.push q,g,c,d)) else pure (.yield (none,i-1,j,o.push q,g,c,d))
noncomputable def KS (i j:Nat) (o:Array Keyed) (g c d:Nat):StateT SortSt Sem (ForInStep CQ):=
 elem' x (i-1) >>= λq=>eY true q y 0 j (j-1) >>= λr=>match r with
 | some t=>if j-t > 0 then
   if (t == 1)=true then pure (.done (some (GD x y (o++(y.extract t j).reverse) i t),i,t,o++(y.extract t j).reverse,g,c,j-t))
   else if (t == 0)=true then pure (.done (some (Tu x y (o++(y.extract t j).reverse) i t),i,t,o++(y.extract t j).reverse,g,c,j-t))
   else JR x y i t (o++(y.extract t j).reverse) g c (j-t)
  else JR x y i j o g c (j-t)
 | _=>pure (.done (some (Tu x y o i j),i,j,o,g,c,d))
noncomputable def JS (i j:Nat) (o:Array Keyed) (g c d:Nat):StateT SortSt Sem (ForInStep CQ):=
 elem' y (j-1) >>= λp=>
 if (j-1 == 1)=true then pure (.done (some (GD x y (o.push p) i (j-1)),i,j-1,o.push p,g,c,d)) else KS x y i (j-1) (o.push p) g c d
noncomputable def JT (i j:Nat) (o:Array Keyed) (g c d:Nat):StateT SortSt Sem (ForInStep CQ):=
 sD g >>= λ_=>elem' y (j-1) >>= λp=>eY false p x 0 i (i-1) >>= λr=>match r with
 | some t=>if i-t > 0 then
   if (t == 0)=true then pure (.done (some (Tu x y (o++(x.extract t i).reverse) t j),t,j,o++(x.extract t i).reverse,g,i-t,d))
   else JS x y t j (o++(x.extract t i).reverse) g (i-t) d
  else JS x y i j o g (i-t) d
 | _=>pure (.done (some (Tu x y o i j),i,j,o,g,c,d))
noncomputable def KU (i j:Nat) (o:Array Keyed) (g c d:Nat):StateT SortSt Sem (ForInStep CQ):=if g > 1 then JT x y i j o (g-1) c d else JT x y i j o g c d
noncomputable def KQ (i j:Nat) (o:Array Keyed) (g:Nat):StateT SortSt Sem (ForInStep KZ):=do
 let c <- forIn [0:x.size+y.size] ((none,i,j,o,0,0):LA) λ_ c=>KR x y g c.2.1 c.2.2.1 c.2.2.2.1 c.2.2.2.2.1 c.2.2.2.2.2
 match c.1 with
 | some r=>pure (.done (some r,c.2.1,c.2.2.1,c.2.2.2.1,g))
 | none=>do
  liftM (rule "list.sort.gallop")
  let c <- forIn [0:x.size+y.size] ((none,c.2.1,c.2.2.1,c.2.2.2.1,g+1,c.2.2.2.2.1,c.2.2.2.2.2):CQ) λ_ c=>KU x y c.2.1 c.2.2.1 c.2.2.2.1 c.2.2.2.2.1 c.2.2.2.2.2.1 c.2.2.2.2.2.2
  match c.1 with
  | some r=>pure (.done (some r,c.2.1,c.2.2.1,c.2.2.2.1,c.2.2.2.2.1))
  | none=>do
   sD (c.2.2.2.2.1+1)
   pure (.yield (none,c.2.1,c.2.2.1,c.2.2.2.1,c.2.2.2.2.1+1))
def Mw:Mx x y=(do
  liftM (rule "list.sort.merge-hi")
  let q <- elem' x (x.size-1)
  if (x.size-1 == 0)=true then pure (Tu x y #[q] (x.size-1) y.size) else if (y.size == 1)=true then pure (GD x y #[q] (x.size-1) y.size) else do
  let st <- get
  let c <- forIn [0:x.size+y.size] ((none,x.size-1,y.size,#[q],gallopOf st):KZ) λ_ c=>KQ x y c.2.1 c.2.2.1 c.2.2.2.1 c.2.2.2.2
  match c.1 with
  | some r=>pure r
  | none=>do unsupported "internal:list.sort.merge-bound"):=by
 refine congrArg (bind _) (funext λ_=>congrArg (bind _) (funext λp=>?_));dsimp only
 refine congr (congrArg (@ite _ _ _) rfl) (congr (congrArg (@ite _ _ _) rfl) (congrArg (bind _) (funext λst=>congr (congrArg bind (congrArg (forIn _ _) (funext λn=>funext λc=>congrArg (bind _) (funext λc=>?_)))) (funext λc=>?_))))
 ·let (r,c):=c;cases r with
  | some r=>rfl
  | none=>
   refine congrArg (bind _) (funext λ_=>congrArg (bind _) (funext λc=>?_));let (r,c):=c;cases r <;> rfl
 ·let (r,c):=c;cases r <;> rfl
end
def lD {l:List Keyed} {n:Nat} {y:Keyed} (h:y ∈ l.take n):∃k,k<n/\l[k]?=some y:=by
 let (k,b,e):=r9 h;let a:k<n:=by simp at b;omega
 refine {k,a,?_};have:=c8 b;rw [t9 a] at this;rw [this,e]
def lF {l:List Keyed} {n:Nat} {x:Keyed} (f:fN rk l) (e:l[n-1]?=some x):∀y ∈ l.take n,rk y<=rk x:=λy b=>by
 let (k,u,a):=lD b
 let (t,r):=c9.mp e
 let (m,h):=c9.mp a
 rcases F7 (show k<=n-1 by omega) with z|z
 ·subst z;rw [e] at a;cases a;exact g9 _
 ·rw [<- r,<- h];exact w9.mp f k (n-1) m t z
def Dg {l:List Keyed} {i n:Nat} {y:Keyed} (h:y ∈ (l.drop i).take (n-i)):∃k,i<=k/\k<n/\l[k]?=some y:=by
 let (k,a,e):=lD h;rw [o9] at e;exact {i+k,∎,∎,e}
structure Nd (rk:Keyed->Int) (x y:Array Keyed) (i j:Nat) (o:Array Keyed) (n:Nat):Prop where
 m:Mh rk x.toList y.toList o.toList.reverse i j
 i1:1<=i
 ix:i<=x.size
 j2:2<=j
 jy:j<=y.size
 sz:n<=o.size
variable {x y o:Array Keyed} {i j n g c d:Nat} {st:SortSt} {p q:Keyed}
abbrev yD {β:Type} (rk:Keyed->Int) (x y:Array Keyed) (n:Nat):Nat × Nat × Array Keyed × β->Prop:=λc=>Nd rk x y c.1 c.2.1 c.2.2.1 n
def Nd.a (h:Nd rk x y i j o n) (R:Rn a₀ rk x y) (e:x.toList[i-1]?=some q) (l:∀v ∈ y.toList.take j,rk v<=rk q):(i-1=0->Wl rk x y (Tu x y (o.push q) (i-1) j))/\(¬ i-1=0->Nd rk x y (i-1) j (o.push q) (n+1)):=by
 let m:Mh rk x.toList y.toList (o.push q).toList.reverse (i-1) j:=by
  rw [M6,K9];exact h.m.pushA R.sx h.i1 e l
 let f:=h.ix;let b:=h.sz;exact {λz=>by rw [z] at m ⊢;exact m.doneA R.sy,λz=>{m,∎,∎,h.j2,h.jy,by rw [O5];omega}}
def Nd.b (h:Nd rk x y i j o n) (R:Rn a₀ rk x y) (a:∀p,y.toList[0]?=some p->∀q ∈ x.toList,rk p<=rk q) (e:y.toList[j-1]?=some p) (l:∀v ∈ x.toList.take i,rk v<=rk p):(j-1=1->Wl rk x y (GD x y (o.push p) i (j-1)))/\(¬ j-1=1->Nd rk x y i (j-1) (o.push p) (n+1)):=by
 let k:=h.j2;let m:Mh rk x.toList y.toList (o.push p).toList.reverse i (j-1):=by
  rw [M6,K9];exact h.m.pushB R.sy ∎ e l
 let f:=h.jy;let r:=h.sz;exact {λz=>by rw [z] at m ⊢;exact m.firstB R.sx R.sy a,λz=>{m,h.i1,h.ix,∎,∎,by rw [O5];omega}}
def Nd.le {a:Nat} (h:Nd rk x y i j o n) (l:a<=n):Nd rk x y i j o a:={h.m,h.i1,h.ix,h.j2,h.jy,n8 l h.sz}
def AW {k:Nat} (D:k<=n+1) (C:oN prog w A E s κ a₀ rk) (G:kindOf st=κ) (R:Rn a₀ rk x y) (H:∀p,y.toList[0]?=some p->∀q ∈ x.toList,rk p<=rk q) (h:Nd rk x y i j o n):wpS (model prog w) A E s (KR x y g i j o c d) (λr t=>t=st/\Eb (Wl rk x y) (yD rk x y k) (yD rk x y (n+1)) r) st:=by
 let (p,F,B,I):=nV (x:=y) (i:=j-1) (by have:=h.j2;have:=h.jy;omega);let (q,v,u,J):=nV (x:=x) (i:=i-1) (by have:=h.i1;have:=h.ix;omega);refine i4 (bJ F (i4 (bJ v (i4 (C.lt (R.my p I) (R.mx q J) G ?_)))));dsimp only
 by_cases e:rk p<rk q
 ·rw [if_pos (decide_eq_true e)];let (f,m):=h.a R u λz l=>v5 (lF R.sy B z l) (x8 e);exact i4 (bJ v (mG f m (λ_ z=>z.le D) beq_iff_eq))
 ·rw [if_neg (by simpa using e)];let (f,m):=h.b R H B λz l=>v5 (lF R.sx u z l) (K3.mp e);exact i4 (bJ F (mG f m (λ_ z=>z.le D) beq_iff_eq))
def Mt (R:Rn a₀ rk x y) (h:Nd rk x y i j o n) (k:x[i-1]?=some q) (f:x.toList[i-1]?=some q) (l:∀v ∈ y.toList.take j,rk v<=rk q):wpS (model prog w) A E s (JR x y i j o g c d) (λr b=>b=st/\Eb (Wl rk x y) (yD rk x y n) (yD rk x y n) r) st:=by
 let (e,m):=h.a R f l;exact i4 (bJ k (mG e (λz=>(m z).le (E6 _)) (λ_ z=>z) beq_iff_eq))
def AX (C:oN prog w A E s κ a₀ rk) (I:kindOf st=κ) (R:Rn a₀ rk x y) (N:∀p,y.toList[0]?=some p->∀q ∈ x.toList,rk p<=rk q) (h:Nd rk x y i j o n):wpS (model prog w) A E s (KS x y i j o g c d) (λr B=>B=st/\Eb (Wl rk x y) (yD rk x y n) (yD rk x y n) r) st:=by
 let (J,L,K,W,X,U):=id h;let (q,D,f,T):=nV (x:=x) (i:=i-1) ∎;refine i4 (bJ D (i4 (oT C I (R.mx q T) R.my R.sy.drop.take ∎ ∎ λt M S P=>?_)));dsimp only
 let a:∀v ∈ y.toList.take t,rk v<=rk q:=λv l=>x8 (S v (by rw [E7];exact l));by_cases H:j-t > 0
 ·rw [if_pos H];let m:Mh rk x.toList y.toList (o++(y.extract t j).reverse).toList.reverse i t:=by
   rw [o4,K9,E3,List.reverse_reverse,oE];refine J.takeB R.sy M λu Q v l=>?_;let (k,F,G,O):=Dg Q;exact v5 (lF R.sx f v l) (P k u F G (by rw [Nat.zero_add];exact O))
  by_cases e:(t == 1)=true
  ·rw [if_pos e];refine j5 {rfl,.out ?_};rw [beq_iff_eq.mp e] at m ⊢;exact m.firstB R.sx R.sy N
  rw [if_neg e];by_cases b:(t == 0)=true
  ·rw [if_pos b];refine j5 {rfl,.out ?_};rw [beq_iff_eq.mp b] at m ⊢;exact m.doneB R.sx
  rw [if_neg b];let F:¬ t=1:=λz=>e (beq_iff_eq.mpr z);let G:¬ t=0:=λz=>b (beq_iff_eq.mpr z);exact Mt R {m,L,K,∎,∎,by rw [M7];omega} D f a
 ·rw [if_neg H];obtain rfl:t=j:=∎;exact Mt R h D f a
def Mu (C:oN prog w A E s κ a₀ rk) (k:kindOf st=κ) (R:Rn a₀ rk x y) (f:∀p,y.toList[0]?=some p->∀q ∈ x.toList,rk p<=rk q) (h:Nd rk x y i j o n) (ep:y[j-1]?=some p) (u:y.toList[j-1]?=some p) (l:∀v ∈ x.toList.take i,rk v<=rk p):wpS (model prog w) A E s (JS x y i j o g c d) (λr a=>a=st/\Eb (Wl rk x y) (yD rk x y n) (yD rk x y n) r) st:=by
 let (m,t):=h.b R f u l;refine i4 (bJ ep ?_);by_cases e:(j-1 == 1)=true
 ·rw [if_pos e];exact j5 {rfl,.out (m (beq_iff_eq.mp e))}
 ·rw [if_neg e];exact AX C k R f ((t λz=>e (beq_iff_eq.mpr z)).le (E6 _))
def Mv {st₀:SortSt} (C:oN prog w A E s κ a₀ rk) (l:kindOf st₀=κ) (Q:Sg st₀ st) (R:Rn a₀ rk x y) (J:∀p,y.toList[0]?=some p->∀q ∈ x.toList,rk p<=rk q) (h:Nd rk x y i j o n):wpS (model prog w) A E s (JT x y i j o g c d) (λr b=>Sg st₀ b/\Eb (Wl rk x y) (yD rk x y n) (yD rk x y n) r) st:=by
 let (K,Y,X,M,W,Z):=id h;let (p,F,G,P):=nV (x:=y) (i:=j-1) ∎;refine i4 (kZ Q λD a=>i4 (bJ F (i4 (oS C (a.kind.trans l) (R.my p P) R.mx R.sx.drop.take ∎ ∎ λt N U S=>?_))));dsimp only
 let f:∀v ∈ x.toList.take t,rk v<=rk p:=λv B=>U v (by rw [E7];exact B);refine K2 ?_ λr b (z:b=D/\_)=>{z.1 ▸ a,z.2};by_cases I:i-t > 0
 ·rw [if_pos I];let m:Mh rk x.toList y.toList (o++(x.extract t i).reverse).toList.reverse t j:=by
   rw [o4,K9,E3,List.reverse_reverse,oE];refine K.takeA R.sx N λu T v B=>?_;let (k,H,L,O):=Dg T;exact v5 (lF R.sy G v B) (x8 (S k u H L (by rw [Nat.zero_add];exact O)))
  by_cases e:(t == 0)=true
  ·rw [if_pos e];refine j5 {rfl,.out ?_};rw [beq_iff_eq.mp e] at m ⊢;exact m.doneA R.sy
  rw [if_neg e];let H:¬ t=0:=λz=>e (beq_iff_eq.mpr z);exact Mu C (a.kind.trans l) R J {m,∎,∎,M,W,by rw [M7];omega} F G f
 ·rw [if_neg I];obtain rfl:t=i:=∎;exact Mu C (a.kind.trans l) R J h F G f
def AV {st₀:SortSt} (C:oN prog w A E s κ a₀ rk) (b:kindOf st₀=κ) (k:Sg st₀ st) (R:Rn a₀ rk x y) (f:∀p,y.toList[0]?=some p->∀q ∈ x.toList,rk p<=rk q) (h:Nd rk x y i j o n):wpS (model prog w) A E s (KQ x y i j o g) (λr a=>Sg st₀ a/\Eb (Wl rk x y) (λ_=>False) (yD rk x y (n+1)) r) st:=by
 refine i4 (jP (D:=Wl rk x y) (G:=λt=>yD rk x y (n+t)) (G':=yD rk x y (n+1)) (S:=λa=>a=st) h rfl (λt c a h e=>?_) (λc h=>h.le (by have:=h.i1;have:=h.ix;omega)) λr c a e l=>?_)
 ·cases e;exact AW (N7 (N6 n t)) C (k.kind.trans b) R f h
 cases e;cases l with
 | out h=>exact j5 {k,.out h}
 | on h=>
  refine i4 (P3 (F4 {rfl,?_}));refine i4 (jP (D:=Wl rk x y) (G:=λ_=>yD rk x y (n+1)) (G':=yD rk x y (n+1)) (S:=Sg st₀) h k (λt c a h e=>?_) (λc h=>h) λr c a e l=>?_)
  ·dsimp only [KU];by_cases u:c.2.2.2.1 > 1
   ·rw [if_pos u];exact Mv C b e R f h
   ·rw [if_neg u];exact Mv C b e R f h
  cases l with
  | out h=>exact j5 {e,.out h}
  | on h=>exact i4 (kZ e λv m=>j5 {(m),rfl,h})
def Hg {Q:Array Keyed->SortSt->Prop} (C:oN prog w A E s κ a₀ rk) (I:kindOf st=κ)
  (L:∀p ∈ x.toList,p ∈ a₀.toList) (T:∀p ∈ y.toList,p ∈ a₀.toList) (l:fN rk x.toList) (u:fN rk y.toList) (P:1<=x.size) (W:1<=y.size)
  (F:∀p,y.toList[0]?=some p->∀q ∈ x.toList,rk p<=rk q) (J:∀p ∈ y.toList,∀q,x.toList[x.size-1]?=some q->rk p<=rk q)
  (h:∀r a,jF rk x.toList y.toList r->Sg st a->Q r a):wpS (model prog w) A E s (Mx x y) Q st:=by
 rw [Mw];let (B,K,H,_):=nV (x:=x) (i:=x.size-1) ∎;refine i4 (P3 (F4 {rfl,i4 (bJ K ?_)}));let b:Mh rk x.toList y.toList (#[B]:Array Keyed).toList.reverse (x.size-1) y.size:=by
  let z:Mh rk x.toList y.toList [] x.size y.size:={by rw [o7 (by simp),o7 (by simp)];simp,G6,λ_ _ _ h=>(nomatch h),λ_ _ _ h=>(nomatch h)};exact z.pushA l P H λv M=>J v (y4 M) B H
 by_cases k:(x.size-1 == 0)=true
 ·rw [if_pos k];rw [beq_iff_eq.mp k] at b ⊢;exact j5 (h _ _ (b.doneA u) Sg.refl)
 rw [if_neg k];let N:¬ x.size-1=0:=λz=>k (beq_iff_eq.mpr z);by_cases f:(y.size == 1)=true
 ·rw [if_pos f];rw [beq_iff_eq.mp f] at b ⊢;exact j5 (h _ _ (b.firstB l u F) Sg.refl)
 rw [if_neg f];let U:¬ y.size=1:=λz=>f (beq_iff_eq.mpr z);refine i4 (J6 (i4 (jP (D:=Wl rk x y) (G:=λt=>yD rk x y (t+1)) (G':=λ_=>False) (S:=Sg st) {b,(by omega:1<=x.size-1),(by omega:x.size-1<=x.size),(by omega:2<=y.size),d7 _,d7 _} Sg.refl (λt c a h e=>AV C I e {(L),T,l,u} F h) (λc h=>?_) λr c a e O=>?_)))
 ·have:=h.m.len;have:=h.sz;have:=h.i1;have:=h.j2;have:=h.ix;have:=h.jy;rw [List.length_reverse,r6,r6,r6] at *;omega
 cases O with
 | out z=>exact j5 (h _ _ z e)
 | on z=>exact z.elim
def dd {α:Type} (l:List α) (a b:Nat):l.drop (a+b)=(l.drop a).drop b:=by rw [C7]
theorem Kc {α:Type} (b:Nat):∀(m:List α) (a:Array α) (j:Nat),b+j+m.length<=a.size ->
  ((m.zipIdx j).foldl (λa (x:α × Nat)=>match x with|(p,i)=>a.setIfInBounds (b+i) p) a).toList=a.toList.take (b+j)++(m++a.toList.drop (b+j+m.length))
 | [],a,j,h=>by simp
 | p::r,a,j,h=>by
  rw [List.zipIdx_cons,L3]
  simp only [j4] at h
  rw [Kc b r _ (j+1) (by simp;omega)]
  simp only [Array.toList_setIfInBounds,j4]
  let c:b+j<a.toList.length:=by simp;omega
  rw [show b+(j+1)=b+j+1 by omega]
  let e:(a.toList.set (b+j) p).take (b+j+1)=a.toList.take (b+j)++[p]:=by
   rw [List.take_set,List.take_succ_eq_append_getElem c,List.set_append_right _ _ (by simp;omega)];simp [x0 (A7 c)];have:b+j-min (b+j) a.size=0:=by simp at c;omega
   rw [this];rfl
  let d:(a.toList.set (b+j) p).drop (b+j+1+r.length)=a.toList.drop (b+j+(r.length+1)):=by
   rw [List.drop_set_of_lt ∎];congr 1;omega
  rw [e,d];simp
def Rm {α:Type} (l r:List α) {a na b k m:Nat} (c:k<=na) (d:m<=b):l.take (a+k)++(r++l.drop (a+k+(na-k+m)))=l.take a++((((l.drop a).take na).take k++(r++((l.drop (a+na)).take b).drop m))++l.drop (a+na+b)):=by
 rw [Q3,L9,x0 c,q8,q8,q8];congr 3;rw [List.drop_take,C7,show a+k+(na-k+m)=a+na+m by omega];rw [show a+na+b=(a+na+m)+(b-m) by omega,dd _ (a+na+m) (b-m),z9]
def tL {xs:Array Keyed} {lo hi:Nat} (a:hi<=xs.size):((xs.toList.drop lo).take (hi-lo)).length=hi-lo:=by rw [l7,C2,r6,x0 (Nat.sub_le_sub_right a lo)]
def Br {rk:Keyed->Int} {xs:Array Keyed} {lo hi:Nat} (c:hi<=xs.size) (h:lZ rk xs lo hi):fN rk ((xs.toList.drop lo).take (hi-lo)):=by
 refine w9.mpr λi j d a b=>?_;let e:=tL c ▸ a;have:=h (lo+i) (lo+j) ∎ ∎ ∎;rw [iK (p:=xs[lo+i]'∎) (q7 ∎),iK (p:=xs[lo+j]'∎) (q7 ∎)] at this;simpa using this
def tG {rk:Keyed->Int} {xs:Array Keyed} {lo hi:Nat} (c:hi<=xs.size) (h:fN rk ((xs.toList.drop lo).take (hi-lo))):lZ rk xs lo hi:=by
 intro i j b a d;rcases F7 a with z|z
 ·subst z;exact g9 _
 ·have:=w9.mp h (i-lo) (j-lo) (by rw [tL c];omega) (by rw [tL c];omega) ∎;rw [iK (p:=xs[i]'∎) (q7 ∎),iK (p:=xs[j]'∎) (q7 ∎)];simpa [G9 b,G9 (n8 b a)] using this
section
variable {M:Model} {σ:Type}
def Pr {t:σ} {Q:PUnit->σ->Prop} {st:σ} (h:Q ⟨⟩ t):wpS M A E s (set t:StateT σ Sem PUnit) Q st:=by
 unfold wpS;rw [StateT.run_set];exact i0 {(rfl),h}
end
def wO (i:Nat):mergeAt' i=(do
  let t <- get
  let (some (sa,na,pw),some (sb,nb,_)):=((pendingOf t)[i]?,(pendingOf t)[i+1]?)|unsupported "internal:list.sort.pending"
  set (SortSt.mk' (kindOf t) (arrOf t) (((pendingOf t).setIfInBounds i (sa,na+nb,pw)).eraseIdxIfInBounds (i+1)) (gallopOf t) (failedOf t))
  let some k <- eY false (<- elem' (arrOf t) sb) (arrOf t) sa na 0|return false
  let (sa,na):=(sa+k,na-k)
  if na == 0 then return true
  let some nb <- eY true (<- elem' (arrOf t) (sa+na-1)) (arrOf t) sb nb (nb-1)|return false
  if nb == 0 then return true
  let x:=(arrOf t).extract sa sb
  let y:=(arrOf t).extract sb (sb+nb)
  let b <- if na<=nb then AJ x y else Mx x y
  modify λt=>setArr t (b.toList.zipIdx.foldl (λa (p,j)=>a.setIfInBounds (sa+j) p) (arrOf t))
  return (failedOf (<- get)).isNone):=rfl
def merged_ok {a a':Array Keyed} {T c AB' D:List Keyed} {lo hi:Nat} (e:a.toList=T++(c++D)) (b:a'.toList=T++(AB'++D)) (h:AB'.Perm c) (i:fN rk AB') (g:T.length=lo) (f:c.length=hi-lo) (l:lo<=hi):
  a'.Perm a/\lZ rk a' lo hi/\∀k,(k<lo\/hi<=k)->a'[k]?=a[k]?:=by
 let d:AB'.length=hi-lo:=h.length_eq.trans f;let j:hi<=a'.size:=by
  have:=congrArg List.length b;simp at this;omega
 refine {K6.mpr ?_,tG j ?_,λk hk=>?_}
 ·rw [e,b];exact(h.append_right D).append_left T
 ·rw [b,<- g,List.drop_left,g,<- d,List.take_left];exact i
 ·rw [<- Array.getElem?_toList,<- Array.getElem?_toList,e,b];rcases hk with hk|hk
  ·rw [p7 ∎,p7 ∎]
  ·rw [u8 ∎,u8 ∎,u8 ∎,u8 ∎,d,f]
def uX {st:SortSt} {i sa na pa sb nb pb:Nat} {Q:Bool->SortSt->Prop} (C:oN prog w A E s κ a₀ rk) (hB:SB κ a₀ st)
  (p1:(pendingOf st)[i]?=some (sa,na,pa)) (p2:(pendingOf st)[i+1]?=some (sb,nb,pb)) (es:sb=sa+na) (hz:sb+nb<=a₀.size) (h1:1<=na) (h2:1<=nb) (s1:lZ rk (arrOf st) sa sb) (s2:lZ rk (arrOf st) sb (sb+nb))
  (h:∀st',SB κ a₀ st'->pendingOf st'=((pendingOf st).setIfInBounds i (sa,na+nb,pa)).eraseIdxIfInBounds (i+1)->lZ rk (arrOf st') sa (sb+nb)->(∀k,(k<sa\/sb+nb<=k)->(arrOf st')[k]?=(arrOf st)[k]?)->Q true st'):
  wpS (model prog w) A E s (mergeAt' i) Q st:=by
 rw [wO];refine i4 (J6 ?_);rw [p1,p2];dsimp only
 refine i4 (Pr ?_);let hsz:(arrOf st).size=a₀.size:=hB.size;let mem:∀x ∈ (arrOf st).toList,x ∈ a₀.toList:=λx hx=>(K6.mp hB.perm).mem_iff.mp hx;let (b0,e0,f0,g0):=nV (x:=arrOf st) (i:=sb) ∎;let S1:=Br ∎ s1;let S2:=Br ∎ s2;rw [show sb-sa=na by omega] at S1;rw [show sb+nb-sb=nb by omega] at S2;let sz:(arrOf st).toList.length=a₀.size:=by simpa using hsz
 let lA:(((arrOf st).toList.drop sa).take na).length=na:=by rw [l7,C2,sz,x0 ∎]
 let lB:(((arrOf st).toList.drop sb).take nb).length=nb:=by rw [l7,C2,sz,x0 ∎]
 let b0B:∀v ∈ ((arrOf st).toList.drop sb).take nb,rk b0<=rk v:=by
  obtain⟨nb',rfl⟩:∃n,nb=n+1:={nb-1,∎};let hlt:sb<(arrOf st).toList.length:=∎;rw [E2 hlt,List.take_succ_cons] at S2 ⊢;rw [c8 hlt] at f0;cases f0;intro v hv;rcases g7.mp hv with rfl|hv
  ·exact g9 _
  ·exact(v6.mp S2).1 v hv
 refine i4 (bJ e0 ?_);refine i4 (oS C hB.kind (mem b0 g0) mem S1 ∎ ∎ λk k1 k2 k3=>?_);dsimp only
 by_cases c1:(na-k == 0)=true
 ·rw [if_pos c1];let ek:k=na:=by have:=beq_iff_eq.mp c1;omega
  subst ek;refine j5 (h _ {(hB.perm),hB.kind,hB.failed} rfl ?_ λ_ _=>rfl);refine tG (by rw [show (arrOf (SortSt.mk' (kindOf st) (arrOf st) (((pendingOf st).setIfInBounds i (sa,k+nb,pa)).eraseIdxIfInBounds (i+1)) (gallopOf st) (failedOf st)))=arrOf st from rfl];omega) ?_;show fN rk (((arrOf st).toList.drop sa).take (sb+nb-sa));rw [show sb+nb-sa=k+nb by omega,Q3,C7,<- es];exact S1.app S2 λu hu v hv=>v5 (k2 u hu) (b0B v hv)
 rw [if_neg c1];let hk:k<na:=by
  have:¬ na-k=0:=λz=>c1 (beq_iff_eq.mpr z);omega
 let ix:sa+k+(na-k)=sb:=by rw [es,Nat.add_assoc,G9 k1]
 let (a1,e1,fa1,g1):=nV (x:=arrOf st) (i:=sb-1) ∎;rw [ix];let lastA:∀v ∈ ((arrOf st).toList.drop sa).take na,rk v<=rk a1:=λv hv=>by
  let (t,t1,t2):=lD hv;rw [o9] at t2;have:=s1 (sa+t) (sb-1) ∎ ∎ ∎;rwa [iK (show (arrOf st)[sa+t]?=some v by simpa using t2),iK (show (arrOf st)[sb-1]?=some a1 by simpa using fa1)] at this
 refine i4 (bJ e1 ?_);refine i4 (oT C hB.kind (mem a1 g1) mem S2 ∎ ∎ λm m1 m2 m3=>?_);dsimp only
 let hiB:∀v ∈ ((arrOf st).toList.drop (sb+m)).take (nb-m),rk a1<=rk v:=λv hv=>by
  let (t,t1,t2):=lD hv;rw [o9] at t2;exact m3 (m+t) v ∎ ∎ (by rw [<- t2];congr 1;omega)
 by_cases c2:(m == 0)=true
 ·rw [if_pos c2];let em:m=0:=beq_iff_eq.mp c2;subst em;refine j5 (h _ {(hB.perm),hB.kind,hB.failed} rfl ?_ λ_ _=>rfl);refine tG (by show sb+nb<=(arrOf st).size;omega) ?_;show fN rk (((arrOf st).toList.drop sa).take (sb+nb-sa));rw [show sb+nb-sa=na+nb by omega,Q3,C7,<- es];exact S1.app S2 λu hu v hv=>v5 (lastA u hu) (hiB v hv)
 rw [if_neg c2];let hm:1<=m:=by
  have:¬ m=0:=λz=>c2 (beq_iff_eq.mpr z);omega
 let xl:((arrOf st).extract (sa+k) sb).toList=(((arrOf st).toList.drop sa).take na).drop k:=by
  rw [oE,List.drop_take,C7];congr 1;omega
 let yl:((arrOf st).extract sb (sb+m)).toList=(((arrOf st).toList.drop sb).take nb).take m:=by
  rw [oE,L9];congr 1;omega
 let dec:(arrOf st).toList=(arrOf st).toList.take sa++((((arrOf st).toList.drop sa).take na++((arrOf st).toList.drop sb).take nb)++(arrOf st).toList.drop (sb+nb)):=by
  rw [q8,dd _ sb nb,z9];rw [show (arrOf st).toList.drop sb=((arrOf st).toList.drop sa).drop na by rw [C7,es],z9,z9]
 have post:∀(r:Array Keyed) (st':SortSt),jF rk ((arrOf st).extract (sa+k) sb).toList ((arrOf st).extract sb (sb+m)).toList r ->
   Sg (SortSt.mk' (kindOf st) (arrOf st) (((pendingOf st).setIfInBounds i (sa,na+nb,pa)).eraseIdxIfInBounds (i+1)) (gallopOf st) (failedOf st)) st' ->
   Q true (setArr st' (r.toList.zipIdx.foldl (λa (x:Keyed × Nat)=>match x with|(p,j)=>a.setIfInBounds (sa+k+j) p) (arrOf st'))):=by
  intro r st' hW hS;let arr:arrOf st'=arrOf st:=hS.arr;let (wp,ws):=hW;rw [xl,yl] at wp;let rl:r.toList.length=(na-k)+m:=by
   rw [wp.length_eq,i6,C2,lA,l7,lB,x0 m1]
  have e':(r.toList.zipIdx.foldl (λa (x:Keyed × Nat)=>match x with|(p,j)=>a.setIfInBounds (sa+k+j) p) (arrOf st)).toList =
    (arrOf st).toList.take sa++(((((arrOf st).toList.drop sa).take na).take k++(r.toList++(((arrOf st).toList.drop sb).take nb).drop m))++(arrOf st).toList.drop (sb+nb)):=by
   rw [Kc (sa+k) r.toList (arrOf st) 0 (by rw [rl];omega),rl,Nat.add_zero,Rm _ _ k1 m1,es]
  let hsub:∀u ∈ r.toList,u ∈ (((arrOf st).toList.drop sa).take na).drop k\/u ∈ (((arrOf st).toList.drop sb).take nb).take m:=λu hu=>j1.mp (wp.mem_iff.mp hu);let hperm:((((arrOf st).toList.drop sa).take na).take k++(r.toList++(((arrOf st).toList.drop sb).take nb).drop m)).Perm (((arrOf st).toList.drop sa).take na++((arrOf st).toList.drop sb).take nb):=by
   let e1:((arrOf st).toList.drop sa).take na=(((arrOf st).toList.drop sa).take na).take k++(((arrOf st).toList.drop sa).take na).drop k:=(z9 k _).symm;let e2:((arrOf st).toList.drop sb).take nb=(((arrOf st).toList.drop sb).take nb).take m++(((arrOf st).toList.drop sb).take nb).drop m:=(z9 m _).symm
   conv=>rhs;rw [e1,e2]
   rw [q8];refine List.Perm.append_left _ ?_;rw [<- q8];exact wp.append_right _
  let hsrt:fN rk ((((arrOf st).toList.drop sa).take na).take k++(r.toList++(((arrOf st).toList.drop sb).take nb).drop m)):=by
   refine S1.take.app (ws.app S2.drop λu hu v hv=>?_) λu hu v hv=>?_
   ·let hv':v ∈ ((arrOf st).toList.drop (sb+m)).take (nb-m):=by rwa [List.drop_take,C7] at hv
    rcases hsub u hu with z|z
    ·exact v5 (lastA u (D1 z)) (hiB v hv')
    ·exact v5 (x8 (m2 u (by rwa [L9,x0 m1] at z))) (hiB v hv')
   ·let hu':rk u<=rk b0:=k2 u (by rwa [L9,x0 k1] at hu);rcases j1.mp hv with z|z
    ·rcases hsub v z with z|z
     ·let e1:((arrOf st).toList.drop sa).take na=(((arrOf st).toList.drop sa).take na).take k++(((arrOf st).toList.drop sa).take na).drop k:=(z9 k _).symm;rw [e1] at S1;exact(C4.mp S1).2.2 u hu v z
     ·exact v5 hu' (b0B v (y4 z))
    ·exact v5 hu' (b0B v (D1 z))
  let (g1,g2,g3):=merged_ok (rk:=rk) (lo:=sa) (hi:=sb+nb) dec e' hperm hsrt (by rw [l7,sz,x0 ∎]) (by rw [i6,lA,lB];omega) ∎;refine h _ {?_,hS.kind.trans hB.kind,hS.failed.trans hB.failed} (hS.pend) ?_ ?_
  ·show (r.toList.zipIdx.foldl _ (arrOf st')).Perm a₀;rw [arr];exact g1.trans hB.perm
  ·show lZ rk (r.toList.zipIdx.foldl _ (arrOf st')) _ _;rw [arr];exact g2
  ·show ∀k',_->(r.toList.zipIdx.foldl _ (arrOf st'))[k']?=_;rw [arr];exact g3
 have fin:∀(r:Array Keyed) (st':SortSt),jF rk ((arrOf st).extract (sa+k) sb).toList ((arrOf st).extract sb (sb+m)).toList r ->
   Sg (SortSt.mk' (kindOf st) (arrOf st) (((pendingOf st).setIfInBounds i (sa,na+nb,pa)).eraseIdxIfInBounds (i+1)) (gallopOf st) (failedOf st)) st'->failedOf st'=none:=
  λr st' _ hS=>hS.failed.trans hB.failed
 let mx:∀p ∈ ((arrOf st).extract (sa+k) sb).toList,p ∈ a₀.toList:=λp hp=>by
  rw [xl] at hp;exact mem p (D1 (y4 (D1 hp)))
 let my:∀p ∈ ((arrOf st).extract sb (sb+m)).toList,p ∈ a₀.toList:=λp hp=>by
  rw [yl] at hp;exact mem p (D1 (y4 (y4 hp)))
 let sx:((arrOf st).extract (sa+k) sb).size=na-k:=by rw [<- r6,xl,C2,lA]
 let hx:1<=((arrOf st).extract (sa+k) sb).size:=by rw [sx];omega
 let hy:1<=((arrOf st).extract sb (sb+m)).size:=by rw [<- r6,yl,l7,lB,x0 m1];exact hm
 let hf:∀p,((arrOf st).extract sb (sb+m)).toList[0]?=some p->∀q ∈ ((arrOf st).extract (sa+k) sb).toList,rk p<=rk q:=λp hp q hq=>by
  have:p=b0:=by
   rw [yl,t9 ∎,t9 ∎,o9] at hp;simp only [Nat.add_zero] at hp;rw [f0] at hp;exact(Option.some.inj hp).symm
  subst this;rw [xl] at hq;let (t,t1,t2):=lS hq;let tl:t<na:=lA ▸ (c9.mp t2).1;rw [t9 tl,o9] at t2;exact x8 (k3 t q t1 tl t2)
 let hl:∀p ∈ ((arrOf st).extract sb (sb+m)).toList,∀q,((arrOf st).extract (sa+k) sb).toList[((arrOf st).extract (sa+k) sb).size-1]?=some q->rk p<=rk q:=λp hp q hq=>by
  have:q=a1:=by
   rw [sx,xl,o9,t9 ∎,o9,show sa+(k+(na-k-1))=sb-1 by omega,fa1] at hq;exact(Option.some.inj hq).symm
  subst this;rw [yl] at hp;exact x8 (m2 p (by rwa [L9,x0 m1] at hp))
 let sx:fN rk ((arrOf st).extract (sa+k) sb).toList:=by rw [xl];exact S1.drop
 let sy:fN rk ((arrOf st).extract sb (sb+m)).toList:=by rw [yl];exact S2.take
 by_cases c3:na-k<=m
 ·rw [if_pos c3];refine i4 (Pt C hB.kind mx my sx sy hx hy hf hl λr st' hW hS=>?_);refine i4 (L8 (i4 (J6 (j5 ?_))));have:=post r st' hW hS;rw [show failedOf (setArr st' (r.toList.zipIdx.foldl (λa (x:Keyed × Nat)=>match x with|(p,j)=>a.setIfInBounds (sa+k+j) p) (arrOf st')))=none from fin r st' hW hS];exact this
 ·rw [if_neg c3];refine i4 (Hg C hB.kind mx my sx sy hx hy hf hl λr st' hW hS=>?_);refine i4 (L8 (i4 (J6 (j5 ?_))));have:=post r st' hW hS;rw [show failedOf (setArr st' (r.toList.zipIdx.foldl (λa (x:Keyed × Nat)=>match x with|(p,j)=>a.setIfInBounds (sa+k+j) p) (arrOf st')))=none from fin r st' hW hS];exact this
def Sx:∀n,n<128->n<=2 * minRun' n n 0:=⋯
inductive KY (rk:Keyed->Int) (a₀:Array Keyed) (lo:Nat) (st:SortSt):Prop
 | no (_:lo=0) (_:pendingOf st=#[])
 | one (_:pendingOf st=#[(0,lo,0)]) (_:1<=lo) (_:a₀.size<=2 * lo) (_:lZ rk (arrOf st) 0 lo)
 | two (m:Nat) (_:lo=a₀.size) (_:∃p,pendingOf st=#[(0,m,p),(m,a₀.size-m,0)]) (_:1<=m) (_:m<a₀.size) (_:lZ rk (arrOf st) 0 m) (_:lZ rk (arrOf st) m a₀.size)
def lZ.like {rk:Keyed->Int} {xs ys:Array Keyed} {lo hi:Nat} (h:lZ rk xs lo hi) (e:∀k,lo<=k->k<hi->ys[k]?=xs[k]?):lZ rk ys lo hi:=λi j c a b=>by
 rw [iD (e i c ∎),iD (e j ∎ b)]
 exact h i j c a b
def uW {st:SortSt} {Q:Unit->SortSt->Prop} (C:oN prog w A E s κ a₀ rk) (hB:SB κ a₀ st) (hp:pendingOf st=#[]) (h1:1<=a₀.size) (h2:a₀.size<128)
  (h:∀st',SB κ a₀ st'->lZ rk (arrOf st') 0 a₀.size->Q () st'):wpS (model prog w) A E s sortRuns' Q st:=by
 rw [sortRuns'_eq];refine i4 (J6 ?_);dsimp only
 let mp:=Sx _ h2;simp only [hB.size];generalize minRun' a₀.size a₀.size 0=mr at mp ⊢;refine i4 (K2 (D0
  (I:=λx c st'=>∃lo,c=(none,lo)/\SB κ a₀ st'/\KY rk a₀ lo st'/\lo<=a₀.size/\(x<=lo\/lo=a₀.size))
  (Q:=λc st'=>c=(none,a₀.size)/\SB κ a₀ st'/\KY rk a₀ a₀.size st') ?step ?fin {0,rfl,hB,.no rfl hp,∎,∎}) ?post)
 case fin=>
  rintro c st' ⟨lo,rfl,hB',hR,hlo,hx⟩;have:lo=a₀.size:=∎;subst this;exact {(rfl),hB',hR}
 case step=>
  rintro x c st' _ hx ⟨lo,rfl,hB',hR,hlo,hx'⟩;dsimp only
  by_cases hge:lo ≥ a₀.size
  ·rw [if_pos hge];have:lo=a₀.size:=∎;subst this;exact j5 {(rfl),hB',hR}
  rw [if_neg hge];refine i4 (Ee (st₀:=st') (lo:=lo) C ∎ ∎ {(hB'),qU.refl,rfl} λn st2 hK2 n1 n2 hs2=>?_);dsimp only
  let key:∃n',1<=n'/\n' + lo<=a₀.size/\(mr<=n'\/n' + lo=a₀.size)/\(n<mr/\n'=min (a₀.size-lo) mr\/¬ n<mr/\n'=n):=by
   by_cases hlt:n<mr
   ·exact {_,∎,∎,∎,.inl {(hlt),rfl}}
   ·exact {n,n1,∎,∎,.inr {(hlt),rfl}}
  obtain⟨n',c1,c2,c3,⟨hlt,rfl⟩|⟨hlt,rfl⟩⟩:=key;rw [if_pos hlt];refine i4 (P3 (F4 {rfl,?_}));refine i4 (yE (st₀:=st') (lo:=lo) C ∎ ∎ hK2 hs2 λst3 hK3 hs3=>?_);simp only [Bool.not_true,A5,if_false];generalize min (a₀.size-lo) mr=n' at hs3 c1 c2 c3 ⊢;clear hK2 hs2;rotate_left;rw [if_neg hlt];revert hs2 hK2;generalize st2=st3;intro hK3 hs3
  all_goals
   refine i4 (J6 ?_);rcases hR with ⟨rfl,e⟩|⟨e,l1,l2,sg⟩|⟨_,e,_⟩
   ·rw [hK3.pend.trans e];refine i4 (L8 (j5 {0+n',rfl,{(hK3.perm),hK3.kind,hK3.failed},.one ?_ ∎ ∎ hs3,∎,.inl ∎}));show (pendingOf st3).push (0,n',0)=_;rw [hK3.pend.trans e,Nat.zero_add];rfl
   ·let e:=hK3.pend.trans e;rw [e];let en:n' + lo=a₀.size:=∎;refine i4 (K2 (D0 (I:=λ_ c st4=>c=(none,())/\st4=st3) (Q:=λc st4=>c=(none,())/\st4=st3) (λz c st4 _ hz h=>?_) (λ_ _ z=>z) {(rfl),rfl}) ?_)
    ·let (rfl,rfl):=h;refine i4 (J6 ?_);rw [e];exact j5 {(rfl),rfl}
    ·rintro c st4 ⟨rfl,rfl⟩;refine i4 (L8 (i4 (L8 (j5 {lo+n',rfl,{(hK3.perm),hK3.kind,hK3.failed},.two lo ∎ ?_ l1 ∎ ?_ ?_,∎,.inl ∎}))))
     ·show ∃p,((pendingOf st4).modify ((pendingOf st4).size-1) _).push (lo,n',0)=_;rw [e,show n'=a₀.size-lo by omega];exact {_,rfl}
     ·exact sg.like λk _ k2=>hK3.like k k2
     ·rw [<- en,Nat.add_comm];exact hs3
   ·exact absurd e ∎
 case post=>
  rintro c st' ⟨rfl,hB',hR⟩;dsimp only
  refine i4 (K2 (D0
   (I:=λx c st2=>c=(none,())/\((SB κ a₀ st2/\lZ rk (arrOf st2) 0 a₀.size/\(pendingOf st2).size<=1)\/(st2=st'/\x=0/\∃m p,pendingOf st'=#[(0,m,p),(m,a₀.size-m,0)]/\1<=m/\m<a₀.size/\lZ rk (arrOf st') 0 m/\lZ rk (arrOf st') m a₀.size)))
   (Q:=λc st2=>c=(none,())/\SB κ a₀ st2/\lZ rk (arrOf st2) 0 a₀.size) ?step3 ?fin3 {rfl,?ini}) ?post3)
  case ini=>
   rcases hR with ⟨z,_⟩|⟨e,_,_,sg⟩|⟨m,_,⟨p,e⟩,l1,l2,s1,s2⟩
   ·omega
   ·exact .inl {hB',sg,by rw [e];exact d7 1}
   ·exact .inr {(rfl),rfl,m,p,e,l1,l2,s1,s2}
  case fin3=>
   rintro c st2 ⟨rfl,⟨B,R,_⟩|⟨_,z,_⟩⟩
   ·exact {(rfl),B,R}
   ·omega
  case step3=>
   rintro x c st2 _ hx ⟨rfl,⟨B,R,hz⟩|⟨rfl,_,m,p,e,l1,l2,s1,s2⟩⟩
   ·refine i4 (J6 ?_);rw [if_pos hz];exact j5 {(rfl),B,R}
   ·refine i4 (J6 ?_);rw [e];refine i4 (uX (i:=0) C hB' (by rw [e];rfl) (by rw [e];rfl) (Nat.zero_add _).symm ∎ l1 ∎ s1 (by rw [G9 (A7 l2)];exact s2) λst3 B3 e3 R3 _=>?_);simp only [Bool.not_true,A5,if_false];rw [G9 (A7 l2)] at R3;exact j5 {rfl,.inl {B3,R3,by rw [e3,e];simp}}
  case post3=>
   rintro c st2 ⟨rfl,B,R⟩;exact j5 (h st2 B R)
def Nx {a₀:Array Keyed} (h0:IntKeys a₀):oN prog w A E s oneType' a₀ (λp=>numOf p.1):=⟨λ{x y st Q} hx hy hk h=>by
 let (n,t,e1):=h0 x hx
 let (m,u,e2):=h0 y hy
 rw [lt'_eq]
 refine i4 (J6 ?_)
 rw [hk,keyLt'_oneType,e1,e2]
 rw [e1,e2] at h
 exact i4 (P3 (N4 (oneLt_int {rfl,j5 h})))⟩
def sort_codeA {a:Addr} {vs:List Value} {ns:List Int} {n:Nat} {P:Fin->Shared->Prop} (ho:s.heap.get? a=some (seqObj "list" vs.toArray n))
  (hI:IntsAre vs ns) (h7:vs.length<128)
  (h:∀(out:Array Value) (ns':List Int),IntsAre out.toList ns'->ns'.Perm ns->ns'.Pairwise (·<=·)->P (.done (.ret .none)) { s with heap:=sortedHeap s.heap a vs out }):
  wpAny (model prog w) A (Builtin.«list.sort» {[.ref a],[]}) P E s:=by
 let hz:vs.length<=sizeLine:=n8 (A7 h7) (by decide);rw [list_sort_plain];let ha:=i5 ho;let hsz:vs.toArray.size=vs.length:=by simp
 refine c7 (listItems_at ho rfl (c7 (listUpdate_at ho rfl ?_ (by rw [hsz];exact hz))));obtain⟨e1,h1⟩:∃e1,(s.heap.update a (Obj.mapSeq λ_=>#[])).get? a=some (seqObj "list" #[] e1):={_,get?_update_seq ho (λ_=>#[])};refine c7 (seqEpoch_at h1 rfl (c7 (wpAny_newTuple (c7 (wpAny_newList (y0 ?_))))));let h6:(((s.heap.update a (Obj.mapSeq λ_=>#[])).push (seqObj "tuple" vs.toArray 0)).push (seqObj "list" #[] 0)).get? a=some (seqObj "list" #[] e1):=by
  rw [Heap.get?_push_ne _ _ _ (by rw [size_push',Heap.size_update];exact j8 (Nat.lt_succ_of_lt ha)),
   Heap.get?_push_ne _ _ _ (by rw [Heap.size_update];exact j8 ha)];exact h1
 show wpAny (model prog w) A _ P E { s with heap:=((s.heap.update a (Obj.mapSeq λ_=>#[])).push (seqObj "tuple" vs.toArray 0)).push (seqObj "list" #[] 0) };dsimp only
 let fin:∀st':SortSt,(arrOf st').Perm (pairsOf vs)->SortedTo (arrOf st') (pairsOf vs).size->P (.done (.ret .none)) { s with heap:=sortedHeap s.heap a vs ((arrOf st').map (·.2)) }:=λst' hp hs=>by
  let (ns',x1,x2,x3):=sorted_out hI hp hs;exact h _ ns' x1 x2 x3
 by_cases h2:vs.toArray.size<2
 ·rw [if_pos h2,if_pos h2];refine c7 (i0 ?_);rw [StateT.run_pure];refine c7 (i0 ?_);dsimp only
  refine c7 (seqEpoch_at h6 rfl (c7 (listUpdate_at h6 rfl ?_ (hsz2:=by rw [Array.size_map];show (pairsOf vs).size<=_;rw [pairsOf_size];omega))));simp only [bne_self_eq_false,A5,if_false];refine i0 (fin (SortSt.mk' general' (vs.toArray.zip vs.toArray) #[] 7 none) (Array.Perm.refl _) λi j hij hj=>?_);have:i=j:=by rw [pairsOf_size] at hj;omega
  subst this;exact g9 _
 ·rw [if_neg h2,if_neg h2];let kk:keyKind' vs.toArray=pure oneType':=by
   match vs,hsz,h2,hI with
   | [],_,h2,_=>simp at h2
   | [_],_,h2,_=>simp at h2
   | v1::v2::r,_,_,hI=>exact keyKind_ints hI
  rw [kk];refine c7 (i0 ?_);refine c7 (v7 (uW (a₀:=pairsOf vs) (κ:=oneType') (rk:=λp=>numOf p.1) (st:=SortSt.mk' oneType' (vs.toArray.zip vs.toArray) #[] 7 none)
   (Q:=λ_ st'=>(arrOf st').Perm (pairsOf vs)/\failedOf st'=none/\SortedTo (arrOf st') (pairsOf vs).size)
   (Nx hI.intKeys) {Array.Perm.refl _,rfl,rfl} rfl (by rw [pairsOf_size];omega) (by rw [pairsOf_size];exact h7) λst' b hs=>{b.perm,b.failed,λi j hij hj=>hs i j (i8 _) hij hj}) ?_ λ_ _ e=>e);rintro⟨⟨⟩,st'⟩ s' ⟨rfl,hp,hf,hs⟩;dsimp only
  refine c7 (seqEpoch_at h6 rfl (c7 (listUpdate_at h6 rfl ?_ (hsz2:=by
   let z:((arrOf st').map (·.2)).size=vs.length:=by rw [Array.size_map,hp.size_eq,pairsOf_size]
   exact n8 (J3 z) ∎))));rw [hf];simp only [bne_self_eq_false,A5,if_false];exact i0 (fin st' hp hs)
end
end Sr
namespace L2
open PySem PySem.Spec PyProof.Rows PySem.W
def Fu {ns:List Int} {us:List Value} (h:IntsAre us ns):bG (ns.map V.int) us:=rN h
section
variable {X:Cx}
def yP {prog:Program} {w:World} {A:Around} {E:Value->Shared->Prop} {s:Shared} {D:Addr} {vs:List Value} {ns:List Int} {n:Nat} {Q:Value->Shared->Prop} (ho:s.heap.get? D=some (seqObj "list" vs.toArray n)) (rv:bG (ns.map V.int) vs) (hz:vs.length<128)
  (h:∀(os:List Value) (ns':List Int),bG (ns'.map V.int) os->ns'.Perm ns->ns'.Pairwise (·<=·)->Q .none { s with heap:=sortedHeap s.heap D vs os.toArray }):wpAny (model prog w) A (call (.builtin "list.sort") [.ref D]) Q E s:=by
 refine D4 slot_list_sort {_,ho,rfl} entry_list_sort ?_ (args_list_sort _);refine Sr.sort_codeA ho (wR rv) hz λout ns' a1 a2 a3=>{.none,rfl,?_};have:=h out.toList ns' (Fu a1) a2 a3;rwa [Array.toArray_toList] at this
def rD (hc:X.calm=true):gC X (.builtin "sorted") (λxs H Q=>∃(a:Addr) (kvs:List (cC × V)) (ns:List Int),xs=[.ref a]/\H a=some (.dK kvs)/\kvs.map (·.1)=ns.map Sum.inl/\ns.length<128 /\
  ∀(l:Addr) (ns':List Int),H l=none->ns'.Perm ns->ns'.Pairwise (·<=·)->Q (.ref l) (aS H l (.lst (ns'.map V.int)))):=by
 intro a0 s σ H xs d Q I r h;let (a,kvs,ns,rfl,hq,U,a3,q):=h;let (u,rfl,rx):=iL r;cases rx;let (hz,hS,O,rv,o,es,ep,d1,d2,d3,d4,d5,d6):=I.hok a _ hq;let sl:sizeLine=16777216:=sizeLine_eq;let vl:kvs.length=O.length:=Paired.length rv;let kl:kvs.length=ns.length:=by
  have:=congrArg List.length U;rwa [f8,f8] at this
 let (m,F):=I.fr;let J:O.map (·.1)=ns.map Sum.inl:=by
  rw [<- U];clear U hq d5 d6 vl kl hz q
  induction rv with
  | nil=>rfl
  | cons e t ih=>rw [k7,k7,ih,e.1]
 refine kdu_sorted (kdl_dict (knd:=cK X.prog X.w) (kvs:=O) (ep:=ep) hS) (I.ok.hd hc) F pO {(o),es,d1,d2,d3,d4,d5,d6} ∎ λD M tk d F' N' A a2 hP=>?_;let y:∀j (P:j<d.length),∃t,d[j]=.int (ns.getD j 0) t:=λj P=>by
  let (k,x,K,B):=hP j d[j] (c8 P);let E:(O.map (·.1))[j]?=some k:=by rw [i7,K];rfl
  rw [J,i7] at E;let p:j<ns.length:=∎;rw [c8 p] at E;let E:Sum.inl ns[j]=k:=Option.some.inj E;subst E;let (t,e):=Value.isInt_shape (k:=ns[j]) (v:=d[j]) B;exact {t,by rw [e,A3,c8 p];rfl}
 let Z:bG (ns.map V.int) d:=by
  let K:d=(List.range d.length).map λj=>d.getD j .none:=by
   apply List.ext_getElem
   ·simp
   ·intro i T h2;simp [A3,T]
  let B:ns.map V.int=(List.range d.length).map λj=>V.int (ns.getD j 0):=by
   apply List.ext_getElem
   ·simp;omega
   ·intro i T h2;have:i<ns.length:=by simpa using T
    simp [A3,this]
  rw [B];rw [K];simp only [f8,x6];refine kH _ _ λj P=>?_;let p:j<d.length:=C3.mp P;let (t,e):=y j p;refine {t,?_};rw [<- e,A3,c8 p];rfl
 let g:=N' (D,W.listOf d.toArray 0) (g8 ..);let L:s.heap.get? D=none:=by
  cases z:s.heap.get? D with
  | none=>rfl
  | some f=>
   have:=A (D,f) (iY g.2.1 g.2.2 z);exact absurd this (v8 _)
 let G:∀b f,b≠X.env.locals->s.heap.get? b=some f->M.get? b=some f:=λb f N e=>by
  cases z:X.base.get? b with
  | some o'=>
   have:=I.bk b o' z;rw [e] at this;cases this;exact F'.keep b f z
  | none=>exact(N' (b,f) (d0 _ (iY N z e))).1
 refine yP (n:=0) g.1 Z ∎ λos ns' r' pm pw=>?_;let (c,S):=sortedHeap_at (out:=os.toArray) (show M.get? D=some (seqObj "list" d.toArray 0) from g.1);let C:∀b f,b≠D->M.get? b=some f->(sortedHeap M D d os.toArray).get? b=some f:=λb f N e=>by
  rw [sortedHeap_old N (i5 e)];exact e
 let a1:ns'.length=ns.length:=pm.length_eq;let Y:(sortedHeap M D d os.toArray).Ns X.env.locals m:=by
  let (o1,K,B,z,rr):=F'.ns;exact {o1,K,B,C _ _ g.2.1.symm z,rr}
 let (z1,I1):=I.byNewsL (tk:=tk) (zs:=ns'.map V.int) F.ns Y (λb f N e=>C b f (λz=>by rw [z,L] at e;cases e) (G b f N e)) L (by rw [f8];omega) r' S;exact {.ref D,_,I1,rfl,q D ns' z1 pm pw}
end
end L2
namespace Lm
abbrev Ps:=List (Int × Int)
def mem (ps:Ps) (x:Int):Prop:=∃p ∈ ps,p.1<=x/\x<p.2
def Dh {x:Int}:mem [] x↔False:=by simp [mem]
def mem_cons {p:Int × Int} {t:Ps} {x:Int}:mem (p::t) x↔(p.1<=x/\x<p.2)\/mem t x:=by simp [mem]
def Wk:Ps->Prop
 | []=>True
 | p::t=>p.1<p.2/\(∀q ∈ t,p.2<=q.1)/\Wk t
def Sh:Ps->Prop
 | []=>True
 | p::t=>p.1<p.2/\(∀q ∈ t,p.2<q.1)/\Sh t
theorem Sh.wk:∀{t:Ps},Sh t->Wk t
 | [],_=>trivial
 | _::_,{(h1),h2,h3}=>{h1,λq a=>x8 (h2 q a),Sh.wk h3}
theorem Sh.lt:∀{t:Ps},Sh t->∀q ∈ t,q.1<q.2
 | _::_,{(h1),h2,h3},q,hq=>by
  rcases g7.mp hq with rfl|hq
  ·exact h1
  ·exact Sh.lt h3 q hq
theorem Wk.lt:∀{t:Ps},Wk t->∀q ∈ t,q.1<q.2
 | _::_,{(h1),h2,h3},q,hq=>by
  rcases g7.mp hq with rfl|hq
  ·exact h1
  ·exact Wk.lt h3 q hq
def Ma {t:Ps} {b x:Int} (h:∀q ∈ t,b<=q.1) (a:mem t x):b<=x:=by
 let (p,c,z,_):=a;have:=h p c;omega
def vI {p:Int × Int} {t:Ps} (h:Sh (p::t)) {x:Int} (a:mem (p::t) x):p.1<=x:=by
 rcases mem_cons.mp a with z|z
 ·exact z.1
 ·have:=Ma (b:=p.2) (λq c=>x8 (h.2.1 q c)) z;have:=h.1;omega
def mg:Int × Int->Ps->Ps
 | c,[]=>[c]
 | c,p::t=>if p.1<=c.2 then mg (c.1,if p.2 > c.2 then p.2 else c.2) t else c::mg p t
def merged:Ps->Ps
 | []=>[]
 | p::t=>mg p t
def Lo:Ps->Prop
 | []=>True
 | p::t=>p.1<p.2/\(∀q ∈ t,p.1<=q.1)/\Lo t
theorem Wk.lo:∀{t:Ps},Wk t->Lo t
 | [],_=>trivial
 | _::_,{(h1),h2,h3}=>⟨h1,λq a=>by have:=h2 q a;omega,Wk.lo h3⟩
theorem Ly:∀{t:Ps} {c:Int × Int},c.1<c.2->(∀q ∈ t,c.1<=q.1)->Lo t->Sh (mg c t)/\(∀p ∈ mg c t,c.1<=p.1)/\(∀x,mem (mg c t) x↔(c.1<=x/\x<c.2)\/mem t x)/\(mg c t).length<=t.length+1
 | [],c,h,_,_=>by
  refine {{h,by simp,trivial},λp g=>?_,λx=>?_,d7 _}
  ·rw [l9.mp g]
   exact g9 _
  ·show mem [c] x↔_
   rw [mem_cons]
 | p::t,c,h,hq,hl=>by
  let g:=hq p (g8 ..)
  let f:=hl.1
  by_cases z:p.1<=c.2
  ·let e:mg c (p::t)=mg (c.1,if p.2 > c.2 then p.2 else c.2) t:=by
    show (if p.1<=c.2 then _ else _)=_;rw [if_pos z]
   rw [e];let i:c.1<(if p.2 > c.2 then p.2 else c.2):=by split <;> omega
   let (d,a,b,j):=Ly (t:=t) (c:=(c.1,if p.2 > c.2 then p.2 else c.2)) i (λq hq'=>by have:=hl.2.1 q hq';show c.1<=q.1;omega) hl.2.2;refine {d,a,λx=>?_,by rw [j4];omega};rw [b x,mem_cons];show (c.1<=x/\x<(if p.2 > c.2 then p.2 else c.2))\/mem t x↔_;by_cases m:mem t x
   ·simp [m]
   ·simp only [m,or_false];split <;> omega
  ·let e:mg c (p::t)=c::mg p t:=by
    show (if p.1<=c.2 then _ else _)=_;rw [if_neg z]
   rw [e];let (d,a,b,j):=Ly (t:=t) (c:=p) f hl.2.1 hl.2.2;refine {⟨h,λq hq'=>by have:=a q hq';omega,d⟩,λq hq'=>?_,λx=>?_,by rw [j4,j4];omega}
   ·rcases g7.mp hq' with rfl|hq'
    ·exact g9 _
    ·have:=a q hq';omega
   ·rw [mem_cons,mem_cons,b x]
theorem merged_ok:∀{t:Ps},Lo t->Sh (merged t)/\(∀x,mem (merged t) x↔mem t x)/\(merged t).length<=t.length
 | [],_=>{trivial,λx=>Iff.rfl,d7 _}
 | p::t,h=>by
  let (c,d,b,a):=Ly h.1 h.2.1 h.2.2
  exact {c,λx=>by rw [show merged (p::t)=mg p t from rfl,b x,mem_cons],a}
open Classical in
noncomputable def LM (P:Int->Prop) (x:Int):Int:=if P x then 1 else 0
noncomputable def cnt (P:Int->Prop) (lo:Int):Nat->Int
 | 0=>0
 | n+1=>cnt P lo n+LM P (lo+n)
end Lm
namespace L2
open PySem PySem.Spec PyProof.Rows PySem.W
end L2
namespace L2
open PySem PySem.Spec PyProof.Rows
def rJ (h:Heap) (mg:Str->Option Value):Prop:=∃bm o,mg "__builtins__"=some (.ref bm)/\bm≠builtinsNs/\h.get? bm=some o/\o.cls=.type "module"/\o.dict=some builtinsNs/\o.data=.plain
def Pg (ts:List Addr) (H:Hp):Prop:=∀b,H b=none\/(∃o xs,H b=some (.frz o (.lst xs)))\/(b ∈ ts/\H b=some (.tbl #[]))
def Fm {P:Program} {w:World} {K:PySem.W.Frag} {mg mb:Str->Option Value} {CX:nG} {k:Nat} {fa a:Addr} {fd:FuncData} {x:Str} {sp:Sp} {s₁:Shared} {vs:List Value} {ns:List Int} {ts:List Addr}
  (KX:K.In s₁.heap) (hns:s₁.heap.Ns mainGlobals mg) (hb:s₁.heap.Ns builtinsNs mb) (hbb:∀x:Str,x≠"__name__"->mb x=bootBuiltins x) (hlim:s₁.heap.NoLimit) (hg:s₁.gens=#[])
  (hT:∀P ∈ ts,s₁.heap.get? P=some (PySem.W.tabObj #[])) (hKT:PySem.W.noTabs K=true) (hC:∀P ∈ ts,isCodeTable s₁.heap P) (hBm:rJ s₁.heap mg)
  (ha:s₁.heap.get? a=some { cls:=.type "list",data:=.seq vs.toArray }) (hi:IntsAre vs ns) (hl:ns.length<=sizeLine) (hr:Room k callerA)
  (F:∀base:Heap,K.In base->base.Ns mainGlobals mg->rJ base mg->bM P w K mg base CX k fa fd [x] sp) (hbind:∀(s:Shared) (u:Value),BindsTo s fd {[u],[]} [(x,u)])
  (hsp:∀H:Hp,Pg ts H->(∀P ∈ ts,H P=some (.tbl #[]))->cZ K H a (ns.map V.int)->sp [.ref a] H (λv _=>v=.bl true) λ_ _ _=>False)
  (hCX:∀H e s',CX [] H s₁ (λ_ _ _=>False) e s'->False):
  codeAny (model P w) callerA (.call (.ref fa) {[.ref a],[]}) (λr s'=>r=.ok (.ret (.bool true))/\OldK s₁.heap s'.heap/\s'.os=s₁.os/\AllBare s'.gens) s₁:=by
 let rv:=rN hi;let lenV:=hi.length;let kT:∀P ∈ ts,K.lookup P=none:=λp hp=>by
  cases q:K.lookup p with
  | none=>rfl
  | some o=>
   let e:=KX p o q;rw [hT p hp] at e;cases e;exact absurd (F0.mp hKT (p,_) (PySem.W.mem_of_lookupK q)) (by simp)
 let aT:a ∉ ts:=λhm=>by
  let e:=hT a hm;rw [ha] at e;cases e
 have core:∀H:Hp,Pg ts H->(∀P ∈ ts,H P=some (.tbl #[]))->cZ K H a (ns.map V.int)->iH P w H s₁.heap->(∀b,H b≠none->b=a\/b ∈ ts)->(H a≠none->K.lookup a=none) ->
   codeAny (model P w) callerA (.call (.ref fa) {[.ref a],[]}) (λr s'=>r=.ok (.ret (.bool true))/\OldK s₁.heap s'.heap/\s'.os=s₁.os/\AllBare s'.gens) s₁:=by
  intro H hO hTs hS hok hA hK;let base_of:∀{b:Addr} {o:Obj},s₁.heap.get? b=some o->H b=none->(qZ s₁.heap H).get? b=some o:=λe n=>My e n;let noA:∀{b:Addr} {o:Obj} {es:Array DictEntry} {ep:Nat},s₁.heap.get? b=some o->o.data=.dict es ep->H b=none:=λ{b o es ep} e d=>by
   cases q:H b with
   | none=>rfl
   | some u=>
    rcases hA b (by rw [q];simp) with e' | e'
    ·subst e';rw [ha] at e;cases e;let d':Data.seq vs.toArray _=Data.dict es ep:=d;cases d'
    ·rw [hT b e'] at e;cases e;let d':Data.fields #[]=Data.dict es ep:=d;cases d'
  let nsK:∀{b:Addr} {m:Str->Option Value},s₁.heap.Ns b m->(qZ s₁.heap H).Ns b m:=λ{b m} ⟨o,es,ep,e,d,r⟩=>{o,es,ep,base_of e (noA e d),d,r};let hKb:K.In (qZ s₁.heap H):=λb o e=>base_of (KX b o e) (by
   cases q:H b with
   | none=>rfl
   | some u=>
    rcases hA b (by rw [q];simp) with e' | e'
    ·subst e'
     rw [hK (by rw [q];simp)] at e;cases e
    ·rw [kT b e'] at e;cases e);let hM:Mod K mg (qZ s₁.heap H):=⟨hKb,nsK hns,{mb,nsK hb,hbb},let ⟨mc,h1,h2⟩:=hlim;{mc,nsK h1,h2}⟩;let hBb:rJ (qZ s₁.heap H) mg:=by
   let (bm,ob,b1,b2,b3,b4,b5,b6):=hBm;refine {bm,ob,b1,b2,base_of b3 ?_,b4,b5,b6};cases q:H bm with
   | none=>rfl
   | some u=>
    rcases hA bm (by rw [q];simp) with e' | e'
    ·subst e';rw [ha] at b3;cases b3;let b4:Value.type "list"=.type "module":=b4;exact absurd (Value.type.inj b4) (by decide)
    ·rw [hT bm e'] at b3;cases b3;cases b4
  let e0:nY P w K mg (qZ s₁.heap H) callerA [] s₁ H:={rfl,hM,λb o e=>Sw e,J3 (Fv _ _),trivial,λb hb=>absurd (show b ∈ ([]:List Addr) from hb) (by simp),hok,.of_eq hg};refine C0 ((F _ hKb (nsK hns) hBb).run callerA [] s₁ H {[.ref a],[]} [.ref a] [.ref a] _ _ hr e0 (hbind s₁ (.ref a)) (.cons rfl .nil) (hsp H hO hTs hS)) λr s' h=>?_;cases r with
  | error e=>exact(hCX H e s' h).elim
  | ok fl=>
   cases fl with
   | next=>exact False.elim h
   | brk=>exact False.elim h
   | cont=>exact False.elim h
   | ret u=>
    let (v,H',os,bare,un,hok',r',q):=h;let q':v=.bl true:=q;subst q';obtain rfl:u=Value.bool true:=r';refine {rfl,{λb o e=>?_,λb o e=>un.there b o e (by simp)},os,bare};cases q:H b with
    | none=>exact .inl (un.keep b o e q (by intro z;exact absurd (show b ∈ ([]:List Addr) from z) (by simp)) (by simp))
    | some u=>
     rcases hO b with z|⟨ob,xs,z⟩|⟨hm,z⟩
     ·rw [q] at z;cases z
     ·let z2:=un.frzs b ob _ z;let (e1,_):=hok b _ z;let (e2,_):=hok' b _ z2;rw [e] at e1;cases e1;exact .inl e2
     ·let (more,z2):=un.tbls b _ z;let e2:s'.heap.get? b=some { cls:=.none,data:=.fields (#[]++more) }:=hok' b _ z2;let e3:=hT b hm;rw [e] at e3;cases e3;exact .inr (.inl {hC b hm,rfl,#[],more,rfl,e2})
 let dec:∀b,Decidable (b ∈ ts):=λb=>inferInstance;let tb:∀b,b ∈ ts->bL P w (λ_=>none) s₁.heap b (.tbl #[]):=λb hb=>hT b hb;cases hk:K.lookup a with
 | some o=>
  let e:=KX a o hk;rw [ha] at e;cases e;refine core (λb=>if b ∈ ts then some (.tbl #[]) else none) (λb=>?_) (λp hp=>if_pos hp) (.inr {_,vs.toArray,_,hk,rfl,rfl,rfl,by rw [j6,lenV];exact hl,by simpa using rv}) (λb u z=>?_) (λb z=>?_) λz=>absurd (if_neg aT) z
  ·by_cases hb:b ∈ ts
   ·exact .inr (.inr {hb,if_pos hb})
   ·exact .inl (if_neg hb)
  ·by_cases hb:b ∈ ts
   ·let z':=(if_pos hb).symm.trans z;cases z';exact hT b hb
   ·let z':=(if_neg hb).symm.trans z;cases z'
  ·by_cases hb:b ∈ ts
   ·exact .inr hb
   ·exact absurd (if_neg hb) z
 | none=>
  refine core (λb=>if b=a then some (.frz { cls:=.type "list",data:=.seq vs.toArray } (.lst (ns.map V.int))) else if b ∈ ts then some (.tbl #[]) else none) (λb=>?_) (λp hp=>?_) (.inl (.inr {{ cls:=.type "list",data:=.seq vs.toArray },if_pos rfl})) (λb u z=>?_) (λb z=>?_) λ_=>hk
  ·by_cases hb:b=a
   ·exact .inr (.inl {_,_,if_pos hb})
   ·by_cases ht:b ∈ ts
    ·exact .inr (.inr {ht,(if_neg hb).trans (if_pos ht)})
    ·exact .inl ((if_neg hb).trans (if_neg ht))
  ·exact(if_neg (λz:p=a=>aT (by rw [<- z];exact hp))).trans (if_pos hp)
  ·by_cases hb:b=a
   ·let z':=(if_pos hb).symm.trans z;cases z';subst hb;exact {ha,by rw [f8];exact hl,vs,_,rv,ha}
   ·by_cases ht:b ∈ ts
    ·let z':=((if_neg hb).trans (if_pos ht)).symm.trans z;cases z';exact hT b ht
    ·let z':=((if_neg hb).trans (if_neg ht)).symm.trans z;cases z'
  ·by_cases hb:b=a
   ·exact .inl hb
   ·by_cases ht:b ∈ ts
    ·exact .inr ht
    ·exact absurd ((if_neg hb).trans (if_neg ht)) z
def walk_ofT {l:PySem.W.OpenLaw} {n k:Nat} {q:Program} {j:List Str} {XP:(Str->Option Value)->Heap->Prop} {L:World->Heap->Prop} {d:DefRec} {K:Params->PySem.W.Frag} {CX:World->nG} {sp:World->Sp} {x:Str} {z:List Addr}
  (Z:l.most=some n) (E:n<=sizeLine) (B:d.params.defaults=[]) (hr:Room k callerA)
  (U:∀(w:World) (h:Heap),L w h->(K w.params).In h/\PySem.W.noTabs (K w.params)=true/\∀p ∈ z,h.get? p=some (PySem.W.tabObj #[])/\isCodeTable h p)
  (F:∀(w:World) (mg:Str->Option Value) (t:Addr) (h:Heap),(K w.params).In h->h.Ns mainGlobals mg->mg d.name=some (.ref t) ->
   ∃A:FuncData,(∀(s:Shared) (u:Value),BindsTo s A {[u],[]} [(x,u)]) /\
    ∀base:Heap,(K w.params).In base->base.Ns mainGlobals mg->rJ base mg->bM l.prog w (K w.params) mg base (CX w) k t A [x] (sp w))
  (y:∀(w:World) (H:Hp) (a:Addr) (ns:List Int),ns.length<=n->Pg z H->(∀P ∈ z,H P=some (.tbl #[]))->cZ (K w.params) H a (ns.map V.int)->sp w [.ref a] H (λv _=>v=.bl true) λ_ _ _=>False)
  (C:∀(w:World) (H:Hp) (s:Shared) (e:Value) (s':Shared),CX w [] H s (λ_ _ _=>False) e s'->False):
  PySem.W.WalkO q j XP L l.row.toRowW d [] (λf N=>PySem.call f N):=by
 refine Att.attach_call Z B λw s₀ Q mg mb t o pm cd a0 a N ns G Y ho hd a1 D m i c O=>?_;let (M,I,r):=U w _ Y;let (A,hb,S):=F w mg t _ M G.T.g D;exact Fm M G.T.g G.T.b G.T.builtins G.T.nolimit O (λp J=>(r p J).1) I (λp J=>(r p J).2) (let ⟨bm,ob,b1,b2,b3,b4,b5,b6⟩:=G.T.bmain;{(bm),ob,b1,b2,b3,b4,b5,b6}) m i (n8 c E) hr S hb (λH X hT hS=>y w H a ns c X hT hS) λH e s'=>C w H Q e s'
def hG (c:Addr) (q:Str):HO:=.ext λh=>h.CodeRec (.ref c) q
def mS (f:Addr) (o:Obj):HO:=.ext λh=>h.get? f=some o
def gD (H:Hp) (T:Addr) (pos:Pos) (q:Str):Prop:=∃ps,H T=some (.tbl ps)/\TriplesOk ps.toList/\(codeAmong pos ps.toList=none\/∃c',codeAmong pos ps.toList=some (.ref c')/\H c'=some (hG c' q))
def cT (T:Addr) (H H':Hp):Prop:=∀b o,b≠T->H b=some o->H' b=some o
def Nu {P:Program} {w:World} {H:Hp} {h:Heap} {c:Addr} {q:Str} (x:h.CodeRec (.ref c) q):bL P w H h c (hG c q):=by
 refine {x,?_,λf d y k=>?_}
 ·let (b,o,a,t,e,g,_):=x;cases e;exact {(o),g}
 ·let (b,o,a,t,e,g,r):=y;cases e;exact {c,o,a,t,rfl,k _ g,r}
def uK {P:Program} {w:World} {H:Hp} {h:Heap} {f:Addr} {o:Obj} (x:h.get? f=some o):bL P w H h f (mS f o):={x,{(o),x},λb a y k=>k _ y}
section
variable {X:Cx} {pins:List (Addr × Obj)} {σ:List (Option V)} {H:Hp} {s:Shared}
def aP.madeNew {h':Heap} {T c':Addr} {q:Str} {ps d:Array Value} {o:Obj} {tk:Nat} (I:aP X pins σ H s) (m:H T=some (.tbl ps)) (K:Heap.ExtBut T s.heap h') (i:s.heap.objs.size<=c') (p:c'<h'.objs.size)
  (l:h'.CodeRec (.ref c') q) (k:h'.get? T=some (PySem.W.tabObj (ps++d))) (t:o.isFreed=false):
  aP X pins σ (aS (aS (aS H T (.tbl (ps++d))) c' (hG c' q)) h'.objs.size (mS h'.objs.size o)) { s with heap:=h'.push o,toks:=tk }:=by
 let C:H c'=none:=I.hok.fresh i;let x:H h'.objs.size=none:=I.hok.fresh (n8 i (A7 p));let f:∀b u,b≠T->H b=some u->(aS (aS (aS H T (.tbl (ps++d))) c' (hG c' q)) h'.objs.size (mS h'.objs.size o)) b=some u:=λb u a e=>by
  rw [aC (aD e x),aC (aD e C),aC a];exact e
 let h:∀b u,H b=some u->u≠.tbl ps->b≠T:=λb u e n z=>by
  subst z;rw [m] at e;exact n (Option.some.inj e).symm
 let j:∀b,H b=none->b≠T:=λb e z=>by rw [z,m] at e;cases e
 let F:T≠c':=aD m C;let J:T≠h'.objs.size:=aD m x;let r:∀b u,b≠T->s.heap.get? b=some u->(h'.push o).get? b=some u:=λb u a e=>f1 _ (K b u a e);refine I.un {λb u e n _ _=>r b u (j b n) e,λb u e n _ _=>{u.slots,r b u (j b n) e},λb u e n _=>?_,λb u e _=>?_,λb G e=>f b _ (h b _ e (by intro z;cases z)) e,λb M u e=>f b _ (h b _ e (by intro z;cases z)) e,λb L e=>?_} λb u e=>?_
 ·let a:=i5 e;let E:b≠c':=j8 (j7 a i);let D:b≠h'.objs.size:=j8 (Nat.lt_trans (j7 a i) p);rw [aC D,aC E,aC (j b n)];exact n
 ·by_cases a:b=T
  ·subst a;exact {_,f1 _ k}
  ·exact {u,r b u a e}
 ·by_cases a:b=T
  ·subst a;rw [m] at e;cases e;exact {d,by rw [aC J,aC F,aB]}
  ·exact {#[],by rw [f b _ a e];simp}
 ·by_cases B:b=h'.objs.size
  ·subst B;rw [aB] at e;cases e;exact uK (j3 _ t)
  ·rw [aC B] at e;by_cases A:b=c'
   ·subst A;rw [aB] at e;cases e;exact Nu (l.push o)
   ·rw [aC A] at e;by_cases a:b=T
    ·subst a;rw [aB] at e;cases e;exact f1 _ k
    ·rw [aC a] at e;refine(I.hok b u e).stay (λc v w g=>r c v ?_ g) (λc z=>f c _ (h c _ z (by intro y;cases y)) z) λc G z=>f c _ (h c _ z (by intro y;cases y)) z;rcases w with rfl|z
     ·exact a
     ·exact h c _ z (by intro y;cases y)
end
def II (T:Addr) (pos:Pos) (q:Str) (mk:Addr->Value->Obj):TE:=λ_ H Q=>gD H T pos q/\∀f c' ctv H',cT T H H'->H f=none->gD H' T pos q->H' c'=some (hG c' q)->H' f=some (mS f (mk c' ctv))->Q (.ref f) H'
section
variable {X:Cx}
def Zs {d:Arguments} {i:Expr} {f:Scope} {pos:Pos} {c T:Addr} {clos:List (Str × Addr)} {q:Str} (j:X.env.code=.ref c) (hc:PySem.W.codeHdIn X.K c T=true) (N:rJ X.base X.mg)
  (E:defaultsOf d X.env=([],[])) (x:closureFor f X.env=pure clos) (hq:X.env.qual++"<lambda>"=q) (U:True):
  PE X (.Lambda d i f pos) (II T pos q λk g=>PySem.W.kla_obj "<lambda>" q d i f clos ((X.mg "__name__").getD .none) k g):=by
 intro pins s σ H Q I h;let ((ps,w,F,t),h):=h;subst hq;let G:s.heap.Ns mainGlobals X.mg:=I.ok.mod.glob.keeps I.bk;let p:s.heap.get? T=some (PySem.W.tabObj ps):=I.hok T _ w;let C:PySem.W.CodeHd s.heap c T:=PySem.W.codeHd_of_K I.kIn hc;let P:mainGlobals≠T:=λz=>by
  let (o,es,ep,e,O,_):=G;rw [z,p] at e;cases e;cases O
 let B:s.heap.BuiltinsAt X.mg T:=by
  let (bm,ob,b1,b2,b3,b4,b5,S):=N;let l:=I.bk _ _ b3;refine {bm,ob,b1,b2,λz=>?_,λz=>?_,l,b4,b5,S}
  ·let (o,es,ep,e,O,_):=G;rw [z,e] at l;cases l;rw [O] at S;cases S
  ·rw [z,p] at l;cases l;cases b4
 refine PySem.W.kla_eval E ?_;rcases t with y|⟨k,Z,L⟩
 ·refine PySem.W.kla_makeFunction x I.ok.glob G j C p F y P B λk g m tk hx r v A M=>?_;let nc:H k=none:=I.hok.fresh r;let n:H m.objs.size=none:=I.hok.fresh (n8 r (A7 v));let Tc:T≠k:=aD w nc;let Tf:T≠m.objs.size:=aD w n;let Y:k≠m.objs.size:=j8 v;let J:=I.madeNew (tk:=tk) (o:=PySem.W.kla_obj "<lambda>" (X.env.qual++"<lambda>") d i f clos ((X.mg "__name__").getD .none) k g) w hx r v A M rfl;refine {.ref m.objs.size,_,J,rfl,h m.objs.size k g _ (λb o B e=>?_) n {_,by rw [aC Tf,aC Tc,aB],?_,.inr {k,?_,?_}} ?_ aB}
  ·rw [aC (aD e n),aC (aD e nc),aC B];exact e
  ·rw [o4];exact TriplesOk_snoc _ _ _ _ F
  ·rw [o4];exact codeAmong_snoc _ F y
  ·rw [aC Y,aB]
  ·rw [aC Y,aB]
 ·refine PySem.W.kla_makeFunctionHit x I.ok.glob G j C p F Z B λg m tk hk D=>?_;let n:H m.objs.size=none:=I.hok.fresh D;refine {.ref m.objs.size,_,I.laid (a:=m.objs.size) (t':=tk) (λb u e=>f1 _ (hk b u e)) D (uK (j3 _ rfl)),rfl,h m.objs.size k g _ (λb o B e=>?_) n {ps,?_,F,.inr {k,Z,?_}} ?_ aB}
  ·rw [aC (aD e n)];exact e
  ·rw [aC (aD w n)];exact w
  ·rw [aC (aD L n)];exact L
  ·rw [aC (aD L n)];exact L
end
def Tg {CX:nG} {P:Program} {w:World} {K:PySem.W.Frag} {mg:Str->Option Value} {base:Heap} {k:Nat} {f c':Addr} {q:Str} {c:Arguments} {d:Expr} {a:Scope} {pm j:Value} {N ps:List Str} {A:Around} {outer:List Env} {s:Shared} {H:Hp} {args:Args} {us:List Value} {vs:List V} {Q:VK} {E:XK}
  (O:H f=some (mS f (PySem.W.kla_obj "<lambda>" q c d a [] pm c' j))) (L:H c'=some (hG c' q)) (S:aK N ps a) (B:Room (k+1) A) (l:nY P w K mg base A outer s H)
  (T:bindArgs (PySem.W.kla_fn "<lambda>" q c d a [] pm (.ref c') j) args=pure (ps.zip us)) (r:bG vs us) (G:vs.length=ps.length)
  (i:Room k (A.deeper (envOfC q a s.heap.objs.size f (.ref c')))->∃t,PE (jC CX P w K mg base N q a f (.ref c') A outer s H E) d t/\t (dC N vs) H Q):
  codeAny (model P w) A (.call (.ref f) args) (CR CX outer P w H s Q E) s:=by
 let m:s.heap.NoLimit:=l.mod.nolimit.keeps λb o e=>(l.bs b o e).1;let g:∀y ∈ ps.zip us,a.names.lookup y.1=some .local\/(a.names.lookup y.1=some .cell/\((cellsFrom (s.heap.objs.size+1) a.names []).lookup y.1).isSome=true):=λ⟨n,v⟩ hy=>by
  rcases S.par n (D8 hy).1 with q|q
  ·exact .inl q
  ·exact .inr {q,PySem.W.cellsFrom_some _ _ _ (.inl q)}
 let (C,_,_):=l.hok f _ O;let (h,_,_):=l.hok c' _ L;let C:s.heap.get? f=some (PySem.W.kla_obj "<lambda>" q c d a [] pm c' j):=C;let h:s.heap.CodeRec (.ref c') q:=h;refine PySem.W.kla_callFunE B.depth C rfl S.co S.gen rfl h ?_;rw [T];refine i0 ?_;refine wpAny_newFunctionEnv_cells S.kind g λU M D x=>?_;subst M;refine {m.keeps x.toInCall.keep,PySem.W.kla_codeExpr ?_};let (t,ht,Z):=i (B.deeper _);let I:aP (jC CX P w K mg base N q a f (.ref c') A outer s H E) [] (dC N vs) H D:=sL S B.hd l G r x;refine v7 (ht D (dC N vs) H _ I Z) (λu F p=>?_) λe F p=>p;let (v,X,J,Y,z):=p;exact {(v),X,J.os,J.bare,J.base,J.hok,Y,z}
end L2
namespace L2
open PySem PySem.Spec PyProof.Rows PySem.W
structure Po (X:Cx) (a:Addr):Prop where
 up:X.s₀.heap.objs.size<=a
 neL:a≠X.env.locals
 nfs:a ∉ X.fs
 neC:∀x c,X.env.cells.lookup x=some c->c≠a
 neP:∀p ∈ X.pn,p.1≠a
section
variable {X:Cx} {pins pins':List (Addr × Obj)} {σ:St} {H:Hp} {s:Shared} {a:Addr} {o o':Obj} {h':Heap} {tk:Nat}
def Po.of (I:aP X pins σ H s) (h:s.heap.objs.size<=a):Po X a:=by
 refine {n8 I.sz h,L4 (j7 I.lt h),λg=>?_,λx c e z=>?_,λp d z=>?_}
 ·let (_,o,b,_):=I.ok.funs.mem g;exact absurd (j7 (i5 b) (n8 I.sz h)) (v8 _)
 ·let (v,o,b,_):=I.cell x c e;rw [z] at b;exact absurd (j7 (i5 b) h) (v8 _)
 ·let (e,_):=I.pin p (A4 _ d);rw [z] at e;exact absurd (j7 (i5 e) h) (v8 _)
def aP.wr (I:aP X pins σ H s) (k:(a,o) ∈ pins) (O:Po X a) (j:Heap.SameBut a s.heap h') (e:h'.get? a=some o') (w:∀v,o'.data≠.cell v) (c:∀p ∈ pins',(p ∈ pins/\p.1≠a)\/p=(a,o')):
  aP X pins' σ H { s with heap:=h',toks:=tk }:=by
 let (_,n,_):=I.pin (a,o) (i9 _ k);let l:aP X [] σ H s:=I.pins_of λp c=>absurd c (by simp);let m:=l.turned (h':=h') (t':=tk) (it:=a) (λb u i g=>(j.2 b i).trans g) n O.neL (.inr O.up) O.neC (λp c=>O.neP p (by simpa using c));refine m.pins_of λp h=>?_;rcases c p h with ⟨h,i⟩|rfl
 ·let (g,t,r,q,d):=I.pin p (i9 _ h);exact {(j.2 _ i).trans g,t,r,q,d}
 ·exact {(e),n,O.neL,O.nfs,w}
def aP.pinAt (I:aP X pins σ H s) (b:(a,o) ∈ pins):s.heap.get? a=some o:=(I.pin (a,o) (i9 _ b)).1
def aP.pinIn (I:aP X pins σ H s) (b:(a,o) ∈ pins):s.heap.get? a=some o/\H a=none/\a≠X.env.locals/\a ∉ X.fs/\∀v,o.data≠.cell v:=I.pin (a,o) (i9 _ b)
def nocell {T:String} {xs:Array Value} {n:Nat}:∀v,(seqObj T xs n).data≠.cell v:=λv z=>by cases z
end
section
variable {X:Cx} {pins:List (Addr × Obj)} {σ:St} {H:Hp} {s:Shared} {A':Around} {E:Value->Shared->Prop} {D kS f:Addr} {vs:List Value} {xs:List V} {kz:List Int} {keys:Array Value} {e e1 n:Nat} {J:Hp->Prop} {P:PySem.Fin->Shared->Prop}
end
def fW (v d:Addr):HO:=.ext λh=>h.IsValuesView v d
def Hi {P:Program} {w:World} {H:Hp} {h:Heap} {v d:Addr} (x:h.IsValuesView v d):bL P w H h v (fW v d):=⟨x,let ⟨o,e,_⟩:=x;{(o),e},λb a ⟨o,e,r⟩ k=>{o,k o e,r}⟩
def CU (a:Addr) (o:Obj) (kvs:List (cC × V)):It:=
 ⟨λi H=>H a=some (.frz o (.dK kvs))/\i<kvs.length,λi H x H'=>H'=H/\∃e,kvs[i]?=some e/\x=e.2,λi H=>H a=some (.frz o (.dK kvs))/\kvs.length<=i⟩
theorem KV.at {kvs:List (cC × V)} {vs:List (cC × Value)} (r:KV kvs vs) {i:Nat} {k:cC} {v:Value} (e:vs[i]?=some (k,v)):∃p,kvs[i]?=some p/\bK p.2 v:=by
 induction r generalizing i with
 | nil=>simp at e
 | cons h t ih=>
  cases i with
  | zero=>
   simp only [List.getElem?_cons_zero,M3] at e;subst e;exact {_,rfl,h.2}
  | succ i=>
   simp only [List.getElem?_cons_succ] at e ⊢;exact ih e
def Ef {P:Program} {l:Option Value} {w:World} {K:Frag} {tg:Expr} (a it:Addr) (o:Obj) (kvs:List (cC × V)) {S:Array DictEntry} {ep:Nat} (L:o.data=.dict S ep) (O:l=none):Aj P w K l tg (CU a o kvs) [it] it (λi h=>h.IsValIter it a i kvs.length ep) where
 mem:=by simp
 obj:=λi h g b j=>by
  let e:b=it:=by simpa using j
  subst e
  let (o,e,c,d):=g
  exact {o,e,λv z=>by rw [d] at z;cases z}
 keep:=λi h q ⟨o,e,r⟩ k=>{o,k it (by simp) o e,r}
 item:=by
  intro X C G B N i f s σ H E I n g x;subst C G B;let (e,hi):=x;let (A,r,y):=Dr I e L;let t:=r.length;let (F,J,f2,u,f4,D):=n it (by simp);obtain⟨⟨k,v⟩,M⟩:∃p,A[i]?=some p:={A[i],c8 ∎};refine wpAny_pyNext_values_item (by rw [<- t];exact g) y M λq m Y=>?_;let T:aP X f σ H { s with heap:=q }:=I.turned (t':=s.toks) (λb o j e=>(Y.2 b j).trans e) F J u f4 D;let (oi,U,Z,Q):=id m;let (p,hp,rp):=KV.at r M;refine {v,rfl,wT (s:={ s with heap:=q }) U Z Q (by decide) {p.2,H,T,rp,{(rfl),p,hp,rfl},by rw [t];exact m,λb j=>(n b j).1}}
 done:=by
  intro X C G B N i f s σ H E I n g x;subst C G B;let (e,hi):=x;let (A,r,y):=Dr I e L;let t:=r.length;let (F,J,f2,u,f4,D):=n it (by simp);exact wpAny_pyNext_values_end (N.trans O) (by rw [<- t];exact g) y (w8 ∎) λq eb=>{rfl,I.turned (t':=s.toks) (λb o j e=>eb b o j e) F J u f4 D}
 self:=λ_ _ _ _ _ g h=>wpAny_pyIter_valiter g h
section
variable {X:Cx} {tg:Expr}
def Wn:V->List V->Hp->VK->Prop:=λx vs H Q=>∃a kvs,x=.ref a/\vs=[]/\H a=some (.dK kvs)/\∀v,H v=none->Q (.ref v) (aS H v (fW v a))
def Ff:KA X "dict.values" Wn:=by
 intro i s σ H x t v o Q I l m h;let (a,c,rfl,rfl,n,q):=h;cases l;let f:=m.zero;subst f;let (p,k,d,r,g):=(show bL X.prog X.w H s.heap a (.dK c) from I.hok a _ n);refine call_meetsIn PySem.F.slot_dict_values g.typeIs PySem.F.entry_dict_values (PySem.F.args_dict_values_1 _) (meets_dict_values (cK X.prog X.w) a k) {{(d),g},?_};let j:H s.heap.objs.size=none:=I.hok.fresh (d7 _);exact {.ref s.heap.objs.size,_,I.laid (a:=s.heap.objs.size) (t':=s.toks) (λb u e=>f1 _ e) (d7 _) (Hi {_,j3 _ rfl,rfl,rfl}),rfl,q _ j}
def uA {o:Expr} {e:TE} {b a:Pos} (f:PE X o e) (c:attributeBase o "values" X.env (eval o X.env)=eval o X.env:=by rfl) (d:(b.endLine == a.line)=true:=by rfl):PE X (.Call (.Attribute o "values" b) [] [] a) (EB X.K "dict" Wn e):=
 Zt PySem.F.plainAttrs_dict PySem.F.slot_dict_values PySem.F.type_dict_values Ff f c d
def FX (tl:TE):TI:=λσ H R=>tl σ H λx H1=>∃v a kvs,x=.ref v/\H1 v=some (fW v a)/\H1 a=some (.dK kvs)/\∀o,R (CU a o kvs) (aS H1 a (.frz o (.dK kvs)))
def tY {l:Expr} {p:TE} (L:PE X l p) (k:X.calm=true:=by rfl):PI X tg l (FX p):=by
 intro n s σ H R I h;refine eH (L s σ H _ I h) λu i x F j J z=>?_;let (v,a,kvs,e,B,t,q):=z;subst e;cases J;let (f,_,_):=j.hok v _ B;let f:i.heap.IsValuesView v a:=f;let (o,y,m):=j.freeze t;let (M,N,C,r,O,A,ep,g,c,d,D,K,E):=(show bL X.prog X.w F i.heap a (.dK kvs) from j.hok a _ t);rw [y] at g;cases g;refine wpAny_pyIter_values (knd:=cK X.prog X.w) (kvs:=C) (ep:=ep) f {(o),A,y,c,d,D,K,E} ?_;refine {i.heap.objs.size,[i.heap.objs.size],_,_,_,rfl,m.kept (t':=i.toks) λb o e=>f1 _ e,Ef a _ o kvs d (I.ok.hd k),?_,λb G=>?_,q o}
 ·exact {_,j3 _ rfl,rfl,by rw [r.length];rfl}
 ·let e:b=i.heap.objs.size:=by simpa using G
  subst e;exact m.fpOk (d7 _) (m.hok.fresh (d7 _))
def Nc {a:Addr} {o:Obj} {kvs:List (cC × V)} {g:TG} {tb:TS} {D:eO} {σ:St} {H:Hp} (b:Nat->St->Hp->Prop) (s:b 0 σ H) (n:∀i σ H,i<=kvs.length->b i σ H->H a=some (.frz o (.dK kvs)))
  (l:∀i e σ H,kvs[i]?=some e->b i σ H->g e.2 σ H λf h=>tb { D with nx:=b (i+1),ct:=b (i+1),bk:=D.nx } f h) (r:∀ σ H,b kvs.length σ H->D.nx σ H):
  ∃W:Nat->Nat->St->Hp->Prop,(∃m,W 0 m σ H)/\∀i m σ H,W i m σ H ->
   ((CU a o kvs).stop i H/\D.nx σ H)\/((CU a o kvs).go i H/\∃N:St->Hp->Prop,(∀j c,N j c->∃k,k<m/\W (i+1) k j c)/\∀x c,(CU a o kvs).yld i H x c->g x σ c λf h=>tb { D with nx:=N,ct:=N,bk:=D.nx } f h):=by
 refine {λi m σ H=>m=kvs.length-i/\i<=kvs.length/\b i σ H,{kvs.length,by simp,i8 _,s},?_};rintro i m σ H ⟨rfl,u,p⟩;let q:=n i σ H u p;by_cases d:i<kvs.length
 ·refine .inr {{(q),d},b (i+1),λj c t=>{kvs.length-(i+1),∎,rfl,d,t},λx c y=>?_};let (rfl,e,v,rfl):=y;exact l i e σ _ v p
 ·let e:i=kvs.length:=∎;subst e;exact .inl {{q,d7 _},r σ H p}
end
def Pi (X:Cx) (A':Around) (σ:St) (f:Addr) (J:Hp->Prop) (x:V) (φ:Hp->V->Hp->Prop):Prop:=∀(pins':List (Addr × Obj)) (H':Hp) (s':Shared) (v:Value),aP X pins' σ H' s'->J H'->bK x v ->
 wpAny (model X.prog X.w) A' (call (.ref f) [v]) (EP X pins' σ λy H''=>φ H' y H''/\J H'') (λ_ _=>False) s'
def Th {X:Cx} {i:Around} {σ:St} {k:Nat} {f c':Addr} {q p:Str} {c:Arguments} {d:Expr} {a:Scope} {pm ctv:Value} {N:List Str} {tb:TE} {J:Hp->Prop} {x:V} {φ:Hp->V->Hp->Prop}
  (D:∀b,J b->b f=some (mS f (kla_obj "<lambda>" q c d a [] pm c' ctv))) (t:∀b,J b->b c'=some (hG c' q)) (O:X.A.frames=some X.stack->i.frames=some X.stack) (G:Room (k+1) i) (S:aK N [p] a) (P:∀u,bindArgs (kla_fn "<lambda>" q c d a [] pm (.ref c') ctv) {[u],[]}=pure [(p,u)])
  (g:∀(s:Shared) (H:Hp),Room k (i.deeper (envOfC q a s.heap.objs.size f (.ref c')))->PE (jC cY X.prog X.w X.K X.mg X.base N q a f (.ref c') i X.stack s H E0).nox d tb)
  (L:∀b,J b->tb (dC N [x]) b (λy m=>φ b y m/\J m)):Pi X i σ f J x φ:=by
 intro n b z v I j r;let F:=D b j;let B:=t b j;let M:=L b j;let h:=I.env0;let C:nY X.prog X.w X.K X.mg X.base i X.stack z b:={O I.ok.frames,h.mod,h.bs,h.bsz,h.funs,h.frf,h.hok,h.bare};refine D9 (C0 (Tg (CX:=cY) (E:=E0) (us:=[v]) (vs:=[x]) F B S G C (P v) (.cons r .nil) rfl λo=>{tb,(g z b o).nox,M}) λr Q l=>?_);cases r with
 | error e=>exact l
 | ok fl=>
  cases fl with
  | ret u=>exact I.after l
  | next=>exact False.elim l
  | brk=>exact False.elim l
  | cont=>exact False.elim l
section
variable {X:Cx}
def kJ (p q:Int × Int):Prop:=p.1<q.1\/(p.1=q.1/\p.2<q.2)
instance (p q:Int × Int):Decidable (kJ p q):=by unfold kJ;infer_instance
def Fj (p q:Int × Int):HT.lexLt [p.1,p.2] [q.1,q.2]=decide (kJ p q):=by
 rw [D7,decide_eq_true_eq];simp only [HT.lexLt_cons,HT.lexLt_nil_nil,kJ];split
 ·split
  ·simp;omega
  ·simp;omega
 ·simp;omega
def Fh {p q r:Int × Int} (a:kJ p q) (h2:¬ kJ r q):kJ p r:=by
 unfold kJ at *;omega
def Sz {p q r:Int × Int} (a:kJ p q) (h2:¬ kJ r q):¬ kJ r p:=by
 unfold kJ at *;omega
def Dj {p:Int × Int}:¬ kJ p p:=by
 unfold kJ;omega
def HF (k:Int × Int):Hp->V->Hp->Prop:=λH' y H''=>(∃t,y=.ref t/\H'' t=some (.tup [.int k.1,.int k.2]))/\∀b xs,H' b=some (.tup xs)->H'' b=some (.tup xs)
def aP.wrK {X:Cx} {pins pins':List (Addr × Obj)} {σ:St} {H:Hp} {s:Shared} {a:Addr} {o o':Obj} {h':Heap} {tk:Nat} (I:aP X pins σ H s) (q:(a,o) ∈ pins) (O:Po X a) (j:∀b u,b≠a->s.heap.get? b=some u->h'.get? b=some u) (e:h'.get? a=some o') (w:∀v,o'.data≠.cell v) (c:∀p ∈ pins',(p ∈ pins/\p.1≠a)\/p=(a,o')):
  aP X pins' σ H { s with heap:=h',toks:=tk }:=by
 let (_,n,_):=I.pin (a,o) (i9 _ q);let t:aP X [] σ H s:=I.pins_of λp c=>absurd c (by simp);let x:=t.turned (h':=h') (t':=tk) (it:=a) (λb u i g=>j b u i g) n O.neL (.inr O.up) O.neC (λp c=>O.neP p (by simpa using c));refine x.pins_of λp h=>?_;rcases c p h with ⟨h,i⟩|rfl
 ·let (g,r,k,m,d):=I.pin p (i9 _ h);exact {j _ _ i g,r,k,m,d}
 ·exact {(e),n,O.neL,O.nfs,w}
def aP.listAt {X:Cx} {pins:List (Addr × Obj)} {σ:St} {H:Hp} {s:Shared} {l:Addr} {ps:List Addr} (I:aP X pins σ H s) (h:H l=some (.lst (ps.map V.ref))):s.heap.IsList l (ps.map Value.ref).toArray/\ps.length<=sizeLine:=by
 let (b,r,a,z):=I.list (cZ.of h);rw [vV r] at a;rw [f8] at z;exact {(a.isList),z}
def pU {o:Obj} {l:Addr} {i:Int} (a:o.data=.fields #[.ref l,.int i 0]):∀v,o.data≠.cell v:=λv z=>by rw [a] at z;cases z
section
variable {pins:List (Addr × Obj)} {σ:St} {l f I S:Addr} {ps:List Addr} {J:Hp->Prop} {R:Result->Shared->Prop}
def Lx (kf:Nat->Int × Int) (hh:X.A.handled=none) (hu:X.A.in1.units<cLine) (OI:Po X I) (OS:Po X S) (hSI:S≠I) (hlI:l≠I) (pI:∀p ∈ pins,p.1≠I) (pS:∀p ∈ pins,p.1≠S)
  (hJl:∀H',J H'->H' l=some (.lst (ps.map V.ref)))
  (turn:∀(i:Nat) (p:Addr),ps[i]?=some p->Pi X X.A.in1 σ f J (.ref p) (HF (kf i)))
  (hR:∀i p s' H',ps[i]?=some p->(∀j,j<ps.length->¬ kJ (kf j) (kf i)/\(j<i->kJ (kf i) (kf j)))->aP X pins σ H' s'->J H'->R (.ok (.ret (.ref p))) s'):
  ∀(r j i:Nat) (s:Shared) (H:Hp) (pb kb:Addr) (c:Nat) (oI:Obj),ps.length-(j+1)=r->j+1<=ps.length->aP X ((S,seqObj "list" #[.ref pb,.ref kb] c)::(I,oI)::pins) σ H s->J H ->
   oI.cls=.type "list_iterator"->oI.data=.fields #[.ref l,.int ((j+1:Nat):Int) 0]->H kb=some (.tup [.int (kf i).1,.int (kf i).2])->ps[i]?=some pb->i<=j->(∀j',j'<=j->¬ kJ (kf j') (kf i)/\(j'<i->kJ (kf i) (kf j'))) ->
   codeAny (model X.prog X.w) X.A (.builtin "min.loop" {[.ref I,.ref f,.ref S],[]}) R s:=by
 let hname:(toString "min"++toString ".loop":String)="min.loop":=by decide
 let W:=Walks.list (prog:=X.prog) (w:=X.w) (A:=X.A.in1) hh I l hlI (ps.map Value.ref).toArray;let hsz:(ps.map Value.ref).toArray.size=ps.length:=by simp
 intro r
 induction r with
 | zero=>
  intro j i s H pb kb c oI hr hj Iv hJ oc od hk hpb hij hbest;let hin:j+1=ps.length:=∎;let nS:=Iv.pinAt (a:=S) (o:=seqObj "list" #[.ref pb,.ref kb] c) (by simp);let nI:=Iv.pinAt (a:=I) (o:=oI) (by simp);let (isL,_):=Iv.listAt (hJl H hJ);refine C9 PySem.F.entry_min_loop ?_;rw [E4 PySem.F.plain_min_loop _];show wpAny _ X.A.in1 (seqItems? (.ref S) >>= _) _ _ _;refine c7 (L7 nS rfl ?_);show wpAny _ X.A.in1 (tryCatch (pyNext (.ref I)) _ >>= _) _ _ _;refine c7 (J7 (W.done _ _ _ {by rw [hsz,<- hin];exact {(oI),nI,oc,od},isL} λh' tk' hk'=>?_));let I0:aP X ((S,seqObj "list" #[.ref pb,.ref kb] c)::pins) σ H s:=Iv.pins_of λp hp=>Iv.pinIn (a:=p.1) (o:=p.2) (by
   rcases g7.mp hp with rfl|hp
   ·simp
   ·exact d0 _ (d0 _ hp));let I1:aP X ((S,seqObj "list" #[.ref pb,.ref kb] c)::pins) σ H { s with heap:=h',toks:=tk' }:=I0.turned (it:=I) (t':=tk') (λb o ne e=>hk' b o (by simpa using ne) e) (Iv.pinIn (a:=I) (o:=oI) (by simp)).2.1 OI.neL (.inr OI.up) OI.neC (λp hp=>by
   rcases j1.mp hp with hp|hp
   ·exact OI.neP p hp
   ·rcases g7.mp hp with rfl|hp
    ·exact hSI
    ·exact pI p hp);let hS':=I1.pinAt (a:=S) (o:=seqObj "list" #[.ref pb,.ref kb] c) (by simp);let s1:=K8 h' S (Obj.mapSeq λ_=>(#[]:Array Value));obtain⟨c2,hc2⟩:∃c2,(h'.update S (Obj.mapSeq λ_=>(#[]:Array Value))).get? S=some (seqObj "list" #[] c2):={_,get?_update_seq hS' λ_=>#[]};show wpAny _ X.A.in1 (updateSeq S (λ_=>#[]) >>= _) _ _ _;refine c7 ?_;refine wpAny_updateSeq hS' rfl (c7 (P5 (i0 ?_)));let I2:=I1.wr (a:=S) (o:=seqObj "list" #[.ref pb,.ref kb] c) (tk:=tk') (pins':=pins) (by simp) OS s1 hc2 nocell λp hp=>.inl {d0 _ hp,pS p hp};exact hR i pb _ H hpb (λj' hj'=>hbest j' ∎) I2 hJ
 | succ r ih=>
  intro j i s H pb kb c oI hr hj Iv hJ oc od hk hpb hij hbest;let hlt:j+1<ps.length:=∎;let nS:=Iv.pinAt (a:=S) (o:=seqObj "list" #[.ref pb,.ref kb] c) (by simp);let nI:=Iv.pinAt (a:=I) (o:=oI) (by simp);let (isL,_):=Iv.listAt (hJl H hJ);refine C9 PySem.F.entry_min_loop ?_;rw [E4 PySem.F.plain_min_loop _];show wpAny _ X.A.in1 (seqItems? (.ref S) >>= _) _ _ _;refine c7 (L7 nS rfl ?_);show wpAny _ X.A.in1 (tryCatch (pyNext (.ref I)) _ >>= _) _ _ _;refine c7 (J7 (W.item (j+1) _ _ _ (by rw [hsz];exact hlt) {{(oI),nI,oc,od},isL} λv h' tk' hP hst' hk'=>?_));obtain⟨p,hp,rfl⟩:∃p,ps[j+1]?=some p/\v=.ref p:=by
   let hv:(ps.map Value.ref)[j+1]?=some v:=by simpa using hP
   rw [i7,c8 hlt] at hv;exact {_,c8 hlt,(Option.some.inj hv).symm}
  let (oI',hoI',hoc,hod):=id hst'.1;let I1:=Iv.wrK (a:=I) (o:=oI) (o':=oI') (h':=h') (tk:=tk') (pins':=(S,seqObj "list" #[.ref pb,.ref kb] c)::(I,oI')::pins) (by simp) OI (λb u ne e=>hk' b u (by simpa using ne) e) hoI' (pU hod) λp hp=>by
   rcases g7.mp hp with rfl|hp
   ·exact .inl {by simp,hSI}
   ·rcases g7.mp hp with rfl|hp
    ·exact .inr rfl
    ·exact .inl {d0 _ (d0 _ hp),pI p hp}
  show wpAny _ X.A.in1 (tryCatch (holding [.ref p] (call (.ref f) [.ref p])) _ >>= _) _ _ _;refine c7 (J7 (y0 (v7 (turn (j+1) p hp _ H _ _ I1 hJ rfl) (λx s'' he=>?_) λ_ _ hF=>hF.elim)));let (y,H2,I2,ry,((t,rfl,ht),tups),hJ2):=he;cases ry;let hk2:=tups kb _ hk;let nS2:=I2.pinAt (a:=S) (o:=seqObj "list" #[.ref pb,.ref kb] c) (by simp);let nI2:=I2.pinAt (a:=I) (o:=oI') (by simp);show wpAny _ X.A.in1 (tryCatch (holding [.ref p,.ref t] (richCompare .Lt (.ref t) (.ref kb) >>= _)) _ >>= _) _ _ _;let (ia,ra,pa,_):=I2.tuple (bN.of (show H2 t=some (.tup ([(kf (j+1)).1,(kf (j+1)).2].map V.int)) from ht));let (ib,rb,pb',_):=I2.tuple (bN.of (show H2 kb=some (.tup ([(kf i).1,(kf i).2].map V.int)) from hk2));let cmp:=HT.lt_tupInts (prog:=X.prog) (w:=X.w) (A:=X.A.in1) (E:=λ_ _=>False) pa pb' (pW ra) (pW rb) hu (Q:=λu s3=>u=.bool (decide (kJ (kf (j+1)) (kf i)))/\s3=s'') {by rw [Fj],rfl};refine c7 (J7 (y0 (c7 (v7 cmp (λu s3 z=>?_) λ_ _ z=>z.elim))));let (rfl,rfl):=z;refine c7 (y0 (A0 ?_));refine c7 (P5 (i0 ?_));by_cases hb':kJ (kf (j+1)) (kf i)
  ·let s1:=K8 s3.heap S (Obj.mapSeq λ_=>#[.ref p,.ref t]);obtain⟨c2,hc2⟩:∃c2,(s3.heap.update S (Obj.mapSeq λ_=>#[.ref p,.ref t])).get? S=some (seqObj "list" #[.ref p,.ref t] c2):={_,get?_update_seq nS2 λ_=>#[.ref p,.ref t]};simp only [hb',decide_true,if_true];refine c7 ?_;refine wpAny_updateSeq nS2 rfl (c7 (P5 ?_));rw [hname];let I3:=I2.wr (a:=S) (o:=seqObj "list" #[.ref pb,.ref kb] c) (tk:=s3.toks) (pins':=(S,seqObj "list" #[.ref p,.ref t] c2)::(I,oI')::pins) (by simp) OS s1 hc2 nocell λp hp=>by
    rcases g7.mp hp with rfl|hp
    ·exact .inr rfl
    ·refine .inl {d0 _ hp,?_};rcases g7.mp hp with rfl|hp
     ·exact hSI.symm
     ·exact pS p hp
   refine i0 {plainId_quiet PySem.F.plain_min_loop _,ih (j+1) (j+1) _ H2 p t c2 oI' ∎ hlt I3 hJ2 hoc hod ht hp (d7 _) λj' hj'=>?_};by_cases e:j'=j+1
   ·subst e;exact {Dj,λh=>absurd h (v8 _)}
   ·let hb1:=(hbest j' ∎).1;exact {Sz hb' hb1,λ_=>Fh hb' hb1}
  ·simp only [hb',decide_false,A5,if_false];refine c7 (P5 ?_);rw [hname];refine i0 {plainId_quiet PySem.F.plain_min_loop _,ih (j+1) i _ H2 pb kb c oI' ∎ hlt I2 hJ2 hoc hod hk2 hpb ∎ λj' hj'=>?_};by_cases e:j'=j+1
   ·subst e;exact {hb',λh=>∎}
   ·exact hbest j' ∎
def Wo (X:Cx) (σ:St):List V->List V->Hp->VK->Prop:=λxs ds H Q=>∃(l f:Addr) (ps:List Addr) (kf:Nat->Int × Int) (J:Hp->Prop),xs=[.ref l]/\ds=[.ref f]/\J H/\(∀H',J H'->H' l=some (.lst (ps.map V.ref)))/\ps≠[] /\
 (∀(i:Nat) (p:Addr),ps[i]?=some p->Pi X X.A.in1 σ f J (.ref p) (HF (kf i)))/\∀(i:Nat) (p:Addr) (H':Hp),J H'->ps[i]?=some p->(∀j,j<ps.length->¬ kJ (kf j) (kf i)/\(j<i->kJ (kf i) (kf j)))->Q (.ref p) H'
def Gp (hc:X.calm=true) (hu:X.A.in1.units<cLine) {s:Shared} {H:Hp} {xs ds:List V} {us ws:List Value} {Q:VK} (Iv:aP X pins σ H s) (r:bG xs us) (rd:bG ds ws) (h:Wo X σ xs ds H Q):
  wpAny (model X.prog X.w) X.A (call (.builtin "min") us ([("key":Str)].zip ws)) (EP X pins σ Q) X.xe s:=by
 let (l,f,ps,kf,J,rfl,rfl,hJ,hJl,hne,turn,q):=h;let (u,rfl,ru):=r.one;cases ru;let (u',rfl,ru'):=rd.one;cases ru';let hh:X.A.handled=none:=Iv.ok.hd hc;let hne:0<ps.length:=List.length_pos_iff.mpr hne;let hname:(toString "min"++toString ".loop":String)="min.loop":=by decide
 let (isL,_):=Iv.listAt (hJl H hJ);show wpAny _ _ (call (.builtin "min") [.ref l] [(Str.ofString "key",.ref f)]) _ _ _;refine kmk_tree PySem.F.kind_min PySem.F.plain_min PySem.F.entry_min (kmk_min_key _ _) ?_;show wpAny _ X.A.in1 (Builtin.Builtins.bindParams "min" ["key","default"] 0 {[],[(Str.ofString "key",.ref f)]} >>= _) _ _ s;refine c7 (B5 (show Builtin.Builtins.bindParams "min" ["key","default"] 0 {[],[(Str.ofString "key",.ref f)]}=pure [some (.ref f),none] from rfl) ?_);refine c7 (i0 ?_);refine c7 (M4 isL ?_);refine c7 (wpAny_newList ?_ (i8 _));rw [hname];let lI:l<s.heap.objs.size:=Iv.hok.lt (hJl H hJ);let hlI:l≠s.heap.objs.size:=j8 lI;let OI:Po X s.heap.objs.size:=Po.of Iv (d7 _);let nI:H s.heap.objs.size=none:=Iv.hok.fresh (d7 _);let I1:aP X pins σ H { s with heap:=s.heap.push { cls:=.type "list_iterator",data:=.fields #[.ref l,.int 0 0] } }:=Iv.kept (t':=s.toks) λb o e=>f1 _ e;let I2:aP X pins σ H { s with heap:=(s.heap.push { cls:=.type "list_iterator",data:=.fields #[.ref l,.int 0 0] }).push (seqObj "list" #[] 0) }:=I1.kept (t':=s.toks) λb o e=>f1 _ e;let OS:Po X (s.heap.push { cls:=.type "list_iterator",data:=.fields #[.ref l,.int 0 0] }).objs.size:=Po.of I1 (d7 _);let nS:H (s.heap.push { cls:=.type "list_iterator",data:=.fields #[.ref l,.int 0 0] }).objs.size=none:=I1.hok.fresh (d7 _);let hS:(s.heap.push { cls:=.type "list_iterator",data:=.fields #[.ref l,.int 0 0] }).objs.size=s.heap.objs.size+1:=size_push' ..;let hSI:(s.heap.push { cls:=.type "list_iterator",data:=.fields #[.ref l,.int 0 0] }).objs.size≠s.heap.objs.size:=by rw [hS];exact L4 (K0 _)
 let gI:((s.heap.push { cls:=.type "list_iterator",data:=.fields #[.ref l,.int 0 0] }).push (seqObj "list" #[] 0)).get? s.heap.objs.size=some { cls:=.type "list_iterator",data:=.fields #[.ref l,.int 0 0] }:=
  f1 _ (j3 _ rfl)
 let gS:((s.heap.push { cls:=.type "list_iterator",data:=.fields #[.ref l,.int 0 0] }).push (seqObj "list" #[] 0)).get? (s.heap.push { cls:=.type "list_iterator",data:=.fields #[.ref l,.int 0 0] }).objs.size=some (seqObj "list" #[] 0):=j3 _ rfl;let pI:∀p ∈ pins,p.1≠s.heap.objs.size:=λp hp=>j8 (i5 (Iv.pinAt (a:=p.1) (o:=p.2) hp));let pS:∀p ∈ pins,p.1≠(s.heap.push { cls:=.type "list_iterator",data:=.fields #[.ref l,.int 0 0] }).objs.size:=λp hp=>j8 (i5 (I1.pinAt (a:=p.1) (o:=p.2) hp));generalize hSd:(s.heap.push { cls:=.type "list_iterator",data:=.fields #[.ref l,.int 0 0] }).objs.size=S at OS nS hSI gS pS ⊢;generalize hId:s.heap.objs.size=I at OI nI hlI hSI gI pI ⊢;generalize (s.heap.push { cls:=.type "list_iterator",data:=.fields #[.ref l,.int 0 0] }).push (seqObj "list" #[] 0)=h0 at I2 gI gS ⊢;let I3:aP X ((S,seqObj "list" #[] 0)::(I,{ cls:=.type "list_iterator",data:=.fields #[.ref l,.int 0 0] })::pins) σ H { s with heap:=h0 }:=I2.pins_of λp hp=>by
  rcases g7.mp hp with rfl|hp
  ·exact {(gS),nS,OS.neL,OS.nfs,nocell}
  ·rcases g7.mp hp with rfl|hp
   ·exact {gI,nI,OI.neL,OI.nfs,λv z=>by cases z}
   ·exact I2.pinIn (a:=p.1) (o:=p.2) hp
 let (isL3,_):=I3.listAt (hJl H hJ);let W:=Walks.list (prog:=X.prog) (w:=X.w) (A:=X.A.in1) hh I l hlI (ps.map Value.ref).toArray;let hsz:(ps.map Value.ref).toArray.size=ps.length:=by simp
 refine i0 {plainId_quiet PySem.F.plain_min_loop _,?_};refine C9 PySem.F.entry_min_loop ?_;rw [E4 PySem.F.plain_min_loop _];show wpAny _ X.A.in1 (seqItems? (.ref S) >>= _) _ _ _;refine c7 (L7 gS rfl ?_);show wpAny _ X.A.in1 (tryCatch (pyNext (.ref I)) _ >>= _) _ _ _;refine c7 (J7 (W.item 0 _ _ _ (by rw [hsz];exact hne) {{_,gI,rfl,rfl},isL3} λv h' tk' hP hst' hk'=>?_));obtain⟨p,hp,rfl⟩:∃p,ps[0]?=some p/\v=.ref p:=by
  let hv:(ps.map Value.ref)[0]?=some v:=by simpa using hP
  rw [i7,c8 hne] at hv;exact {_,c8 hne,(Option.some.inj hv).symm}
 let (oI',hoI',hoc,hod):=id hst'.1;let I4:=I3.wrK (a:=I) (o:={ cls:=.type "list_iterator",data:=.fields #[.ref l,.int 0 0] }) (o':=oI') (h':=h') (tk:=tk') (pins':=(S,seqObj "list" #[] 0)::(I,oI')::pins) (by simp) OI (λb u ne e=>hk' b u (by simpa using ne) e) hoI' (pU hod) λp hp=>by
  rcases g7.mp hp with rfl|hp
  ·exact .inl {by simp,hSI}
  ·rcases g7.mp hp with rfl|hp
   ·exact .inr rfl
   ·exact .inl {d0 _ (d0 _ hp),pI p hp}
 show wpAny _ X.A.in1 (tryCatch (holding [.ref p] (call (.ref f) [.ref p])) _ >>= _) _ _ _;refine c7 (J7 (y0 (v7 (turn 0 p hp _ H _ _ I4 hJ rfl) (λx s'' he=>?_) λ_ _ hF=>hF.elim)));let (y,H2,I5,ry,((t,rfl,ht),tups),hJ2):=he;cases ry;let nS2:=I5.pinAt (a:=S) (o:=seqObj "list" #[] 0) (by simp);let s1:=K8 s''.heap S (Obj.mapSeq λ_=>#[.ref p,.ref t]);obtain⟨c2,hc2⟩:∃c2,(s''.heap.update S (Obj.mapSeq λ_=>#[.ref p,.ref t])).get? S=some (seqObj "list" #[.ref p,.ref t] c2):={_,get?_update_seq nS2 λ_=>#[.ref p,.ref t]};show wpAny _ X.A.in1 (updateSeq S (λ_=>#[.ref p,.ref t]) >>= _) _ _ _;refine c7 ?_;refine wpAny_updateSeq nS2 rfl ?_;rw [hname];let I6:=I5.wr (a:=S) (o:=seqObj "list" #[] 0) (tk:=s''.toks) (pins':=(S,seqObj "list" #[.ref p,.ref t] c2)::(I,oI')::pins) (by simp) OS s1 hc2 nocell λp hp=>by
  rcases g7.mp hp with rfl|hp
  ·exact .inr rfl
  ·refine .inl {d0 _ hp,?_};rcases g7.mp hp with rfl|hp
   ·exact hSI.symm
   ·exact pS p hp
 refine i0 {plainId_quiet PySem.F.plain_min_loop _,Lx kf hh hu OI OS hSI hlI pI pS hJl turn (λi p' s' H' hp' best I' j'=>{.ref p',H',I',rfl,q i p' H' j' hp' best}) _ 0 0 _ H2 p t c2 oI' rfl hne I6 hJ2 hoc hod ht hp (d7 _) λj' hj'=>?_};let e:j'=0:=∎;subst e;exact {Dj,λh=>absurd h (v8 _)}
def DX (X:Cx) (ta td:TA):TE:=λσ H Q=>ta σ H λxs H1=>td σ H1 λds H2=>Wo X σ xs ds H2 Q
def Rt {x:Str} {p pos c:Pos} {a b:Expr} {m k:TA} (y:X.calm=true) (F:X.A.in1.units<cLine) (t:Gl X x) (o:X.mg x=none) (w:bootBuiltins x=some (.builtin "min")) (E:PA X [a] m) (v:PK X [{some "key",b,c}] k) (B:x≠"__name__":=by decide) (i:(x == ("__debug__":Str))=false:=by decide)
  (d:(backToKw pos (keywordEach [{some "key",b,c}] X.env)).all (·.1.isSome)=true:=by rfl) (e:(backToKw pos (keywordEach [{some "key",b,c}] X.env)).filterMap (·.1)=[("key":Str)]:=by rfl)
  (z:starEach [a] X.env=(false,eval a X.env)::starEach [] X.env:=by rfl) (j:((backTo pos (starEach [a] X.env)).any (·.1) || (backToKw pos (keywordEach [{some "key",b,c}] X.env)).any (·.1.isNone))=false:=by rfl):
  PE X (.Call (.Name x p) [a] [{some "key",b,c}] pos) (DX X m k):=by
 intro pins s σ H Q I h;refine C1 (kR I t o w ?_ B i);refine PySem.W.callWith_of (P:=λg=>X.K.In g) j (λ_ _=>{.machine,.inr (.inl rfl),.now}) (PyProof.Rows.evalArgs_kw2 d (vF (E pins s σ H _ I h) λU u N G C r q=>?_) z);refine vF (v pos pins u σ G _ C q) λO M Y T n D L=>{n.kIn,?_};rw [e];exact Gp y F n r D L
end
structure xX (K:Frag) (x qual:Str) (st:Stmt) (f:Addr) (fd:FuncData) (c:Addr):Prop where
 ex:∃(oc:Value) (od:Option Addr) (kV doc pm:Value) (an:Option Addr) (ct:Value) (osl:Array (Option Value)),fd=PySem.W.fnOf x qual (dH st) (bH st) (aG st) .none kV doc pm an (.ref c) ct/\K.lookup f=some ⟨oc,od,.func fd,osl⟩/\PySem.W.codeIn K (.ref c) qual=true
 kp:PySem.W.keepIn K (.ref f)=true
section
variable {P:Program} {w:World} {K:Frag} {mg:Str->Option Value} {base:Heap} {x qual:Str} {st:Stmt} {f c:Addr} {fd:FuncData}
def xX.toFun (F:xX K x qual st f fd c):rH K x qual st f fd:=by
 let ((i,m,kV,a,j,d,g,b,e,l,h),k):=F;exact {{i,m,kV,a,j,d,_,g,b,e,l,h},k}
def xX.ok {N ps:List Str} {k:Nat} {sp:Sp} (F:xX K x qual st f fd c) (S:aK N ps (aG st)) (e:∀vs H Q E,sp vs H Q E->vs.length=ps.length)
  (a:∀(A:Around) (outer:List Env) (s:Shared) (H:Hp) (vs:List V) (Q:VK) (E:XK),Room k (A.deeper (envOfC qual (aG st) s.heap.objs.size f (.ref c)))->sp vs H Q E ->
   let X:=(jC cY P w K mg base N qual (aG st) f (.ref c) A outer s H E).nox
   let D:eO:={ nx:=λ_ i=>Q .non i,rt:=Q }
   ∃t,qS X (bH st) t/\t D (dC N vs) H):bM P w K mg base cY (k+1) f fd ps sp:=by
 let (p,u,kV,j,r,n,o,l,rfl,m,b):=F.ex;refine Nf m b S e λA outer s H vs Q E g d=>?_;let (t,h,q):=a A outer s H vs Q E g d;exact {(t),h.nox,q}
def Dn {e:Value} {d b:Option Addr} {a:Array (Option Value)} {kV doc pm ct:Value} (l:K.lookup f=some {e,d,.func (PySem.W.fnOf x qual (dH st) (bH st) (aG st) .none kV doc pm b (.ref c) ct),a})
  (h:PySem.W.codeIn K (.ref c) qual=true) (k:PySem.W.keepIn K (.ref f)=true):xX K x qual st f (PySem.W.fnOf x qual (dH st) (bH st) (aG st) .none kV doc pm b (.ref c) ct) c:={{(e),d,kV,doc,pm,b,ct,a,rfl,l,h},k}
end
def iG (H H':Hp):Prop:=∀b o,H b=some o->(∃ps,o=.tbl ps)\/H' b=some o
def aN.toT {H H':Hp} (h:aN H H'):iG H H':=λb o e=>.inr (h b o e)
def cT.toT {T:Addr} {H H':Hp} {ps:Array Value} (a:H T=some (.tbl ps)) (h:cT T H H'):iG H H':=λb o e=>by
 by_cases z:b=T
 ·subst z
  rw [a] at e
  cases e
  exact .inl {(ps),rfl}
 ·exact .inr (h b o z e)
def cT.same {T:Addr} {H a d:Hp} (k:cT T H a) (s:aN a d):cT T H d:=λb o n e=>s _ _ (k b o n e)
def cT.pre {T:Addr} {H a d:Hp} (s:aN H a) (k:cT T a d):cT T H d:=λb o n e=>k b o n (s _ _ e)
def iG.at {H H':Hp} {b:Addr} {o:HO} (h:iG H H') (e:H b=some o) (n:∀a,o≠.tbl a:=by intro _ z;cases z):H' b=some o:=by
 rcases h b o e with ⟨a,z⟩|z
 ·exact absurd z (n a)
 ·exact z
def gD.same {H H':Hp} {T:Addr} {pos:Pos} {q:Str} (h:aN H H') (t:gD H T pos q):gD H' T pos q:=by
 let (a,e,d,g):=t;refine {a,h _ _ e,d,?_};rcases g with z|⟨b,z,i⟩
 ·exact .inl z
 ·exact .inr {b,z,h _ _ i}
section
variable {P:Program} {w:World} {K:Frag} {mg:Str->Option Value} {base:Heap} {x qual:Str} {st:Stmt} {f c:Addr} {fd:FuncData}
end
end
end L2
namespace Hd
open PySem PyProof.Rows
section
variable {prog:Program} {w:World} {A:Around} {E:Value->Shared->Prop} {s:Shared}
end
section
variable {prog:Program} {w:World} {A:Around} {E:Value->Shared->Prop} {s:Shared} {h₀:Heap} {L l h:Addr} {m:Str->Option Value} {news:List (Addr × Obj)} {vs:List Value}
end
end Hd
namespace L2
open PySem PySem.Spec PyProof.Rows
section
variable {X:Cx} {k:Nat} {f h:Addr} {fd:FuncData} {ps:List Str} {sp:Addr->Sp} {dvs:List V} {ds:List Value} {x:Str} {p pos:Pos} {e:Expr} {es:List Expr} {t:TA}
end
def Le (σw σ:St):Prop:=∀(i:Nat) v,σw[i]?=some (some v)->σ[i]?=some (some v)
def Le.refl (σ:St):Le σ σ:=λ_ _ z=>z
def oM (CX:nG) (X:Cx) (σw:St) (E:XK):Prop:=∀(pins:List (Addr × Obj)) (σ:St) (H:Hp) (s:Shared) (e:Value) (s':Shared),Le σw σ->aP X pins σ H s->CX X.stack H s E e s'->X.xe e s'
def Vr (σw:St) (t:TE):TE:=λσ H Q=>Le σw σ/\t σ H Q
section
variable {X:Cx} {CX:nG} {k:Nat} {f C:Addr} {fd:FuncData} {ps:List Str} {sp:Sp} {dvs:List V} {ds:List Value} {E:XK} {x m:Str} {p pos apos:Pos} {e o:Expr} {es:List Expr} {ta:TE} {t:TA} {σw:St}
def Jw {pins:List (Addr × Obj)} {σ:St} {H:Hp} {s:Shared} {Q:VK} {us:List Value} {vs:List V} (F:bM X.prog X.w X.K X.mg X.base CX k f fd ps sp) (j:Room k X.A) (d:eP X.K fd ps ds) (h:bG dvs ds) (g:oM CX X σw E) (i:Le σw σ)
  (I:aP X pins σ H s) (r:bG vs us) (q:sp (vs++dvs) H Q E):wpAny (model X.prog X.w) X.A (call (.ref f) us) (EP X pins σ Q) X.xe s:=by
 let b:bG (vs++dvs) (us++ds):=r.append h
 let l:(us++ds).length=ps.length:=by rw [<- b.length];exact F.len _ _ _ _ q
 refine D9 (C0 (F.run X.A X.stack s H {us,[]} (us++ds) (vs++dvs) Q E j I.env0 (d s us I.kIn l) b q) λr c a=>?_);cases r with
 | error e=>exact g pins σ H s e c i I a
 | ok fl=>
  cases fl with
  | ret u=>exact I.after a
  | next=>exact a.elim
  | brk=>exact a.elim
  | cont=>exact a.elim
def Ev {pl:Sem Bool} (J:PE X o ta) (c:oO X.K C) (i:xV X.K C m f) (F:bM X.prog X.w X.K X.mg X.base CX k f fd ps sp) (L:Room k X.A) (P:eP X.K fd ps ds) (G:bG dvs ds) (S:oM CX X σw E) (M:PA X (e::es) t)
  (d:starEach (e::es) X.env=(false,eval e X.env)::starEach es X.env:=by rfl) (g:(backTo pos (starEach es X.env)).any (·.1)=false:=by rfl)
  (Y:eval (.Call (.Attribute o m apos) (e::es) [] pos) X.env=(eval o X.env >>= λj=>standAt apos.atName >>= λ_=>holding [j] (getMethod j m pl) >>= λn=>callWith pos n.1 n.2 (backTo pos (starEach (e::es) X.env)) (backToKw pos (keywordEach [] X.env))):=by rfl):
  PE X (.Call (.Attribute o m apos) (e::es) [] pos) (Vr σw (oX C m sp dvs E ta t)):=by
 intro b s σ H Q I ⟨N,q⟩;refine PySem.W.methodCall_KW (pl:=pl) (eH (J s σ H _ I q) λu D x O v B h=>?_) Y;let (a,dx,fs,z,U,l,q):=h;subst z;cases (show u=Value.ref a from B);refine kU v U c i l ?_;refine PySem.W.callWith_K (first:=[.ref a]) (h₀:=X.base) I.ok.mod.kin i.kp (vF (M b D σ O _ v q) λus Z vs H2 y r T=>{y.kIn,?_}) d g
 exact Jw (us:=.ref a::us) (vs:=.ref a::vs) F L P G S N y (.cons rfl r) T
end
end L2
namespace L2
open PySem PySem.Spec PyProof.Rows PySem.W
inductive Wp (X:Cx) (ss:List Stmt) (D:eO) (σ:St) (H:Hp):Prop|mk (t:TS) (_:qS X ss t) (_:t D σ H)
inductive Ex (X:Cx) (e:Expr) (σ:St) (H:Hp) (Q:VK):Prop|mk (t:TE) (_:PE X e t) (_:t σ H Q)
inductive Tx (X:Cx) (e:Expr) (σ:St) (H:Hp) (Q:Bool->Hp->Prop):Prop|mk (t:TT) (_:PT X e t) (_:t σ H Q)
inductive Ax (X:Cx) (es:List Expr) (σ:St) (H:Hp) (Q:List V->Hp->Prop):Prop|mk (t:TA) (_:PA X es t) (_:t σ H Q)
structure Vl (X:Cx) (e:Expr) (σ:St) (H:Hp) (v:V):Prop where to (Q:VK):Q v H->Ex X e σ H Q
structure Tv (X:Cx) (e:Expr) (σ:St) (H:Hp) (b:Bool):Prop where to (Q:Bool->Hp->Prop):Q b H->Tx X e σ H Q
structure Av (X:Cx) (es:List Expr) (σ:St) (H:Hp) (vs:List V):Prop where to (Q:List V->Hp->Prop):Q vs H->Ax X es σ H Q
def Wp.ex {X:Cx} {ss:List Stmt} {D:eO} {σ:St} {H:Hp} (h:Wp X ss D σ H):∃t,qS X ss t/\t D σ H:=by let (t,p,q):=h;exact {(t),p,q}
def CK:List Str->St->Str->Option V
 | n::N,o::σ,x=>if (n == x)=true then o else CK N σ x
 | _,_,_=>none
theorem Me {x:Str} {v:V}:∀{N:List Str} {σ:St},CK N σ x=some v->∃i:Nat,N[i]?=some x/\σ[i]?=some (some v)
 | [],_,h=>nomatch h
 | _::_,[],h=>nomatch h
 | n::N,o::σ,h=>by
  unfold CK at h
  by_cases e:(n == x)=true
  ·rw [if_pos e] at h
   exact {0,congrArg some (eq_of_beq e),congrArg some h}
  ·rw [if_neg e] at h
   let (i,a,b):=Me h
   exact {i+1,a,b}
section
variable {X:Cx} {σ:St} {H:Hp} {v w:V} {x:Str} {pos pos' p':Pos} {e a b:Expr} {es:List Expr} {ss r:List Stmt} {D:eO} {i j:Int} {Q:VK}
def aU:qS X ss (Wp X ss):=λ_ s σ H D I ⟨_,p,h⟩=>p s σ H D I h
def aR:PE X e (Ex X e):=λ_ s σ H Q I ⟨_,p,h⟩=>p s σ H Q I h
def eF:PT X e (Tx X e):=λ_ s σ H Q I ⟨_,p,h⟩=>p s σ H Q I h
def dD:PA X es (Ax X es):=λ_ c s σ H Q I ⟨_,p,h⟩=>p c s σ H Q I h
def Vl.ex (h:Vl X e σ H v) (q:Q v H):Ex X e σ H Q:=h.to Q q
def CZ (h:CK X.N σ x=some v) (g:BN X.env.scope x) (d:(x == ("__debug__":Str))=false) (c:(x == ("__classdict__":Str))=false):Vl X (.Name x pos) σ H v:=⟨λQ q=>by
 let (i,a,b):=Me h
 exact {_,zA a g d c,_,b,q}⟩
def DJ {k}:Vl X (.Constant (.int i) k pos) σ H (.int i):={λ_ q=>{_,aY,q}}
def DC {k}:Vl X (.Constant (.str x) k pos) σ H (.str x):={λ_ q=>{_,eI,q}}
def vE {k}:Vl X (.Constant .none k pos) σ H .non:={λ_ q=>{_,iV,q}}
def DM {k c}:Vl X (.Constant (.bool c) k pos) σ H (.bl c):={λ_ q=>{_,lK,q}}
def DO (h:Vl X a σ H (.int i)) (g:Vl X b σ H (.int j)):Vl X (.BinOp a .Add b pos) σ H (.int (i+j)):={λ_ q=>{_,cE eK aR aR,h.to _ (g.to _ {_,_,rfl,rfl,q})}}
def DB (h:Vl X a σ H (.int i)) (g:Vl X b σ H (.int j)):Vl X (.BinOp a .Sub b pos) σ H (.int (i-j)):={λ_ q=>{_,cE kP aR aR,h.to _ (g.to _ {_,_,rfl,rfl,q})}}
def DG (h:Vl X a σ H (.int i)) (g:Vl X b σ H (.int j)) (z:0<j):Vl X (.BinOp a .Mod b pos) σ H (.int (i % j)):={λ_ q=>{_,cE iW aR aR,h.to _ (g.to _ {_,_,rfl,rfl,z,q})}}
def DL (h:Vl X a σ H (.int i)) (g:Vl X b σ H (.int j)) (z:0<j/\j<2 ^ 64):Vl X (.BinOp a .FloorDiv b pos) σ H (.int (i / j)):={λ_ q=>{_,cE pJ aR aR,h.to _ (g.to _ {_,_,rfl,rfl,z,q})}}
def DF (h:Vl X a σ H (.int i)) (g:Vl X b σ H (.int j)) (z:yA i j):Vl X (.BinOp a .Mult b pos) σ H (.int (i * j)):={λ_ q=>{_,cE zF aR aR,h.to _ (g.to _ {_,_,rfl,rfl,z,q})}}
def DE (h:Vl X a σ H (.int i)):Vl X (.UnaryOp .USub a pos) σ H (.int (-i)):={λ_ q=>{_,Wq Hl aR,h.to _ {_,rfl,q}}}
def DA {p:Addr} {xs:List V} (h:Vl X a σ H (.ref p)) (g:Vl X b σ H (.int i)) (z:H p=some (.tup xs)) (y:kX xs i=some v) (c:oK b):Vl X (.Subscript a b pos) σ H v:={λ_ q=>{_,dN dJ aR aR c,h.to _ (g.to _ {_,_,_,_,rfl,rfl,bN.of z,y,q})}}
def DH {p:Addr} {xs:List V} (h:Vl X a σ H (.ref p)) (g:Vl X b σ H (.int i)) (z:H p=some (.lst xs)) (y:kX xs i=some v) (c:oK b):Vl X (.Subscript a b pos) σ H v:={λ_ q=>{_,dN jV aR aR c,h.to _ (g.to _ {_,_,_,_,rfl,rfl,cZ.of z,y,q})}}
def mX {op:CmpOp} {d:R2} {c:Bool} (l:kK X (compareOp op) d) (h:Vl X a σ H v) (g:Vl X b σ H w) (y:∀Q:VK,Q (.bl c) H->d v w H Q) (n:behindInMarks op b=false:=by first|exact bQ _|rfl):Tv X (.Compare a [op] [b] pos) σ H c:=
 {λ_ q=>{_,cN l aR aR n,h.to _ (g.to _ (y _ {_,rfl,q}))}}
def DR {k} (h:Vl X a σ H v):Tv X (.Compare a [.Is] [.Constant .none k p'] pos) σ H (decide (v=.non)):=mX zG h vE λ_ q=>{(rfl),q}
def Xi {k} (h:Vl X a σ H v):Tv X (.Compare a [.IsNot] [.Constant .none k p'] pos) σ H (!decide (v=.non)):=mX Cu h vE λ_ q=>{(rfl),q}
def IB (h:Vl X a σ H (.int i)) (g:Vl X b σ H (.int j)):Tv X (.Compare a [.Lt] [b] pos) σ H (decide (i<j)):=mX iF h g λ_ q=>{_,_,rfl,rfl,q}
def IC (h:Vl X a σ H (.int i)) (g:Vl X b σ H (.int j)):Tv X (.Compare a [.LtE] [b] pos) σ H (decide (i<=j)):=mX fP h g λ_ q=>{_,_,rfl,rfl,q}
def ID (h:Vl X a σ H (.int i)) (g:Vl X b σ H (.int j)):Tv X (.Compare a [.Gt] [b] pos) σ H (decide (j<i)):=mX Kv h g λ_ q=>{_,_,rfl,rfl,q}
def IE (h:Vl X a σ H (.int i)) (g:Vl X b σ H (.int j)):Tv X (.Compare a [.GtE] [b] pos) σ H (decide (j<=i)):=mX Wr h g λ_ q=>{_,_,rfl,rfl,q}
def IF (h:Vl X a σ H v) (g:Vl X b σ H w) (z:Ih v w=true):Tv X (.Compare a [.Eq] [b] pos) σ H (decide (v=w)):=mX sB h g λ_ q=>{(z),q}
def IA (h:Vl X a σ H v) (g:Vl X b σ H w) (z:Ih v w=true):Tv X (.Compare a [.NotEq] [b] pos) σ H (!decide (v=w)):=mX Cv h g λ_ q=>{(z),q}
def lT:Av X [] σ H []:={λ_ q=>{_,aF,q}}
def Ai {vs:List V} (h:Vl X e σ H v) (g:Av X es σ H vs) (c:starEach (e::es) X.env=(false,eval e X.env)::starEach es X.env):Av X (e::es) σ H (v::vs):={λ_ q=>{_,aA aR dD c,h.to _ (g.to _ q)}}
def cJ (h:D.nx σ H):Wp X [] D σ H:={_,aZ,h}
def cL {n:Nat} (S:X.N.Nodup) (hi:X.N[n]?=some x) (h:Ex X e σ H λv g=>Wp X r D (σ.set n (some v)) g) (d:Au X.env.scope x:=by first|exact j0 rfl|exact E9 rfl) (c:swapsWith e (some (.Name x p')) pos.line X.env=pure false:=by rfl) (l:X.fn x=true\/X.env.scope.names.lookup x=some .local:=by first|exact .inl rfl|exact .inr rfl):Wp X (.Assign [.Name x p'] e pos::r) D σ H:={_,aE (dX S hi d aR c l) aU,h}
def fV (h:Ex X e σ H D.rt):Wp X (.Return (some e) pos::r) D σ H:={_,aE (bF aR) aU,h}
def oB (h:Ex X e σ H λ_ c=>Wp X r D σ c) (d:swapsWith e none pos.line X.env=pure false:=by rfl):Wp X (.Expr e pos::r) D σ H:={_,aE (cF aR d) aU,h}
def uV {d:List Stmt} {c:Bool} (t:Tv X e σ H c) (g:c=true->Wp X ss { D with nx:=Wp X r D } σ H) (h2:c=false->Wp X d { D with nx:=Wp X r D } σ H):Wp X (.If e ss d pos::r) D σ H:={_,aE (bP eF aU aU) aU,t.to _ (by cases c;exact bY (h2 rfl);exact cH (g rfl))}
def He {c:Bool} (t:Tv X e σ H c) (d:c=true->Wp X ss { D with nx:=Wp X r D } σ H) (h2:c=false->Wp X r D σ H):Wp X (.If e ss [] pos::r) D σ H:=uV t d λz=>cJ (h2 z)
structure Tn (P:St->Hp->Prop) (D D':eO):Prop where
 nx:∀ σ H,P σ H->D'.nx σ H
 ct:∀ σ H,P σ H->D'.ct σ H
 rt:∀v H,D.rt v H->D'.rt v H
def oP (n:PassesOwn (model X.prog X.w) X.A X.env X.xe) (c:Nat->St->Hp->Prop) (m:Nat) (h:c m σ H)
  (l:∀m σ H,c m σ H->(Tv X e σ H true/\∀d,Tn (λσ H=>∃g,g<m/\c g σ H) D d->Wp X ss d σ H)\/(Tv X e σ H false/\Wp X r D σ H)):Wp X (.While e ss [] pos::r) D σ H:=
 ⟨_,aE (Ke n eF aU) aU,c,{(m),h},λm σ H p=>by
  rcases l m σ H p with ⟨t,k⟩|⟨t,k⟩
  ·exact t.to _ (cH {_,λ_ _ q=>q,k _ {λ_ _ q=>q,λ_ _ q=>q,λ_ _ q=>q}})
  ·exact t.to _ (bY k)⟩
end
section
variable {X:Cx} {CX:nG} {k:Nat} {f C:Addr} {fd:FuncData} {ps:List Str} {sp:Sp} {E:XK} {x m:Str} {p pos apos:Pos} {e o:Expr} {es:List Expr} {σ:St} {H:Hp} {Q:VK} {vs:List V}
end
section
variable {X:Cx} {σ:St} {H:Hp} {D:eO} {r ss:List Stmt} {pos p' p1 p2:Pos} {e:Expr} {x:Str} {n:Nat}
def jL {v:V} (h:Vl X e σ H v) (S:X.N.Nodup) (hi:X.N[n]?=some x) (b:Au X.env.scope x) (a:swapsWith e (some (.Name x p')) pos.line X.env=pure false) (c:X.fn x=true\/X.env.scope.names.lookup x=some .local) (k:Wp X r D (σ.set n (some v)) H):Wp X (.Assign [.Name x p'] e pos::r) D σ H:=cL S hi (h.to _ k) b a c
def Xc {a:List Stmt} {c:Bool} (t:Tv X e σ H c) (z:c=true) (h:Wp X ss { D with nx:=Wp X r D } σ H):Wp X (.If e ss a pos::r) D σ H:=uV t (λ_=>h) λy=>nomatch (z.symm.trans y)
def oQ {c:Bool} (t:Tv X e σ H c) (z:c=false) (h:Wp X r D σ H):Wp X (.If e ss [] pos::r) D σ H:=uV t (λy=>nomatch (z.symm.trans y)) λ_=>cJ h
def Pp {v:V} (h:Vl X e σ H v) (k:D.rt v H):Wp X (.Return (some e) pos::r) D σ H:=fV (h.to _ k)
def Tv.is {c d:Bool} (h:Tv X e σ H c) (z:c=d):Tv X e σ H d:=z ▸ h
def Hc {j:Int} {a:Expr} (s:PassesOwn (model X.prog X.w) X.A X.env X.xe) (m:X.mg "range"=none) (S:X.N.Nodup) (hi:X.N[n]?=some x) (t:Vl X a σ H (.int j)) (h:-(2 ^ 62)<=j/\j<2 ^ 62) (c:Nat->St->Hp->Prop) (o:c 0 σ H)
  (u:∀i σ H g,i<j.toNat->c i σ H->Tn (c (i+1)) D g->Wp X ss g (σ.set n (some (.int (0+(i:Int))))) H) (z:∀ σ H,c j.toNat σ H->Wp X r D σ H) (f:X.calm=true:=by rfl) (B:Au X.env.scope x:=by first|exact j0 rfl|exact E9 rfl) (l:Gl X "range":=by rfl) (b:starEach [a] X.env=[(false,eval a X.env)]:=by rfl) (v:X.fn x=true\/X.env.scope.names.lookup x=some .local:=by first|exact .inl rfl|exact .inr rfl) (d:∀y,foldedSetIterable (.Call (.Name "range" p1) [a] [] p2) X.env y=pure y:=by intro _;rfl):
  Wp X (.For (.Name x p') (.Call (.Name "range" p1) [a] [] p2) ss [] pos::r) D σ H:=
 {_,aE (eD s f (mM l m dD b f) (aO S hi B v) aU d) aU,(Ai t lT b).to _ {j,rfl,h.1,h.2,jW c o (λk σ H C p=>u k σ H _ C p {λ_ _ q=>q,λ_ _ q=>q,λ_ _ q=>q}) z}}
def Bx (X:Cx) (NB:List Str) (scope:Scope) (cl:List (Str × Addr)) (e:Expr):TE:=λσ H Q=>∀C s H' fp pn,Ex (X.blkF NB scope cl C s H' fp pn) e σ H Q
def Bt (X:Cx) (NB:List Str) (scope:Scope) (cl:List (Str × Addr)) (e:Expr):TT:=λσ H Q=>∀C s H' fp pn,Tx (X.blkF NB scope cl C s H' fp pn) e σ H Q
section
variable {NB:List Str} {js:List Nat} {scope:Scope} {cl:List (Str × Addr)} {elt:Expr} {Q:VK} {p3:Pos}
def Gj {J:It} {α:Type} {tc:TT} {te:TE} {val out:α->V} {pm:α->Bool} {xs:List α} (P:xs.length<=4000) (N:∀G i,aN H G->i<xs.length->J.go i G) (L:∀G,aN H G->J.stop xs.length G) (I:∀G i x q,aN H G->i<xs.length->J.yld i G x q->q=G/\∃z,xs[i]?=some z/\x=val z)
  (g:TG) (C:∀z ∈ xs,∀G,aN H G->∀R:St->Hp->Prop,(∀d:St,d.drop n=(dZ n js σ).drop n->(∀R:Bool->Hp->Prop,R (pm z) G->tc d G R)->(pm z=true->∀R:VK,(∀s,aN G s->R (out z) s)->te d G R)->R d G)->g (val z) (dZ n js σ) G R)
  (k:∀a G,aN H G->G a=some (.lst ((xs.filter pm).map out))->Q (.ref a) G) (a:Addr) (na:H a=none):
  ∃W:Nat->Nat->List V->Hp->Prop,(∃m,W 0 m [] (aS H a (.lst [])))/\∀i m c H,W i m c H->H a=some (.lst c) /\
  ((J.stop i H/\Q (.ref a) H)\/(J.go i H/\∀x B,J.yld i H x B->g x (dZ n js σ) B λd K=>d.drop n=(dZ n js σ).drop n/\tc d K λb A=>
   if b=true then te d A λy w=>w a=some (.lst c)/\c.length<sizeLine/\∃l,l<m/\W (i+1) l (c++[y]) (aS w a (.lst (c++[y])))
   else ∃l,l<m/\W (i+1) l c A)):=by
 let T:sizeLine=16777216:=sizeLine_eq;refine {λi m c G=>m=xs.length-i/\i<=xs.length/\c=((xs.take i).filter pm).map out/\aN H G/\G a=some (.lst c),{_,rfl,i8 _,rfl,aJ na,aB},?_};rintro i m c G ⟨rfl,S,rfl,h,p⟩;refine {p,?_};by_cases f:i<xs.length
 ·refine .inr {N G i h f,λx q E=>?_};let (rfl,z,t,rfl):=I _ _ _ _ h f E;let u:xs.take (i+1)=xs.take i++[z]:=by rw [A2,t];rfl
  let O:(((xs.take i).filter pm).map out).length<=i:=by
   rw [f8];exact n8 (J8 _ _) (by rw [l7];omega)
  refine C z (g6 t) _ h _ λd e M F=>{e,M _ ?_};by_cases j:pm z=true
  ·rw [if_pos j];refine F j _ λs v=>{v _ _ p,∎,xs.length-(i+1),∎,rfl,f,?_,λb o e=>?_,aB}
   ·rw [u,F8,m9];simp [j]
   ·rw [aC (aD e na)];exact v _ _ (h _ _ e)
  ·rw [if_neg j];refine {xs.length-(i+1),∎,rfl,f,?_,h,p};rw [u,F8,m9];simp [j]
 let e:i=xs.length:=∎;subst e;rw [N8] at p;exact .inl {L _ h,k _ _ h p}
def Ae {j:Int} {a:Expr} {out:Nat->V} (U:scope.kind=.function) (l:∀x ∈ scope.names,x.2≠.cell) (c:∀x ∈ scope.names,x.2=.local->scope.names.lookup x.1=some .local) (T:gB X NB 1 js scope cl) (w:X.mg "range"=none) (O:Vl X a σ H (.int j)) (Z:0<=j/\j<=4000) (W:NB.Nodup) (hi:NB[0]?=some x)
  (J:∀i,i<j.toNat->∀G,aN H G->∀R:VK,(∀u,aN G u->R (out i) u)->Bx X NB scope cl elt ((dZ 1 js σ).set 0 (some (.int (0+(i:Int))))) G R) (k:∀b G,aN H G->G b=some (.lst ((List.range j.toNat).map out))->Q (.ref b) G)
  (M:∀C s o f d,Au (X.blkF NB scope cl C s o f d).env.scope x:=by exact λ_ _ _ _ _=>j0 rfl) (F:∀C s o f d,(X.blkF NB scope cl C s o f d).env.scope.names.lookup x=some .local:=by exact λ_ _ _ _ _=>rfl) (v:Gl X "range":=by rfl) (m:starEach [a] X.env=[(false,eval a X.env)]:=by rfl) (S:X.calm=true:=by rfl) (p:∀y,foldedSetIterable (.Call (.Name "range" p1) [a] [] p2) X.env y=pure y:=by intro _;rfl):
  Ex X (.ListComp elt [{.Name x p',.Call (.Name "range" p1) [a] [] p2,[],0}] scope p3) σ H Q:=by
 refine {_,cS (g:=cI 0) (te:=Bx X NB scope cl elt) U l c rfl T (mM v w dD m S) (λC s H f d=>aO W hi (M C s H f d) (.inr (F C s H f d))) (λ_ _ _ _ _=>dL) (λC s o f d _ K E L P I h=>aR K E L P I (h C s o f d)) p,(Ai O lT m).to _ {j,rfl,∎,∎,?_}};refine Gj (xs:=List.range j.toNat) (pm:=λ_=>true) (out:=out) (val:=λi:Nat=>.int (0+(i:Int))) (by rw [x6];omega) (λG i _ hi=>by rw [x6] at hi;exact hi) (λG _=>by rw [x6];exact d7 _)
  (λG i x Y _ t B=>?_) _ (λz A G N R h=>h _ rfl (λ_ h=>h) λ_ R q=>J z (C3.mp A) G N R q) λb G s e=>k b G s (by rw [e,List.filter_eq_self.mpr λ_ _=>rfl])
 let (rfl,rfl):=B;exact {rfl,i,by rw [x6] at t;rw [List.getElem?_range t],rfl}
end
end
section
variable {X:Cx} {σ:St} {H:Hp} {D:eO} {r ss:List Stmt} {pos p' p1 p2 p3:Pos} {e a b o:Expr} {x:Str} {n:Nat} {i j:Int} {v w:V} {l:Addr} {xs:List V} {c d:Bool}
def DD (h:Vl X a σ H (.int i)) (g:Vl X b σ H (.int j)) (z:HJ i j):Vl X (.BinOp a .Pow b pos) σ H (.int (i ^ j.toNat)):={λ_ q=>{_,cE Zw aR aR,h.to _ (g.to _ {_,_,rfl,rfl,z,q})}}
def DI (h:Vl X a σ H (.ref l)) (z:H l=some (.lst xs)) (k:X.mg "len"=none) (m:Gl X "len") (f:starEach [a] X.env=[(false,eval a X.env)]) (g:(backTo pos (starEach [] X.env)).any (·.1)=false):Vl X (.Call (.Name "len" p1) [a] [] pos) σ H (.int xs.length):=
 {λ_ q=>{_,bB bU m k PySem.boot_len (aA aR aF f) (by decide) (by decide) f g,h.to _ {_,_,rfl,.inl (cZ.of z),q}}}
def kF (h:Tv X a σ H c) (g:c=true->Tv X b σ H d):Tv X (.BoolOp .And [a,b] pos) σ H (c && d):={λ_ q=>{_,PW.pt (fX eF (eW eF)),h.to _ (by cases c;exact bY q;exact cH ((g rfl).to _ q))}}
def rK (g:Vl X o σ H (.ref l)) (h:Vl X e σ H v) (z:H l=some (.lst xs)) (f:xs.length<sizeLine) (k:Wp X r D σ (aS H l (.lst (xs++[v])))) (m:swapsWith (.Call (.Attribute o "append" p1) [e] [] p2) none pos.line X.env=pure false)
  (M:PE X (.Call (.Attribute o "append" p1) [e] [] p2) (IN X.K "list" tU (Ex X o) (iO (Ex X e) nJ))):Wp X (.Expr (.Call (.Attribute o "append" p1) [e] [] p2) pos::r) D σ H:=
 {_,aE (cF M m) aU,g.to _ {.inl {rfl,_,cZ.of z},h.to _ {l,_,_,rfl,rfl,z,f,k}}}
def mD {f:List Expr} {vs:List V} (S:X.N.Nodup) (hi:X.N[n]?=some x) (h:Av X f σ H vs) (t:vs.length<=1000) (k:∀l g,H l=none->aN H g->g l=some (.lst vs)->Wp X r D (σ.set n (some (.ref l))) g) (u:Au X.env.scope x:=by first|exact j0 rfl|exact E9 rfl) (s:swapsWith (.List f p1) (some (.Name x p')) pos.line X.env=pure false:=by rfl) (q:X.fn x=true\/X.env.scope.names.lookup x=some .local:=by first|exact .inl rfl|exact .inr rfl):
  Wp X (.Assign [.Name x p'] (.List f p1) pos::r) D σ H:=cL S hi {_,pH dD,h.to _ {A7 (gR t),λp m=>k p _ m (aJ m) aB}} u s q
def Xe (h:Vl X a σ H (.ref l)) (z:H l=some (.tup xs)) (k:X.mg "len"=none) (m:Gl X "len") (f:starEach [a] X.env=[(false,eval a X.env)]) (g:(backTo pos (starEach [] X.env)).any (·.1)=false):Vl X (.Call (.Name "len" p1) [a] [] pos) σ H (.int xs.length):=
 {λ_ q=>{_,bB bU m k PySem.boot_len (aA aR aF f) (by decide) (by decide) f g,h.to _ {_,_,rfl,.inr (bN.of z),q}}}
def Ba {h:Expr} {g:TG} (G:PassesOwn (model X.prog X.w) X.A X.env X.xe) (I:PG X h g) (J:Vl X e σ H (.ref l)) (z:H l=some (.tup xs)) (f:Nat->St->Hp->Prop) (C:f 0 σ H) (E:∀i σ H,i<=xs.length->f i σ H->H l=some (.tup xs))
  (s:∀i x σ H k,xs[i]?=some x->f i σ H->Tn (f (i+1)) D k->g x σ H (Wp X ss k)) (B:∀ σ H,f xs.length σ H->Wp X r D σ H) (m:X.calm=true:=by rfl) (t:∀y,foldedSetIterable e X.env y=pure y:=by intro _;rfl):Wp X (.For h e ss [] pos::r) D σ H:=
 {_,aE (eD G m (eR aR m) I aU t) aU,J.to _ {l,rfl,{_,bN.of z},lQ (xs:=xs) f C (λi σ H F p=>bN.of (E i σ H F p)) (λi x σ H u p=>s i x σ H _ u p {λ_ _ q=>q,λ_ _ q=>q,λ_ _ q=>q}) B}}
def Xd (m:σ[n]?=some (some (.int i))) (h:Vl X e σ H (.int j)) (S:X.N.Nodup) (hi:X.N[n]?=some x) (f:Au X.env.scope x) (g:X.fn x=true\/X.env.scope.names.lookup x=some .local) (k:Wp X r D (σ.set n (some (.int (i+j)))) H):Wp X (.AugAssign (.Name x p') .Add e pos::r) D σ H:=
 {_,aE (Zn S hi f aR AU g) aU,_,m,h.to _ {_,_,rfl,rfl,k}}
def jM {f:List Expr} {k0:Nat} {vs m:List V} (A:Vl X o σ H (.ref l)) (y:Av X f σ H vs) (z:H l=some (.lst m)) (B:m.length<=4000) (s:vs.length<=1000) (k:∀t g,H t=none->(∀b u,H b=some u->b≠l->g b=some u)->g l=some (.lst (m++[.ref t]))->g t=some (.tup vs)->Wp X r D σ g) (q:swapsWith (.Call (.Attribute o "append" p1) [.Tuple f k0 p3] [] p2) none pos.line X.env=pure false)
  (M:PE X (.Call (.Attribute o "append" p1) [.Tuple f k0 p3] [] p2) (IN X.K "list" tU (Ex X o) (iO (Xl (Ax X f)) nJ))):Wp X (.Expr (.Call (.Attribute o "append" p1) [.Tuple f k0 p3] [] p2) pos::r) D σ H:=
 {_,aE (cF M q) aU,A.to _ {.inl {rfl,_,cZ.of z},y.to _ ⟨A7 (gR s),λt h=>by
  have p:l≠t:=aD z h
  refine {l,_,_,rfl,rfl,by rw [aC p];exact z,by rw [sizeLine_eq];omega,k t _ h (λb u e n=>?_) aB ?_}
  ·rw [aC n,aC (aD e h)];exact e
  ·rw [aC p.symm];exact aB⟩}}
def Ex.mono {Q g:VK} (h:Ex X e σ H Q) (k:∀v H,Q v H->g v H):Ex X e σ H g:=by
 let (t,p,h):=h;exact⟨λy u z=>∃f:VK,(∀v H,f v H->z v H)/\t y u f,λ_ s σ H Q I ⟨f,m,h⟩=>gK (p s σ H f I h) λv s ⟨x,H,I,r,q⟩=>{x,H,I,r,m _ _ q},Q,k,h⟩
inductive LO (X:Cx) (n:Nat) (ss r:List Stmt) (D:eO) (σ:St) (v:V) (H:Hp):Prop|mk (j:Int) (Pv:Nat->St->Hp->Prop) (_:v=.int j) (_:-(2 ^ 62)<=j/\j<2 ^ 62) (_:Pv 0 σ H) (_:∀i σ H D',i<j.toNat->Pv i σ H->Tn (Pv (i+1)) D D'->Wp X ss D' (σ.set n (some (.int (0+(i:Int))))) H) (_:∀ σ H,Pv j.toNat σ H->Wp X r D σ H)
def mC (G:PassesOwn (model X.prog X.w) X.A X.env X.xe) (u:X.mg "range"=none) (S:X.N.Nodup) (hi:X.N[n]?=some x) (h:Ex X a σ H (LO X n ss r D σ)) (s:X.calm=true:=by rfl) (C:Au X.env.scope x:=by first|exact j0 rfl|exact E9 rfl) (J:Gl X "range":=by rfl) (f:starEach [a] X.env=[(false,eval a X.env)]:=by rfl) (z:X.fn x=true\/X.env.scope.names.lookup x=some .local:=by first|exact .inl rfl|exact .inr rfl) (g:∀y,foldedSetIterable (.Call (.Name "range" p1) [a] [] p2) X.env y=pure y:=by intro _;rfl):
  Wp X (.For (.Name x p') (.Call (.Name "range" p1) [a] [] p2) ss [] pos::r) D σ H:=
 ⟨_,aE (eD G s (mM J u (aA aR aF f) f s) (aO S hi C z) aU g) aU,h.mono λv K q=>by
  let (j,t,rfl,m,F,B,E):=q
  exact {j,rfl,m.1,m.2,jW t F (λk σ H I p=>B k σ H _ I p {λ_ _ q=>q,λ_ _ q=>q,λ_ _ q=>q}) E}⟩
def BB {Q:VK} (g:Vl X a σ H (.int i)) (h:Ex X b σ H λw f=>∃j:Int,w=.int j/\0<j/\Q (.int (i % j)) f):Ex X (.BinOp a .Mod b pos) σ H Q:={_,cE iW aR aR,g.to _ (h.mono λ_ _ ⟨j,e,z,q⟩=>{(i),j,rfl,e,z,q})}
def eL {Q:VK} {g:List Expr} {vs:List V} (s:Av X g σ H vs) (t:vs.length<=1000) (q:∀f,aN H f->Vl X b σ f (.int i)) (z:kX vs i=some v) (k:∀f,aN H f->Q v f) (m:oK b:=by exact λ_ _=>rfl):Ex X (.Subscript (.List g p1) b pos) σ H Q:=
 {_,dN jV (pH dD) aR m,s.to _ {A7 (gR t),λp h=>(q _ (aJ h)).to _ {_,_,_,_,rfl,rfl,cZ.of aB,z,k _ (aJ h)}}}
def Nh {Q:VK} (h:Ex X a σ H λv g=>∃i:Int,v=.int i/\Ex X b σ g λw f=>∃j:Int,w=.int j/\Q (.int (i+j)) f):Ex X (.BinOp a .Add b pos) σ H Q:={_,cE eK aR aR,h.mono λ_ _ ⟨i,e,h⟩=>h.mono λ_ _ ⟨j,e',q⟩=>{(i),j,e,e',q}}
end
end L2
namespace Hd
open PySem PyProof.Rows
section
variable {M:Model} {A:Around} {E:Value->Shared->Prop} {s:Shared}
end
end Hd
namespace L2
open PySem PySem.Spec PyProof.Rows
section
variable {P:Program} {w:World} {K:PySem.W.Frag} {mg:Str->Option Value} {base:Heap} {N:List Str} {qual:Str} {scope:Scope} {f:Addr} {cd:Value} {A:Around} {outer:List Env} {s₀:Shared} {H₀:Hp} {E:XK}
end
section
variable {X:Cx} {NB:List Str} {n:Nat} {js:List Nat} {scope:Scope} {cl:List (Str × Addr)}
end
def rH.okE {P:Program} {w:World} {K:PySem.W.Frag} {mg:Str->Option Value} {base:Heap} {x a:Str} {st:Stmt} {f:Addr} {g:FuncData} {N ps:List Str} {k:Nat} {sp:Sp} (F:rH K x a st f g) (S:aK N ps (aG st)) (e:∀vs H Q E,sp vs H Q E->vs.length=ps.length)
  (b:∀(cdv:Value) (A:Around) (outer:List Env) (s:Shared) (H:Hp) (vs:List V) (Q:VK) (E:XK),Room k (A.deeper (envOfC a (aG st) s.heap.objs.size f cdv))->sp vs H Q E ->
   let X:=(jC (jK P w) P w K mg base N a (aG st) f cdv A outer s H E)
   let D:eO:={ nx:=λ_ l=>Q .non l,rt:=Q }
   ∃t,qS X (bH st) t/\t D (dC N vs) H):bM P w K mg base (jK P w) (k+1) f g ps sp:=by
 let (r,q,kV,h,p,n,cdv,o,j,rfl,m,c):=F.ex;exact Nf m c S e λA outer s H vs Q E i d=>b cdv A outer s H vs Q E i d
def wW {K:PySem.W.Frag} {a:Addr} {d:Int} {xs:List V} {g:TG} {tb:TS} {D:eO} {σ:St} {H:Hp} (b:Nat->St->Hp->Prop) (s:b 0 σ H) (o:∀i σ H,i<=xs.length->b i σ H->bN K H a xs)
  (n:∀i x σ H t,xs[i]?=some x->b i σ H->H t=none->g (.ref t) σ (aS H t (.tup [.int (d+i),x])) λh j=>tb { D with nx:=b (i+1),ct:=b (i+1),bk:=D.nx } h j) (r:∀ σ H,b xs.length σ H->D.nx σ H):
  ∃W:Nat->Nat->St->Hp->Prop,(∃m,W 0 m σ H)/\∀i m σ H,W i m σ H ->
   ((HG K a d).stop i H/\D.nx σ H)\/((HG K a d).go i H/\∃N:St->Hp->Prop,(∀k c,N k c->∃l,l<m/\W (i+1) l k c)/\∀x c,(HG K a d).yld i H x c->g x σ c λh j=>tb { D with nx:=N,ct:=N,bk:=D.nx } h j):=by
 refine {λi m σ H=>m=xs.length-i/\i<=xs.length/\b i σ H,{xs.length,by simp,i8 _,s},?_};rintro i m σ H ⟨rfl,w,p⟩;let q:=o i σ H w p;by_cases f:i<xs.length
 ·refine .inr {{xs,xs[i],q,by simp [f]},b (i+1),λk c u=>{xs.length-(i+1),∎,rfl,f,u},λx c y=>?_};let (t,v,z,rfl,rfl,y):=y;exact n i v σ _ t (y xs q) p z
 ·let e:i=xs.length:=∎;subst e;exact .inl {{xs,q,d7 _},r σ H p}
end L2
namespace L2
open PySem PySem.Spec PyProof.Rows PySem.W
section
variable {X:Cx}
def Zg (H0:Hp) (t:TS):TS:=λD σ H=>t { D with nx:=λσ1 H1=>∃a o kvs,H1 a=some (.frz o (.dK kvs))/\(∀o v,H0 a≠some (.frz o v))/\D.nx σ1 (aS H1 a (.dK kvs)),rt:=λv H1=>∃a o kvs,H1 a=some (.frz o (.dK kvs))/\(∀o v,H0 a≠some (.frz o v))/\D.rt v (aS H1 a (.dK kvs)) } σ H
def Kg {st:Stmt} {t:TS} (h:PS X st t):PS X st (Zg X.H₀ t):=λj s σ H D I q=>gK (h s σ H _ I q) λf l z=>by
 cases f with
 | next=>
  let (g,k,i,a,o,c,b,e,d):=z
  exact {g,_,i.thaw b e,d}
 | ret u=>
  let (v,g,k,i,r,a,o,c,b,e,d):=z
  exact {v,g,_,i.thaw b e,r,d}
 | brk=>exact z
 | cont=>exact z
def fH (c:Addr) (o:Obj):HO:=.ext λh=>h.get? c=some o
def xL {P:Program} {w:World} {H:Hp} {h:Heap} {c:Addr} {o:Obj} (e:h.get? c=some o):bL P w H h c (fH c o):={e,{(o),e},λ_ _ a k=>k _ a}
def unc (cs:List Addr) (H:Hp):Hp:=λb=>if b ∈ cs then none else H b
def Jy (cs:List Addr) (H H':Hp):Hp:=λb=>if b ∈ cs then H b else H' b
def mF {cs:List Addr} {H:Hp} {b:Addr} (h:b ∈ cs):unc cs H b=none:=if_pos h
def fR {cs:List Addr} {H:Hp} {b:Addr} (h:b ∉ cs):unc cs H b=H b:=if_neg h
def tS {cs:List Addr} {H H':Hp} {b:Addr} (h:b ∈ cs):Jy cs H H' b=H b:=if_pos h
def eV {cs:List Addr} {H H':Hp} {b:Addr} (h:b ∉ cs):Jy cs H H' b=H' b:=if_neg h
def Ri {cs:List Addr} {H:Hp}:Jy cs H (unc cs H)=H:=by
 funext b;by_cases h:b ∈ cs
 ·rw [tS h]
 ·rw [eV h,fR h]
def Rh {cs:List Addr} {H H':Hp} {a:Addr} {o:HO} (h:a ∉ cs):Jy cs H (aS H' a o)=aS (Jy cs H H') a o:=by
 funext b;by_cases d:b=a
 ·subst d;rw [eV h,aB,aB]
 ·rw [aC d];by_cases c:b ∈ cs
  ·rw [tS c,tS c]
  ·rw [eV c,eV c,aC d]
def sY (H:Hp) (cs:List Addr):Prop:=∀c ∈ cs,∃o u,H c=some (fH c o)/\o.data=.cell (some u)
def sY.out {H:Hp} {cs:List Addr} {b:Addr} {o:HO} (C:sY H cs) (e:H b=some o) (n:∀ φ,o≠.ext φ):b ∉ cs:=λh=>by
 let (o,u,z,_):=C b h
 rw [e] at z
 exact n _ (Option.some.inj z)
def yG {H:Hp} {cs:List Addr} {b:Addr} {o:HO} (C:sY H cs) (e:H b=some o) (n:∀ φ,o≠.ext φ:=by intro _ z;cases z):unc cs H b=some o:=by
 rw [fR (C.out e n)];exact e
theorem iH.unc {P:Program} {w:World} {H:Hp} {h:Heap} {cs:List Addr} (x:iH P w H h) (C:sY H cs):iH P w (unc cs H) h:=λb o e=>by
 by_cases a:b ∈ cs
 ·rw [mF a] at e
  cases e
 ·rw [fR a] at e
  exact(x b o e).stay (λ_ _ _ q=>q) (λc z=>yG C z) λc d z=>yG C z
def Nq (P:Program) (w:World) (K:Frag) (mg:Str->Option Value) (base:Heap) (N:List Str) (qual:Str) (scope:Scope) (f:Addr) (cd:Value) (cl:List (Str × Addr)) (A:Around) (outer:List Env) (s:Shared) (H:Hp):Cx where
 prog:=P
 w:=w
 K:=K
 mg:=mg
 base:=base
 A:=A.deeper (envX qual scope s.heap.objs.size f cd cl)
 N:=N
 s₀:=s
 H₀:=H
 env:=envX qual scope s.heap.objs.size f cd cl
 outer:=outer
 stack:=envX qual scope s.heap.objs.size f cd cl::outer
 ex:=[]
 calm:=true
 fn:=λ_=>false
 pn:=[]
 xe:=λ_ _=>False
structure xZ (ps fr:List Str) (sc:Scope) (cl:List (Str × Addr)):Prop where
 kind:sc.kind=.function
 co:sc.isCoroutine=false
 gen:sc.isGenerator=false
 nd:ps.Nodup
 par:∀x ∈ ps,sc.names.lookup x=some .local
 nocell:∀y ∈ sc.names,y.2≠.cell
 has:∀x,sc.names.lookup x=some .free->∃c,cl.lookup x=some c
 inj:∀x y c,cl.lookup x=some c->cl.lookup y=some c->x=y
 fre:∀x ∈ fr,sc.names.lookup x=some .free
def yW:∀{ps:List Str} {us:List Value} {i:Nat} {x:Str} {u:Value},ps.Nodup->ps[i]?=some x->us[i]?=some u->(ps.zip us).reverse.lookup x=some u:=λ{ps us i x u} A m s=>by
 let c:∀(l:List (Str × Value)) (z:Str) (v:Value),(z,v) ∈ l->(l.map (·.1)).Nodup->l.lookup z=some v:=by
  intro l
  induction l with
  | nil=>intro z v h;cases h
  | cons p r ih=>
   intro z v h n;let (y,t):=p;rcases g7.mp h with e|e
   ·cases e;simp [List.lookup]
   ·let d:=x9.mp (show ((y::r.map (·.1)).Nodup) from n);let o:z≠y:=λq=>d.1 (q ▸ P1 (f:=(·.1)) e);rw [List.lookup_cons,beq_eq_false_iff_ne.mpr o];exact ih z v e d.2
 let j:(x,u) ∈ ps.zip us:=j9.mpr {i,y6.mpr {(m),s}};refine c _ _ _ (List.mem_reverse.mpr j) ?_;rw [List.map_reverse];refine List.pairwise_reverse.mpr (List.Pairwise.imp (λh=>A8 h) (?_:List.Nodup _));have:∀(a:List Str) (b:List Value),a.Nodup->((a.zip b).map (·.1)).Nodup:=by
  intro a
  induction a with
  | nil=>intro b _;simp
  | cons y a ih=>
   intro b n;cases b with
   | nil=>simp
   | cons v b=>
    let (g,w):=x9.mp n;refine x9.mpr {λq=>g ?_,ih b w};let (z,k,e):=p9.mp q;let (C,B):=z;cases e;exact(D8 k).1
 exact this _ _ A
def Ub {P:Program} {w:World} {K:Frag} {mg:Str->Option Value} {base:Heap} {k:Nat} {f c':Addr} {name q:Str} {j:Arguments} {D:List Stmt} {a:Scope} {cl:List (Str × Addr)} {doc pm ctv:Value} {ps fr:List Str} {A:Around} {outer:List Env} {s:Shared} {H:Hp} {args:Args} {us:List Value} {vs ws:List V} {Q:VK}
  (hf:H f=some (mS f (fnMade name q j D a cl doc pm c' ctv))) (hc:H c'=some (hG c' q)) (S:xZ ps fr a cl) (C:sY H (cl.map (·.2)))
  (a6:∀(i:Nat) (x:Str),fr[i]?=some x->∃c v u o,cl.lookup x=some c/\ws[i]?=some v/\bK v u/\H c=some (fH c o)/\o.data=.cell (some u)) (lw:ws.length=fr.length)
  (hr:Room (k+1) A) (l:nY P w K mg base A outer s H) (hb:BindsTo s (fnX name q j D a cl .none .none doc pm none (.ref c') ctv) args (ps.zip us)) (r:bG vs us) (hl:vs.length=ps.length)
  (a0:Room k (A.deeper (envX q a s.heap.objs.size f (.ref c') cl))->∃t,qS (Nq P w K mg base (ps++fr) q a f (.ref c') cl A outer s (unc (cl.map (·.2)) H)) D t /\
   t { nx:=λ_ B=>Q .non (Jy (cl.map (·.2)) H B),rt:=λv B=>Q v (Jy (cl.map (·.2)) H B) } ((vs++ws).map some) (unc (cl.map (·.2)) H)):
  codeAny (model P w) A (.call (.ref f) args) (CR cY outer P w H s Q E0) s:=by
 let a5:s.heap.NoLimit:=l.mod.nolimit.keeps λb o e=>(l.bs b o e).1;let (ho,_,_):=l.hok f _ hf;let (Z,_,_):=l.hok c' _ hc;let ho:s.heap.get? f=some (fnMade name q j D a cl doc pm c' ctv):=ho;let Z:s.heap.CodeRec (.ref c') q:=Z;let M:∀x c,cl.lookup x=some c->c ∈ cl.map (·.2):=λx c h=>p9.mpr {_,PySem.mem_of_lookup h,rfl};let F:∀c ∈ cl.map (·.2),∃u,s.heap.IsCell c (some u):=λc h=>by
  let (o,u,e,d):=C c h;let (z,_,_):=l.hok c _ e;exact {(u),o,z,d}
 generalize hcs:cl.map (·.2)=m at *;refine codeAny_call_def hr.depth ho rfl a5 Z rfl hb S.nocell (λ⟨n,v⟩ hy=>S.par n (D8 hy).1) (λh₀ a3 hk=>?_) S.co S.gen S.kind;let (t,ht,hq):=a0 (hr.deeper _);let O:iH P w (unc m H) s.heap:=l.hok.unc C;let E:∀b:Addr,b ∉ ([]:List Addr):=λb z=>absurd z (by simp);let I:aP (Nq P w K mg base (ps++fr) q a f (.ref c') cl A outer s (unc m H)) [] ((vs++ws).map some) (unc m H) { s with heap:=h₀,toks:=s.toks+(ps.zip us).length }:=by
  refine {{l.mod,S.kind,rfl,rfl,d7 _,S.inj,λy hy=>?_,λy c z=>(by cases z),λ_=>hr.hd,Around.frames_deeper l.frames,.inr {(rfl),rfl},λb z=>absurd z (E b),λb o e=>{(l.bs b o e).1,?_},l.bsz,λb _ _=>E b,λb z=>absurd z (E b),l.funs,λb g=>?_},
   rfl,l.bare,Un.kept hk,{_,a3,λi y v N G h3=>?_},λy c h=>?_,O.fresh (d7 _),λy c h=>mF (M y c h),λp hp=>absurd (show p ∈ ([]:List (Addr × Obj)) from hp) (by simp),O.kept hk,?_}
  ·rcases hy with hy|hy
   ·exact absurd rfl (S.nocell _ (PySem.mem_of_lookup (show a.names.lookup y=some .cell from hy)))
   ·exact S.has y hy
  ·by_cases g:b ∈ m
   ·exact mF g
   ·show unc m H b=none;rw [fR g];exact(l.bs b o e).2
  ·by_cases a2:b ∈ m
   ·exact mF a2
   ·show unc m H b=none;rw [fR a2];exact l.frf b g
  ·let N:(ps++fr)[i]?=some y:=N;let G:(vs++ws)[i]?=some v:=by
    rw [i7] at G;cases e:(vs++ws)[i]? with
    | none=>rw [e] at G;cases G
    | some z=>rw [e] at G;cases G;rfl
   by_cases hi:i<ps.length
   ·rw [p7 hi] at N;rw [p7 ∎] at G;let (u,hu,Y):=r.get G;exact {u,Y,.inl {S.par y (g6 N),yW S.nd N hu}}
   ·rw [u8 ∎] at N;rw [u8 ∎,hl] at G;let (c,v',u,o,e1,e2,Y,e3,d3):=a6 _ _ N;rw [G] at e2;cases e2;let (z,_,_):=l.hok c _ e3;exact {u,Y,.inr {.inr (S.fre y (g6 N)),c,e1,Heap.IsCell.keeps {(o),z,d3} hk}}
  ·let (u,z):=F c (M y c h);exact {_,Heap.IsCell.keeps z hk}
  ·show ((vs++ws).map some).length=(ps++fr).length;rw [f8,i6,i6,hl,lw]
 refine v7 (ht (pins:=[]) _ _ _ _ I hq) (λfl s' hs=>?_) λe s' hs=>hs.elim;let a1:∀{σ':St} {B:Hp} {v:V} {u:Value},aP (Nq P w K mg base (ps++fr) q a f (.ref c') cl A outer s (unc m H)) [] σ' B s'->bK v u->Q v (Jy m H B)->CE outer P w H s Q u s':=λ{σ' B v u} J Y z=>by
  let L:Un (iZ outer) [] (unc m H) B s.heap s'.heap:=J.base;let T:∀b,H b=none->b ∉ m:=λb e g=>by
   let (o,u,z,_):=C b g;rw [e] at z;cases z
  let h0:∀b,H b=none->unc m H b=none:=λb e=>by rw [fR (T b e)];exact e
  let a4:∀b ∈ m,B b=none:=λb g=>by
   let (u,o,e,_):=F b g;exact L.free b o e (mF g) (E b)
  refine {v,Jy m H B,J.os,J.bare,{λb o e n g he=>L.keep b o e (h0 b n) g he,λb o e n g he=>L.slot b o e (h0 b n) g he,λb o e n he=>?_,L.there,λb xs e=>?_,λb o u' e=>?_,λb qs e=>?_},λb o e=>?_,Y,z}
  ·rw [eV (T b n)];exact L.free b o e (h0 b n) he
  ·let U:=C.out e (by intro _ z;cases z);rw [eV U];exact L.tups b xs (by rw [fR U];exact e)
  ·let U:=C.out e (by intro _ z;cases z);rw [eV U];exact L.frzs b o u' (by rw [fR U];exact e)
  ·let U:=C.out e (by intro _ z;cases z);rw [eV U];exact L.tbls b qs (by rw [fR U];exact e)
  ·by_cases g:b ∈ m
   ·rw [tS g] at e;let (oo,u',z',_):=C b g;rw [z'] at e;cases e;let (ee,_,_):=l.hok b _ z';let ee:s.heap.get? b=some oo:=ee;let nf:b ∉ iZ outer:=λhm=>by
     rw [l.frf b hm] at z';cases z'
    exact xL (L.keep b oo ee (mF g) nf (E b))
   ·rw [eV g] at e;let up:∀c u',B c=some u'->Jy m H B c=some u':=λc u' z=>by
     rw [eV (λh=>by rw [a4 c h] at z;cases z)];exact z
    exact(J.hok b o e).stay (λ_ _ _ q=>q) (λc z=>up c _ z) λc xs z=>up c _ z
 cases fl with
 | ret u=>
  let (v,σ',B,J,Y,z):=hs;exact a1 J Y z
 | next=>
  let (σ',B,J,z):=hs;exact a1 (v:=V.non) (u:=Value.none) J rfl z
 | brk=>
  let (_,_,_,z):=hs;exact False.elim z
 | cont=>
  let (_,_,_,z):=hs;exact False.elim z
def IL (T:Addr) (pos:Pos) (q:Str) (i:Nat) (mk:Addr->Value->Value->Obj):TS:=λD σ H=>gD H T pos q/\∀f c' ctv doc H',cT T H H'->H f=none->gD H' T pos q->H' c'=some (hG c' q)->H' f=some (mS f (mk c' ctv doc))->D.nx (σ.set i (some (.ref f))) H'
def Zm {name:Str} {d:Arguments} {n:List Stmt} {g:Scope} {pos:Pos} {c T:Addr} {clos:List (Str × Addr)} {q:Str} {i:Nat} (p:X.env.code=.ref c) (hc:PySem.W.codeHdIn X.K c T=true) (a3:rJ X.base X.mg)
  (a4:d.defaults=[]) (a6:d.kw_defaults=[]) (ha:annTrees d none X.env=[]) (Z:closureFor g X.env=pure clos) (hq:qualnameIn X.env name name=q) (hN:X.N.Nodup) (hi:X.N[i]?=some name) (hx:Au X.env.scope name)
  (hf:X.fn name=true\/X.env.scope.names.lookup name=some .local:=by first|exact .inl rfl|exact .inr rfl|assumption):
  PS X (.FunctionDef name d n [] none [] g none name pos) (IL T pos q i λm l j=>fnMade name q d n g clos j ((X.mg "__name__").getD .none) m l):=by
 intro E s σ H D I h;let ((ps,M,Y,F),h):=h;subst hq;let hg:s.heap.Ns mainGlobals X.mg:=I.ok.mod.glob.keeps I.bk;let x:s.heap.get? T=some (PySem.W.tabObj ps):=I.hok T _ M;let C:PySem.W.CodeHd s.heap c T:=PySem.W.codeHd_of_K I.kIn hc;let a5:mainGlobals≠T:=λz=>by
  let (o,es,ep,e,hd,_):=hg;rw [z,x] at e;cases e;cases hd
 let O:s.heap.BuiltinsAt X.mg T:=by
  let (bm,ob,b1,b2,b3,b4,b5,b6):=a3;let t:=I.bk _ _ b3;refine {bm,ob,b1,b2,λz=>?_,λz=>?_,t,b4,b5,b6}
  ·let (o,es,ep,e,hd,_):=hg;rw [z,e] at t;cases t;rw [hd] at b6;cases b6
  ·rw [z,x] at t;cases t;cases b4
 have Q:∀(f m:Addr) (l j:Value) (s':Shared) (B:Hp),aP X E σ B s'->cT T H B->H f=none->gD B T pos (qualnameIn X.env name name)->B m=some (hG m (qualnameIn X.env name name))->B f=some (mS f (fnMade name (qualnameIn X.env name name) d n g clos j ((X.mg "__name__").getD .none) m l)) ->
   wpAny (model X.prog X.w) X.A (storeName X.env name (.ref f)) (λ_ S=>SP X E D .next S) X.xe s':=λf m l j s' B J k r tb e1 e2=>
  lE J hN hi hx (v:=.ref f) rfl (λS J'=>{_,B,J',h f m l j B k r tb e1 e2}) hf
 refine nestDef_K a4 a6 ha ?_;rcases F with a1|⟨m,U,hC⟩
 ·refine makeFunction_K Z I.ok.glob hg p C x Y a1 a5 O λm l j y tk a7 L G a0 a2=>?_;let nc:H m=none:=I.hok.fresh L;let r:H y.objs.size=none:=I.hok.fresh (n8 L (A7 G));let Tc:T≠m:=aD M nc;let Tf:T≠y.objs.size:=aD M r;let ne:m≠y.objs.size:=j8 G;let J:=I.madeNew (tk:=tk) (o:=fnMade name (qualnameIn X.env name name) d n g clos j ((X.mg "__name__").getD .none) m l) M a7 L G a0 a2 rfl;refine Q y.objs.size m l j _ _ J (λb o O e=>?_) r {_,by rw [aC Tf,aC Tc,aB],?_,.inr {m,?_,?_}} ?_ aB
  ·rw [aC (aD e r),aC (aD e nc),aC O];exact e
  ·rw [o4];exact TriplesOk_snoc _ _ _ _ Y
  ·rw [o4];exact codeAmong_snoc _ Y a1
  ·rw [aC ne,aB]
  ·rw [aC ne,aB]
 ·refine makeFunction_hit Z I.ok.glob hg p C x Y U O λl j y tk hk P=>?_;let r:H y.objs.size=none:=I.hok.fresh P;refine Q y.objs.size m l j _ _ (I.laid (a:=y.objs.size) (o:=mS y.objs.size (fnMade name (qualnameIn X.env name name) d n g clos j ((X.mg "__name__").getD .none) m l)) (t':=tk) (λb u e=>f1 _ (hk b u e)) P (uK (j3 _ rfl))) (λb o O e=>?_) r {ps,?_,Y,.inr {m,U,?_}} ?_ aB
  ·rw [aC (aD e r)];exact e
  ·rw [aC (aD M r)];exact M
  ·rw [aC (aD hC r)];exact hC
  ·rw [aC (aD hC r)];exact hC
def HV (H:Hp) (f:Addr):Prop:=∃oc od fd sl,H f=some (mS f ⟨oc,od,.func fd,sl⟩)
def HB (P:Program) (w:World) (K:Frag) (mg:Str->Option Value) (base:Heap) (k:Nat) (f:Addr) (vs:List V) (H:Hp) (Q:VK):Prop:=
 HV H f/\∀(A:Around) (outer:List Env) (s:Shared) (us:List Value),Room k A->nY P w K mg base A outer s H->bG vs us->codeAny (model P w) A (.call (.ref f) ⟨us,[]⟩) (CR cY outer P w H s Q E0) s
def Xr (R:Addr->List V->Hp->VK->Prop) (i:Nat) (t:TA):TE:=λσ H Q=>∃f,σ[i]?=some (some (.ref f))/\HV H f/\t σ H λvs H1=>R f vs H1 Q
def HV.at {P:Program} {w:World} {H:Hp} {h:Heap} {f:Addr} (x:HV H f) (b:iH P w H h):FnAt f h:=by
 let (a,g,d,c,e):=x;let (z,_,_):=b f _ e;exact {(a),g,d,c,z}
def Ko {k i:Nat} {x:Str} {p pos:Pos} {e:Expr} {a:List Expr} {t:TA} (E:Room k X.A) (F:PA X (e::a) t) (L:X.N[i]?=some x:=by rfl) (o:BN X.env.scope x:=by first|exact j0 rfl|exact E9 (j0 rfl)|exact E9 (E9 rfl)) (y:(x == ("__debug__":Str))=false:=by decide)
  (d:(x == ("__classdict__":Str))=false:=by decide) (B:starEach (e::a) X.env=(false,eval e X.env)::starEach a X.env:=by rfl) (l:(backTo pos (starEach a X.env)).any (·.1)=false:=by rfl):
  PE X (.Call (.Name x p) (e::a) [] pos) (Xr (HB X.prog X.w X.K X.mg X.base k) i t):=by
 intro c s σ H Q I h;let (f,M,q,h):=h;refine C1 (gK (zA (i:=i) L o y d s σ H (λv j=>v=.ref f/\j=H) I {.ref f,M,rfl,rfl}) λu G D=>?_);let (v,j,m,z,rfl,rfl):=D;cases z;refine callWith_F (q.at m.hok) (gK (F c G σ j _ m h) λn C ⟨P,H2,I2,r2,q2⟩=>?_) B l;let (J,g):=q2;refine {J.at I2.hok,D9 (C0 (g X.A X.stack C n E I2.env0 r2) λr O b=>?_)};cases r with
 | error e=>exact b.elim
 | ok fl=>
  cases fl with
  | ret u=>exact I2.after b
  | next=>exact False.elim b
  | brk=>exact False.elim b
  | cont=>exact False.elim b
def Xs (sp:Sp) (cy:Addr) (i:Nat) (t:TA):TE:=λσ H Q=>t σ H λvs H1=>∃v,σ[i]?=some (some v)/\∀o u,bK v u->o.data=.cell (some u)->H1 cy=none->sp vs (aS H1 cy (fH cy o)) (λv' H'=>H' cy=some (fH cy o)/\Q v' (λb=>if b=cy then none else H' b)) E0
def aP.lend {pins:List (Addr × Obj)} {σ:St} {H:Hp} {s:Shared} {cy:Addr} {o:Obj} {y:Str} (I:aP X pins σ H s) (c:X.env.cells.lookup y=some cy) (l:X.fn y=true) (e:s.heap.get? cy=some o):nY X.prog X.w X.K X.mg X.base X.A X.stack s (aS H cy (fH cy o))/\cy ∉ iZ X.stack:=by
 let E:=I.env0;let d:=I.freeC y cy c;let g:=I.ok.cab y cy l c;let f:cy ∉ iZ X.stack:=λz=>by
  rcases g7.mp (I.stkSub cy z) with e|hb
  ·exact I.cne y cy c e
  ·let (_,o,i,_):=I.ok.funs.mem hb;exact absurd (j7 (i5 i) g) (v8 _)
 refine {{E.frames,E.mod,λb u q=>{(E.bs b u q).1,?_},E.bsz,E.funs,λb hb=>?_,λb u q=>?_,E.bare},f}
 ·let h:=i5 q;let k:=I.ok.bsz;rw [aC (λz=>by rw [z] at h;exact absurd (j7 h (n8 k g)) (v8 _))];exact(E.bs b u q).2
 ·rw [aC (a:=cy) (b:=b) (λz=>by subst z;exact f hb)];exact E.frf b hb
 ·by_cases hb:b=cy
  ·subst hb;rw [aB] at q;cases q;exact xL e
  ·rw [aC hb] at q;exact(E.hok b u q).stay (λ_ _ _ q=>q) (λj z=>by rw [aC (aD z d)];exact z) λj m z=>by rw [aC (aD z d)];exact z
def aP.back {H:Hp} {s s':Shared} {cy:Addr} {o:Obj} {Q:VK} {u:Value} (E:H cy=none) (G:cy ∉ iZ X.stack) (e:s.heap.get? cy=some o)
  (h:CE X.stack X.prog X.w (aS H cy (fH cy o)) s (λI d=>d cy=some (fH cy o)/\Q I (λb=>if b=cy then none else d b)) u s'):CE X.stack X.prog X.w H s Q u s':=by
 let (v,d,J,m,i,l,r,p,q):=h;let B:s'.heap.get? cy=some o:=(l cy _ p).1;let A:∀b,H b=none->b≠cy->aS H cy (fH cy o) b=none:=λb h n=>by rw [aC n];exact h
 let a:∀{b:Addr} {x:HO},H b=some x->b≠cy:=λ{b x} h z=>by rw [z,E] at h;cases h
 let c:∀{b:Addr},b≠cy->(if b=cy then none else d b)=d b:=λn=>if_neg n;refine {v,_,J,m,{λb x g h f t=>?_,λb x g h f t=>?_,λb x g h t=>?_,i.there,λb C h=>?_,λb x w h=>?_,λb F h=>?_},λb x g=>?_,r,q}
 ·by_cases z:b=cy
  ·subst z;rw [e] at g;cases g;exact B
  ·exact i.keep b x g (A b h z) f t
 ·exact i.slot b x g (A b h λz=>by subst z;exact G f) f t
 ·by_cases z:b=cy
  ·exact if_pos z
  ·rw [c z];exact i.free b x g (A b h z) t
 ·rw [c (a h)];exact i.tups b C (by rw [aC (a h)];exact h)
 ·rw [c (a h)];exact i.frzs b x w (by rw [aC (a h)];exact h)
 ·rw [c (a h)];exact i.tbls b F (by rw [aC (a h)];exact h)
 ·by_cases z:b=cy
  ·rw [if_pos z] at g;cases g
  rw [c z] at g;let D:∀j (w:HO),d j=some w->(∀ φ,w≠.ext φ)->(if j=cy then none else d j)=some w:=λj w k n=>by
   rw [c λy=>by rw [y,p] at k;exact n _ (Option.some.inj k).symm];exact k
  exact(l b x g).stay (λ_ _ _ q=>q) (λj y=>D _ _ y (by intro _ z;cases z)) λj C y=>D _ _ y (by intro _ z;cases z)
def Kp {k i:Nat} {sp:Sp} {cy:Addr} {x y:Str} {p pos:Pos} {e:Expr} {b:List Expr} {t:TA} (G:∃f n l,bM X.prog X.w X.K X.mg X.base cY k f n l sp/\PySem.W.keepIn X.K (.ref f)=true/\eP X.K n l []/\X.mg x=some (.ref f)) (hr:Room k X.A)
  (ha:PA X (e::b) t) (z:X.env.cells.lookup y=some cy) (hf:X.fn y=true) (hN:X.N[i]?=some y) (L:X.env.scope.names.lookup y=some .cell) (T:Gl X x:=by rfl) (C:(x == ("__debug__":Str))=false:=by decide) (he:starEach (e::b) X.env=(false,eval e X.env)::starEach b X.env:=by rfl) (J:(backTo pos (starEach b X.env)).any (·.1)=false:=by rfl):
  PE X (.Call (.Name x p) (e::b) [] pos) (Xs sp cy i t):=by
 intro g s σ H Q I h;let (f,n,l,F,hk,hb,U):=G;refine C1 (lN I T U ?_ C);refine PySem.W.callWith_K (h₀:=X.base) I.ok.mod.kin hk (vF (ha g s σ H _ I h) λj D vs H1 a r q=>{a.kIn,?_}) he J;let (v,Z,q):=q;let (m,hn,B):=a.loc;let (u,ru,lk):=B i y v hN Z (.inr (.inl L));let kc:X.env.kindOf y=some .cell:=L;obtain⟨o,O,Y⟩:∃o,D.heap.get? cy=some o/\o.data=.cell (some u):=by
  rcases lk with ⟨S,_⟩|⟨_,c',M,o,k3,k4⟩
  ·rw [kc] at S;cases S
  ·rw [z] at M;cases M;exact {(o),k3,k4}
 let P:=a.freeC y cy z;let c:=q o u ru Y P;let (E,nf):=a.lend z hf O
 let B:j.length=l.length:=by rw [<- r.length];exact F.len _ _ _ _ c
 refine D9 (C0 (F.run X.A X.stack D _ {j,[]} j vs _ E0 hr E ?_ r c) λr s' d=>?_)
 ·have:=hb D j a.kIn (by rw [C5];exact B);rwa [C5] at this
 cases r with
 | error e=>exact d.elim
 | ok fl=>
  cases fl with
  | ret u=>exact a.after (aP.back P nf O d)
  | next=>exact False.elim d
  | brk=>exact False.elim d
  | cont=>exact False.elim d
end
end L2
namespace Sr
open PySem PyProof.Rows
def fmS (val:Nat->Str):Nat->List Str
 | 0=>[]
 | i+1=>if (fmS val i).any (· == val i) then fmS val i else fmS val i++[val i]
theorem fmS_le (val:Nat->Str):∀i,(fmS val i).length<=i
 | 0=>d7 _
 | i+1=>by
  have a:=fmS_le val i
  unfold fmS
  split
  ·omega
  ·rw [i6,B0];omega
theorem Do (val:Nat->Str):∀(i:Nat) (k:Str),k ∈ fmS val i↔∃j,j<i/\val j=k
 | 0,k=>{λh=>absurd h (by simp [fmS]),λ⟨j,h,_⟩=>absurd h (B8 _)}
 | i+1,k=>by
  let ih:=Do val i
  let hs:k ∈ fmS val (i+1)↔k ∈ fmS val i\/k=val i:=by
   show k ∈ (if (fmS val i).any (· == val i) then fmS val i else fmS val i++[val i])↔_;split
   ·rename_i h;let (x,hx,e):=List.any_eq_true.mp h;let e:=eq_of_beq e;subst e;exact {.inl,λh=>h.elim id λe=>e ▸ hx}
   ·simp
  rw [hs,ih k];constructor
  ·rintro(⟨j,h,e⟩|e)
   ·exact {j,∎,e}
   ·exact {i,∎,e.symm}
  ·rintro⟨j,h,e⟩;rcases Nat.lt_succ_iff_lt_or_eq.mp h with h|rfl
   ·exact .inl {(j),h,e}
   ·exact .inr e.symm
theorem wX (val:Nat->Str):∀i,(fmS val i).length=i↔∀j k,j<k->k<i->val j≠val k
 | 0=>{λ_ j k _ h=>absurd h (B8 _),λ_=>rfl}
 | i+1=>by
  let ih:=wX val i
  let le:=fmS_le val i
  let hl:(fmS val (i+1)).length=if (fmS val i).any (· == val i) then(fmS val i).length else(fmS val i).length+1:=by
   show (if (fmS val i).any (· == val i) then fmS val i else fmS val i++[val i]).length=_;split <;> simp
  rw [hl];let hm:(fmS val i).any (· == val i)=true↔∃j,j<i/\val j=val i:=by
   rw [List.any_eq_true,<- Do val i (val i)];exact {λ⟨x,hx,e⟩=>eq_of_beq e ▸ hx,λh=>{_,h,by simp}}
  split
  ·rename_i h;let (j,hj,e):=hm.mp h;exact {λh=>∎,λh=>absurd e (h j i hj ∎)}
  ·rename_i h;let hn:∀j,j<i->val j≠val i:=λj hj e=>h (hm.mpr {(j),hj,e});constructor
   ·intro h' j k hjk hk;rcases Nat.lt_succ_iff_lt_or_eq.mp hk with hk|rfl
    ·exact ih.mp ∎ j k hjk hk
    ·exact hn j hjk
   ·intro h';rw [ih.mpr λj k hjk hk=>h' j k hjk ∎]
def fmS_nodup (val:Nat->Str):∀(ns:List Str),(∀i,i<ns.length->ns[i]?=some (val i))->((fmS val ns.length).length=ns.length↔ns.Nodup):=by
 intro ns d;rw [wX];unfold List.Nodup;rw [w9];constructor
 ·intro h i j m c g e;refine h i j g c ?_;let b:=d i m;have a:=d j c;rw [c8 m] at b;rw [c8 c] at a;let b:=Option.some.inj b;have a:=Option.some.inj a;rw [<- b,<- a];exact e
 ·intro h j k f l e;let c:j<ns.length:=∎;refine h j k c l f ?_;let b:=d j c;have a:=d k l;rw [c8 c] at b;rw [c8 l] at a;let b:=Option.some.inj b;have a:=Option.some.inj a;rw [b,a,e]
section
variable {prog:Program} {w:World} {A:Around} {R:Result->Shared->Prop} {I:Addr} {fp wr:List Addr} {G:Array GenState->Array GenState->Prop} {n:Nat} {P:Nat->Value->Prop} {St:Nat->Shared->Prop}
def tD (W:WalksS prog w A.in1 I fp wr G n P St) (S:Addr) (hSf:S ∉ fp) (val:Nat->Str) (hval:∀i v,P i v->∃t,v=.str (val i) t) (hb:n+1<scanBound):
  ∀(k i:Nat) (s:Shared),n-i=k->i<=n->St i s->s.heap.SetOf (strKind prog w) S (λk'=>(fmS val i).any (· == k')) (fmS val i).length ->
   (∀s',Moved (S::wr) G s s'->s'.heap.SetOf (strKind prog w) S (λk'=>(fmS val n).any (· == k')) (fmS val n).length->R (.ok (.ret .none)) s') ->
   codeAny (model prog w) A (.builtin "set.update.loop" {[.ref S,.ref I],[]}) R s:=by
 let hSw:S ∉ wr:=λh=>hSf (W.sub _ h);let sub:∀b ∈ wr,b ∈ S::wr:=λb hb=>d0 _ hb;let mv:∀{h h':Heap} {f:Str->Bool} {m:Nat},(∀o,h.get? S=some o->h'.get? S=some o)->h.SetOf (strKind prog w) S f m->h'.SetOf (strKind prog w) S f m:=λk x=>
  let ⟨o,es,ep,t,ho,rest⟩:=x;{o,es,ep,t,k o ho,rest}
 intro k
 induction k with
 | zero=>
  intro i s hk hi hst hS hR;let hin:i=n:=∎;subst hin
  refine C9 F.entry_set_update_loop ?_;rw [E4 M2 _];show wpAny _ A.in1 (pyNext (.ref I) >>= _) _ _ s;refine c7 (W.done s _ _ hst λs' hm=>?_);show wpAny _ A.in1 (ret Value.none) _ _ s';exact i0 (hR s' (hm.mono sub) (mv (λo e=>hm.heap S _ hSw e) hS))
 | succ k ih=>
  intro i s hk hi hst hS hR;let hlt:i<n:=∎;refine C9 F.entry_set_update_loop ?_;rw [E4 M2 _];show wpAny _ A.in1 (pyNext (.ref I) >>= _) _ _ s;refine c7 (W.item i s _ _ hlt hst λv s' hP hst' hm=>?_);let (t,rfl):=hval i v hP;let hS':=mv (h':=s'.heap) (λo e=>hm.heap S _ hSw e) hS;show wpAny _ A.in1 (holding [Value.str (val i) t] (setAdd S (.str (val i) t)) >>= _) _ _ s';refine c7 (y0 ?_);unfold setAdd;refine y0 (c7 ((strKind prog w).pyHash (k:=val i) (strKind_is _ _ _ _) ?_));refine wpAny_setAddHashed_of (knd:=strKind prog w) (s:={ s' with toks:=s'.toks+1 }) (strKind_is _ _ _ _) rfl hS' (by have:=fmS_le val i;omega) λh' hsb hS2=>?_;let Si:h'.SetOf (strKind prog w) S (λk'=>(fmS val (i+1)).any (· == k')) (fmS val (i+1)).length:=by
   refine SetOf_congr hS2 (λk'=>?_) ?_
   ·show _=(if (fmS val i).any (· == val i) then fmS val i else fmS val i++[val i]).any (· == k');split
    ·rename_i h;by_cases e:k'=val i
     ·subst e;rw [h];simp
     ·simp [e]
    ·rw [List.any_append];by_cases e:k'=val i
     ·subst e;simp
     ·let hb:(val i == k')=false:=by simpa [beq_iff_eq] using (λh':val i=k'=>e h'.symm)
      simp [hb,e]
   ·show _=(if (fmS val i).any (· == val i) then fmS val i else fmS val i++[val i]).length;split <;> rename_i h
    ·simp [h]
    ·simp [h]
  refine i0 {plainId_quiet M2 _,ih (i+1) _ ∎ hlt (W.frame _ s' _ _ hst' (E6 _) λb hb o e=>?_) Si λs'' hm'' hS''=>?_}
  ·rw [hsb.2 b (λh:b=S=>hSf (by rw [<- h];exact hb))];exact e
  ·refine hR s'' (Moved.trans W.gtrans ((hm.mono sub).then_heap (E6 _) λb o hb e=>?_) hm'') hS'';rw [hsb.2 b (λh:b=S=>hb (by rw [h];exact g8))];exact e
end
section
variable {prog:Program} {w:World} {A:Around} {E:Value->Shared->Prop} {s:Shared}
set_option maxHeartbeats 8000000 in
def set_listT {l:Addr} {items:Array Value} {val:Nat->Str} {Q:Value->Shared->Prop} (hh:A.handled=none) (hl:s.heap.IsList l items) (hi:∀(i:Nat) (v:Value),items[i]?=some v->∃t,v=.str (val i) t) (hb:items.size+1<scanBound)
  (h:∀(h':Heap) (tk:Nat),h'.SetOf (strKind prog w) s.heap.objs.size (λk'=>(fmS val items.size).any (· == k')) (fmS val items.size).length ->
   (∀b o,b<s.heap.objs.size->s.heap.get? b=some o->h'.get? b=some o)->Q (.ref s.heap.objs.size) { s with heap:=h',toks:=tk }):
  wpAny (model prog w) A (call (.type "set") [.ref l]) Q E s:=by
 let (c,tl,hmro):=PySem.F.called_set.mro;let hmade:=PySem.F.called_set.made;let hsub:=PySem.F.called_set.sub;refine D9 (codeAny_of_tree ?_);show wpAny _ _ (callAny (.type "set") _) _ _ _;refine i0 {P8 _ ⋯,C9 PySem.F.entry_type_call ?_};rw [Around.under_plain (weight_type_call_type "set" [.ref l] []) rfl];let h1:=PySem.F.called_set.notType;let h2:=PySem.F.called_set.canCreate;let hct:=PySem.F.typeCall_set_1 (.ref l)
 repeat (any_goals (first|assumption|wp_step))
 refine C0 (code_set_new_1 (.ref l) (E:=E) (Q₁:=λobj s₁=>∃led:Bool,obj=.ref s.heap.objs.size/\s₁={ s with heap:=s.heap.push { cls:=.type "set",dict:=none,data:=.set #[] 0 (.fresh 0 0 led) } }) λled=>{(led),rfl,rfl}) λr s₁ hr=>?_;cases r with
 | error e=>exact hr
 | ok fl=>
  cases fl with
  | ret obj=>
   let (led,rfl,rfl):=hr;let hS:(s.heap.push { cls:=.type "set",dict:=none,data:=.set #[] 0 (.fresh 0 0 led) }).get? s.heap.objs.size=some { cls:=.type "set",dict:=none,data:=.set #[] 0 (.fresh 0 0 led) }:=j3 _ rfl;let hT:Shared.TypeIs { s with heap:=s.heap.push { cls:=.type "set",dict:=none,data:=.set #[] 0 (.fresh 0 0 led) } } (.ref s.heap.objs.size) "set":={_,hS,rfl};let hli:=PySem.F.called_set.init.lookup;let hbi:=PySem.F.called_set.init.bind (.ref s.heap.objs.size)
   repeat (any_goals (first|assumption|wp_step))
   refine C0 (K1 (R:=wants (λr s₂=>r=.none/\∃h' tk,s₂={ s with heap:=h',toks:=tk } /\
     h'.SetOf (strKind prog w) s.heap.objs.size (λk'=>(fmS val items.size).any (· == k')) (fmS val items.size).length /\
     (∀b o,b<s.heap.objs.size->s.heap.get? b=some o->h'.get? b=some o)) E) PySem.F.called_set.init.plain PySem.F.entry_set_init (check_set_init_1 hT ?_)) λr₂ s₂ hr₂=>?_
   ·let ((ocls,odict,odata,oslots),hol,hcl,nl,hdl):=hl;simp only at hcl hdl;subst hcl;subst hdl;let hol':(s.heap.push { cls:=.type "set",dict:=none,data:=.set #[] 0 (.fresh 0 0 led) }).get? l=some { cls:=.type "list",dict:=odict,data:=.seq items nl,slots:=oslots }:=f1 _ hol;let hsls:=PySem.F.sub_list_set;let hslf:=PySem.F.sub_list_frozenset;let hne:(Value.type "list" == Value.type "dict")=false:=by decide
    let hl1:(s.heap.push { cls:=.type "set",dict:=none,data:=.set #[] 0 (.fresh 0 0 led) }).IsList l items:={_,hol',rfl,nl,rfl};unfold Builtin.«set.__init__» noKeywords Builtin.Frozenset.updateFrom;generalize hPI:pyIter=PI;wp_walk;subst hPI;refine M4 hl1 (c7 (wpAny_runValue ?_));let hlS:l<s.heap.objs.size:=i5 hol;let hh3:A.in1.in1.in1.handled=none:=by simp [hh]
    let hneI:l≠(s.heap.push { cls:=.type "set",dict:=none,data:=.set #[] 0 (.fresh 0 0 led) }).objs.size:=by
     rw [D3];exact j8 (Nat.lt_succ_of_lt hlS)
    let hSf:s.heap.objs.size ∉ [(s.heap.push { cls:=.type "set",dict:=none,data:=.set #[] 0 (.fresh 0 0 led) }).objs.size,l]:=by
     rw [D3];simp only [g7,l9,N9,or_false,not_or];exact {j8 (K0 _),L4 hlS}
    refine tD ((Walks.list hh3 _ l hneI items).toS) s.heap.objs.size hSf val (λi v hv=>hi i v hv) hb (items.size-0) 0 _ ∎ (i8 _)
     {{_,j3 _ rfl,rfl,rfl},(hl1.push _)} ?hS0 ?hR
    case hS0=>
     let hget:((s.heap.push { cls:=.type "set",dict:=none,data:=.set #[] 0 (.fresh 0 0 led) }).push { cls:=.type "list_iterator",data:=.fields #[.ref l,.int 0 0] }).get? s.heap.objs.size=some { cls:=.type "set",dict:=none,data:=.set #[] 0 (.fresh 0 0 led) }:=f1 _ hS;refine SetOf_congr (S:=λ_=>false) (n:=0) {_,#[],0,_,hget,{(rfl),rfl,rfl},rfl,λe he=>by simp at he,λk=>by simp,by decide,by rfl,rfl} (λ_=>rfl) rfl
    case hR=>
     intro s' hm hS';let (h',g',d',tk',os'):=s';let eg:g'=s.gens:=hm.gens;let ed:d'=s.drawn:=hm.drawn;let eo:os'=s.os:=hm.os;subst eg;subst ed;subst eo;show wpAny _ _ _ _ _ _;refine i0 ?_;show wpAny _ _ (ret Value.none) _ _ _;refine i0 {rfl,h',tk',rfl,hS',λb o hb e=>?_};let hb2:b≠(s.heap.push { cls:=.type "set",dict:=none,data:=.set #[] 0 (.fresh 0 0 led) }).objs.size:=by
      rw [D3];exact j8 (Nat.lt_succ_of_lt hb)
     exact hm.heap b o (by simp only [g7,l9,N9,or_false,not_or];exact {j8 hb,hb2}) (f1 _ (f1 _ e))
   ·cases r₂ with
    | error e=>exact hr₂
    | ok fl₂=>
     cases fl₂ with
     | ret r=>
      let (rfl,h',tk,rfl,hS',hk'):=hr₂
      repeat (any_goals (first|assumption|wp_step))
      exact h _ _ hS' hk'
     | _=>exact hr₂.elim
  | _=>exact hr.elim
end
end Sr
namespace L2
open PySem PySem.Spec PyProof.Rows PySem.W
section
variable {X:Cx}
abbrev Qr (X:Cx) (a:Addr) (n:Nat):HO:=.ext (λh=>∃S,h.SetOf (strKind X.prog X.w) a S n)
theorem vD:∀{ns:List Str} {a:List Value},bG (ns.map V.str) a->∀(i:Nat) (v:Value),a[i]?=some v->∃t,v=.str (ns.getD i "") t
 | [],_,.nil,i,v,h=>by simp at h
 | n::ns,_,.cons r t,0,v,h=>by
  simp only [List.getElem?_cons_zero,M3] at h
  let (b,rfl):=r
  exact {b,h ▸ rfl}
 | n::ns,_,.cons r t,i+1,v,h=>by
  simp only [List.getElem?_cons_succ] at h
  exact vD t i v h
def Gm (C:X.calm=true):gC X (.type "set") (λg H Q=>∃(l:Addr) (ns:List Str),g=[.ref l]/\H l=some (.lst (ns.map V.str))/\ns.length<4000 /\
  ∀(a:Addr) (m:Nat),H a=none->m<=ns.length->(m=ns.length↔ns.Nodup)->Q (.ref a) (aS H a (Qr X a m))):=by
 intro f s σ H g U Q I r h;let (l,ns,rfl,M,W,q):=h;let (u,rfl,y):=iL r;cases y;let (_,c,n,p,e):=I.hok l _ M;let K:c.length=ns.length:=by
  have:=p.length;rw [f8] at this;omega
 let j:c.toArray.size=ns.length:=by simp [K]
 refine Sr.set_listT (items:=c.toArray) (val:=λi=>ns.getD i "") (I.ok.hd C) {_,e,rfl,n,rfl} (λi v B=>vD p i v (by simpa using B)) (by rw [j];unfold scanBound;omega) λT J d D=>?_;rw [j] at d;let F:=I.laid (a:=s.heap.objs.size) (o:=Qr X s.heap.objs.size (Sr.fmS (λi=>ns.getD i "") ns.length).length) (t':=J) (λb z e=>D b z (i5 e) e) (d7 _)
  (show bL _ _ _ _ _ _ from⟨{_,d},let ⟨o,_,_,_,e,_⟩:=d;{(o),e},λO N x k=>let ⟨S,o,es,ep,t,ho,rest⟩:=x;{S,o,es,ep,t,k o ho,rest}⟩)
 refine {.ref s.heap.objs.size,_,F,rfl,q _ _ (I.hok.fresh (d7 _)) (Sr.fmS_le _ _) (Sr.fmS_nodup _ ns λi L=>?_)};rw [A3,c8 L];rfl
def Gu:gC X (.builtin "len") (λd H Q=>∃(a:Addr) (m:Nat),d=[.ref a]/\H a=some (Qr X a m)/\m<4000/\Q (.int m) H):=by
 intro c s σ H d x Q I r h;let (a,m,rfl,l,v,q):=h;let (u,rfl,k):=iL r;cases k;let ((S,o,g,B,t,e,b,j,z,i,y,f,p),_,_):=I.hok a _ l;subst p;exact PySem.call_len_set e b j f ∎ {.int g.size,H,I.tok _,{_,rfl},q}
end
end L2
namespace L2
open PySem PySem.Spec PyProof.Rows
def gB.of {X:Cx} {NB:List Str} {n:Nat} {js:List Nat} {scope:Scope} {cl:List (Str × Addr)} (clo:closureFor scope X.env=pure cl) (hsub:∀p ∈ cl,X.env.cells.lookup p.1=some p.2)
  (hhas:∀p ∈ (relabel scope X.env).names,(p.2=.cell\/p.2=.free)->(cl.lookup p.1).isSome=true) (len:NB.length=n+js.length) (nam:∀k j,js[k]?=some j->NB[n+k]?=X.N[j]?)
  (ck:∀x ∈ NB.drop n,((relabel scope X.env).names.lookup x=some .cell\/(relabel scope X.env).names.lookup x=some .free)/\(X.env.kindOf x=some .cell\/X.env.kindOf x=some .free)/\(cl.lookup x).isSome=true):gB X NB n js scope cl:=
 {clo,λx c q=>hsub (x,c) (PySem.mem_of_lookup q),λx q=>q.elim (λz=>hhas (x,_) (PySem.mem_of_lookup z) (.inl rfl)) λz=>hhas (x,_) (PySem.mem_of_lookup z) (.inr rfl),len,nam,λx _ hx=>ck x hx}
def bW {α:Type} {P:α->Prop}:∀x ∈ ([]:List α),P x:=λx a=>absurd a (by simp)
def aW {α:Type} {P:α->Prop} {a:α} {l:List α} (h:P a) (t:∀x ∈ l,P x):∀x ∈ a::l,P x:=λx hx=>by
 rcases g7.mp hx with rfl|hx
 ·exact h
 ·exact t x hx
end L2
namespace L2
open PySem PySem.Spec PyProof.Rows PySem.W
def GN (X:Cx) (NB:List Str) (n:Nat) (js:List Nat) (scope:Scope) (cl:List (Str × Addr)):Bool:=
 decide (scope.kind=.function) && scope.names.all (λx=>decide (x.2≠.cell) && (decide (x.2≠.local) || decide (scope.names.lookup x.1=some .local))) && (relabel scope X.env).names.all (λp=>!(decide (p.2=.cell) || decide (p.2=.free)) || (cl.lookup p.1).isSome) && decide (NB.length=n+js.length) &&
 (NB.drop n).all (λx=>(decide ((relabel scope X.env).names.lookup x=some .cell) || decide ((relabel scope X.env).names.lookup x=some .free)) && (decide (X.env.kindOf x=some .cell) || decide (X.env.kindOf x=some .free)) && (cl.lookup x).isSome) && decide NB.Nodup
structure lW (X:Cx) (NB:List Str) (n:Nat) (js:List Nat) (scope:Scope) (cl:List (Str × Addr)):Prop where
 b:GN X NB n js scope cl=true
 clo:closureFor scope X.env=pure cl
 ce:cl.map (λp=>X.env.cells.lookup p.1)=cl.map λp=>some p.2
 nm:js.map (λj=>X.N[j]?)=(NB.drop n).map some
section
variable {X:Cx} {NB:List Str} {n:Nat} {js:List Nat} {scope:Scope} {cl:List (Str × Addr)}
def lW.all (c:lW X NB n js scope cl):scope.kind=.function/\(∀x ∈ scope.names,x.2≠.cell)/\(∀x ∈ scope.names,x.2=.local->scope.names.lookup x.1=some .local)/\gB X NB n js scope cl/\NB.Nodup:=by
 let b:=c.b;unfold GN at b;simp only [z8,decide_eq_true_eq,F0,Bool.or_eq_true,D2,Bool.or_eq_false_iff,decide_eq_false_iff_not] at b;let (((((b1,b2),b3),b4),b5),b6):=b;refine {b1,λx hx=>(b2 x hx).1,λx hx e=>(b2 x hx).2.resolve_left λz=>z e,gB.of c.clo (λp hp=>?_) (λp hp h=>?_) b4 (λk j h=>?_) λx hx=>?_,b6}
 ·let (i,hi):=List.getElem?_of_mem hp;have:=congrArg (λl:List (Option Addr)=>l[i]?) c.ce;simp only [i7,hi,Option.map_some,M3] at this;exact this
 ·rcases b3 p hp with z|z
  ·rcases h with h|h
   ·exact absurd h z.1
   ·exact absurd h z.2
  ·exact z
 ·have:=congrArg (λl:List (Option Str)=>l[k]?) c.nm;simp only [i7,h,Option.map_some,o9] at this;cases e:NB[n+k]? with
  | none=>rw [e] at this;cases this
  | some y=>rw [e] at this;exact(Option.some.inj this).symm
 ·let ((a,d),f):=b5 x hx;exact {(a),d,f}
end
section
variable {X:Cx} {σ:St} {H:Hp} {pos p' p1 p2 p3:Pos} {x:Str} {NB:List Str} {js:List Nat} {scope:Scope} {cl:List (Str × Addr)} {elt e c:Expr} {Q:VK} {la:Addr} {α:Type} {val out:α->V} {pm:α->Bool} {zs:List α}
def Vp {op:CmpOp} {d:R2} {a b:Expr} {u v w:V} (l:kK X (compareOp op) d) (h:Vl X a σ H v) (g:Vl X b σ H w) (y:∀Q:VK,Q u H->d v w H Q) (s:behindInMarks op b=false):Vl X (.Compare a [op] [b] pos) σ H u:={λ_ q=>{_,dU l aR aR s,h.to _ (g.to _ (y _ q))}}
def DN {a b:Expr} {c d:Bool} (h:Vl X a σ H (.bl c)) (g:c=true->Vl X b σ H (.bl d)):Vl X (.BoolOp .And [a,b] pos) σ H (.bl (c && d)):={λ_ q=>{_,eJ aR (fL aR),h.to _ {_,rfl,by cases c;exact bY q;exact cH ((g rfl).to _ q)}}}
def Vl.is {u v:V} (h:Vl X e σ H u) (z:u=v):Vl X e σ H v:=z ▸ h
end
section
variable {X:Cx} {CX:nG} {k:Nat} {f C:Addr} {fd:FuncData} {ps:List Str} {sp:Sp} {E:XK} {m:Str} {pos apos:Pos} {o:Expr} {σ:St} {H:Hp} {Q:VK}
end
section
variable {X:Cx} {σ:St} {H:Hp} {D:eO} {r:List Stmt} {pos p' tpos:Pos} {e o:Expr} {f:Str} {v:V} {p C dx:Addr} {fs:List (Str × V)} {i j:Int}
def DK (h:Vl X e σ H (.ref p)) (z:H p=some (.ins C dx fs)) (c:oO X.K C) (n:NoAttr X.K C f) (l:fs.lookup f=some v) (a:attributeBase e f X.env (eval e X.env)=eval e X.env):Vl X (.Attribute e f pos) σ H v:={λ_ q=>{_,bA aR a,h.to _ {_,_,_,_,_,rfl,z,c,n,l,q}}}
def dF (h:Vl X o σ H (.ref p)) (g:Vl X e σ H v) (z:H p=some (.ins C dx fs)) (c:oO X.K C) (n:NoAttr X.K C f) (l:fs.length<1000) (k:Wp X r D σ (aS H p (.ins C dx (cM f v fs)))) (a:swapsWith e (some (.Attribute o f p')) pos.line X.env=pure false:=by rfl):Wp X (.Assign [.Attribute o f p'] e pos::r) D σ H:={_,aE (cA aR aR a) aU,g.to _ (h.to _ {_,_,_,_,rfl,z,c,n,l,k})}
end
end L2
section
open L2
local macro_rules | `(tactic| symm)=>`(tactic| first|(apply CZ;rfl;(first|exact j0 rfl|exact E9 (j0 rfl)|exact E9 (E9 rfl));decide;decide)|exact DJ|exact DC|exact vE|exact lT|(apply Ai;symm;symm;rfl)|(apply DO;symm;symm)|(apply DB;symm;symm)|(apply DA;symm;symm;assumption;(first|rfl|assumption);exact λ_ _=>rfl)|(apply DH;symm;symm;assumption;(first|rfl|assumption);exact λ_ _=>rfl)|(apply DG;symm;symm;first|decide|omega|assumption)|(apply DL;symm;symm;first|exact⟨by decide,by decide⟩|assumption)|(apply DF;symm;symm;first|assumption|exact .inl ⟨by decide,by decide⟩)|(apply DD;symm;symm;first|exact⟨by decide,by decide,by decide⟩)|(apply DE;symm)|(apply DI;symm;assumption;assumption;rfl;rfl;rfl)|(apply Xe;symm;assumption;assumption;rfl;rfl;rfl)|(apply DK;symm;assumption;assumption;assumption;rfl;rfl)|(apply DR;symm)|(apply Xi;symm)|(apply IF;symm;symm;rfl)|(apply IA;symm;symm;rfl)|(apply v_dget;symm;symm;assumption;assumption;exact λ_ _=>rfl)|(apply IC;symm;symm)|(apply IB;symm;symm)|(apply ID;symm;symm)|(apply IE;symm;symm))
local macro_rules | `(tactic| show $n:num)=>`(tactic| (apply jL (n:=$n);symm;assumption;rfl;(first|exact j0 rfl|exact E9 rfl);rfl;(first|exact .inl rfl|exact .inr rfl)))
namespace L2
open PySem PySem.Spec PyProof.Rows PySem.W
structure jJ (P:Program) (w:World) (K:Frag) (mg:Str->Option Value) (base:Heap) (CX:nG) (n:Str) (k:Nat) (sp:Sp):Prop where
 ex:∃f fd ps,bM P w K mg base CX k f fd ps sp/\keepIn K (.ref f)=true/\eP K fd ps []/\mg n=some (.ref f)
structure eG (P:Program) (w:World) (K:Frag) (mg:Str->Option Value) (base:Heap) (CX:nG) (C:Addr) (n:Str) (k:Nat) (sp:Sp):Prop where
 ex:∃f fd ps,bM P w K mg base CX k f fd ps sp/\eP K fd ps []/\xV K C n f
section
variable {P:Program} {w:World} {K:Frag} {mg:Str->Option Value} {base:Heap} {CX CX':nG} {n:Str} {j:Nat} {sp sp':Sp} {C:Addr}
def jJ.up (h:jJ P w K mg base CX n j sp) (k:Nat) (e:j<=k:=by decide):∃f fd ps,bM P w K mg base CX k f fd ps sp/\keepIn K (.ref f)=true/\eP K fd ps []/\mg n=some (.ref f):=by
 let (f,fd,ps,b,a):=h.ex;exact {f,fd,ps,b.mono e,a}
def eG.up (h:eG P w K mg base CX C n j sp) (k:Nat) (e:j<=k:=by decide):∃f fd ps,bM P w K mg base CX k f fd ps sp/\eP K fd ps []/\xV K C n f:=by
 let (f,fd,ps,b,a):=h.ex;exact {f,fd,ps,b.mono e,a}
def eG.mk' (h:eG P w K mg base CX C "__init__" j sp) (i:makesIn K C=true/\keepIn K (.ref C)=true) (k:Nat) (e:j<=k:=by decide):∃f fd ps,bM P w K mg base CX k f fd ps sp/\eP K fd ps []/\Mk K C f:=by
 let (f,fd,ps,b,a,m):=h.ex;exact {f,fd,ps,b.mono e,a,i.1,m.1,m.2,i.2}
def jJ.to (h:jJ P w K mg base CX n j sp) (t:∀{f fd ps},bM P w K mg base CX j f fd ps sp->bM P w K mg base CX' j f fd ps sp'):jJ P w K mg base CX' n j sp':=by
 let (f,fd,ps,b,a):=h.ex;exact {f,fd,ps,t b,a}
def eG.to (h:eG P w K mg base CX C n j sp) (t:∀{f fd ps},bM P w K mg base CX j f fd ps sp->bM P w K mg base CX' j f fd ps sp'):eG P w K mg base CX' C n j sp':=by
 let (f,fd,ps,b,a):=h.ex;exact {f,fd,ps,t b,a}
end
section
variable {X:Cx} {CX:nG} {j k:Nat} {C:Addr} {sp:Sp} {E:XK} {x m:Str} {p pos apos:Pos} {e o:Expr} {es:List Expr} {ta:TE} {t:TA} {σw σ:St} {H:Hp} {Q:VK} {vs:List V}
def aV (G:jJ X.prog X.w X.K X.mg X.base CX x j sp) (i:Room k X.A) (v:eE CX X E) (l:PA X (e::es) t) (g:Gl X x:=by rfl) (a:(x == ("__debug__":Str))=false:=by decide) (d:starEach (e::es) X.env=(false,eval e X.env)::starEach es X.env:=by rfl) (b:(backTo pos (starEach es X.env)).any (·.1)=false:=by rfl) (s:j<=k:=by first|exact d7 _|decide):
  PE X (.Call (.Name x p) (e::es) [] pos) (Bi sp [] E t):=by
 let (f,fd,ps,y,r,u,h):=G.up k s;exact Rw y i g h r u .nil v l a d b
def eM (G:jJ X.prog X.w X.K X.mg X.base CX x j sp) (i:Room k X.A) (s:eE CX X E) (l:Av X (e::es) σ H vs) (h:sp vs H Q E)
  (g:Gl X x:=by rfl) (a:(x == ("__debug__":Str))=false:=by decide) (d:starEach (e::es) X.env=(false,eval e X.env)::starEach es X.env:=by rfl) (b:(backTo pos (starEach es X.env)).any (·.1)=false:=by rfl) (r:j<=k:=by first|exact d7 _|decide):Ex X (.Call (.Name x p) (e::es) [] pos) σ H Q:=
 {_,aV G i s dD g a d b r,l.to _ (by rw [C5];exact h)}
def bD {pl:Sem Bool} (h:PE X o ta) (c:oO X.K C) (G:eG X.prog X.w X.K X.mg X.base CX C m j sp) (i:Room k X.A) (y:eE CX X E) (l:PA X (e::es) t) (a:starEach (e::es) X.env=(false,eval e X.env)::starEach es X.env:=by rfl) (b:(backTo pos (starEach es X.env)).any (·.1)=false:=by rfl) (r:eval (.Call (.Attribute o m apos) (e::es) [] pos) X.env=(eval o X.env >>= λd=>standAt apos.atName >>= λ_=>holding [d] (getMethod d m pl) >>= λg=>callWith pos g.1 g.2 (backTo pos (starEach (e::es) X.env)) (backToKw pos (keywordEach [] X.env))):=by rfl) (v:j<=k:=by first|exact d7 _|decide):PE X (.Call (.Attribute o m apos) (e::es) [] pos) (oX C m sp [] E ta t):=by
 let (f,fd,ps,z,u,s):=G.up k v;exact Ru (pl:=pl) h c s z i u .nil y l a b r
def zC {pl:Sem Bool} (h:PE X o ta) (c:oO X.K C) (G:eG X.prog X.w X.K X.mg X.base CX C m j sp) (i:Room k X.A) (y:oM CX X σw E) (l:PA X (e::es) t) (a:starEach (e::es) X.env=(false,eval e X.env)::starEach es X.env:=by rfl) (b:(backTo pos (starEach es X.env)).any (·.1)=false:=by rfl) (r:eval (.Call (.Attribute o m apos) (e::es) [] pos) X.env=(eval o X.env >>= λd=>standAt apos.atName >>= λ_=>holding [d] (getMethod d m pl) >>= λg=>callWith pos g.1 g.2 (backTo pos (starEach (e::es) X.env)) (backToKw pos (keywordEach [] X.env))):=by rfl) (v:j<=k:=by first|exact d7 _|decide):PE X (.Call (.Attribute o m apos) (e::es) [] pos) (Vr σw (oX C m sp [] E ta t)):=by
 let (f,fd,ps,z,u,s):=G.up k v;exact Ev (pl:=pl) h c s z i u .nil y l a b r
def cR {pl:Sem Bool} (d:PE X o ta) (c:oO X.K C) (G:eG X.prog X.w X.K X.mg X.base CX C m j sp) (g:Room k X.A) (s:eE CX X E) (h:eval (.Call (.Attribute o m apos) [] [] pos) X.env=(eval o X.env >>= λa=>standAt apos.atName >>= λ_=>holding [a] (getMethod a m pl) >>= λb=>callWith pos b.1 b.2 (backTo pos (starEach [] X.env)) (backToKw pos (keywordEach [] X.env))):=by rfl) (r:j<=k:=by first|exact d7 _|decide):PE X (.Call (.Attribute o m apos) [] [] pos) (oX C m sp [] E ta nJ):=by
 let (f,fd,ps,i,l,u):=G.up k r;exact wA (pl:=pl) d c u i g l .nil s h
def qB {pl:Sem Bool} {q D:Addr} {d:List (Str × V)} (r:Vl X o σ H (.ref q)) (y:H q=some (.ins C D d)) (c:oO X.K C) (G:eG X.prog X.w X.K X.mg X.base CX C m j sp) (s:Room k X.A) (B:eE CX X E) (u:Av X (e::es) σ H vs) (h:sp (.ref q::vs) H Q E) (l:d.lookup m=none:=by rfl)
  (a:starEach (e::es) X.env=(false,eval e X.env)::starEach es X.env:=by rfl) (b:(backTo pos (starEach es X.env)).any (·.1)=false:=by rfl) (v:eval (.Call (.Attribute o m apos) (e::es) [] pos) X.env=(eval o X.env >>= λg=>standAt apos.atName >>= λ_=>holding [g] (getMethod g m pl) >>= λi=>callWith pos i.1 i.2 (backTo pos (starEach (e::es) X.env)) (backToKw pos (keywordEach [] X.env))):=by rfl) (z:j<=k:=by first|exact d7 _|decide):Ex X (.Call (.Attribute o m apos) (e::es) [] pos) σ H Q:=
 {_,bD (pl:=pl) aR c G s B dD a b v z,r.to _ {_,_,_,rfl,y,l,u.to _ (by rw [C5];exact h)}}
def Gc {pl:Sem Bool} {q y:Addr} {a:List (Str × V)} (i:Vl X o σ H (.ref q)) (s:H q=some (.ins C y a)) (c:oO X.K C) (G:eG X.prog X.w X.K X.mg X.base CX C m j sp) (l:Room k X.A) (v:eE CX X E) (h:sp [.ref q] H Q E) (g:a.lookup m=none:=by rfl)
  (r:eval (.Call (.Attribute o m apos) [] [] pos) X.env=(eval o X.env >>= λb=>standAt apos.atName >>= λ_=>holding [b] (getMethod b m pl) >>= λd=>callWith pos d.1 d.2 (backTo pos (starEach [] X.env)) (backToKw pos (keywordEach [] X.env))):=by rfl) (u:j<=k:=by first|exact d7 _|decide):Ex X (.Call (.Attribute o m apos) [] [] pos) σ H Q:=
 {_,cR (pl:=pl) aR c G l v r u,i.to _ {_,_,_,rfl,s,g,h}}
end
end L2
namespace Ls
open PySem L2 PySem.W
def eC (i:Nat):Stmt:=PySem.Challenge.pw_lentwork_k84_whole_done_again_and_in_tim.main.body.getD i (.Pass ⟨0,0,0,0⟩)
abbrev Iw:Stmt:=eC 19
abbrev vO:Stmt:=eC 20
abbrev Vy:Stmt:=eC 21
abbrev Jq:Stmt:=eC 22
abbrev Cd:Stmt:=eC 23
abbrev Iy:Stmt:=eC 24
abbrev vQ:Stmt:=eC 27
abbrev Wj:Stmt:=eC 43
abbrev Wh:Stmt:=eC 45
abbrev Et:Stmt:=eC 52
abbrev Jb:Stmt:=bE (eC 28) 0
abbrev Bz:Stmt:=bE (eC 28) 1
abbrev Wb:Stmt:=bE (eC 28) 2
abbrev Wc:Stmt:=bE (eC 28) 3
abbrev Cb:Stmt:=bE (eC 28) 5
abbrev Ja:Stmt:=bE (eC 28) 6
abbrev rY:Stmt:=bE (eC 28) 7
abbrev Ji:Stmt:=bE (eC 17) 0
abbrev Jf:Stmt:=bE (eC 17) 1
abbrev Jk:Stmt:=bE (eC 17) 2
abbrev Jg:Stmt:=bE (eC 17) 3
abbrev Jj:Stmt:=bE (eC 17) 4
abbrev Jh:Stmt:=bE (eC 17) 5
abbrev Wf:Stmt:=bE (eC 17) 7
abbrev Rc:Stmt:=bE (eC 17) 8
abbrev pD:Stmt:=bE (eC 34) 0
abbrev gX:Stmt:=bE (eC 34) 1
abbrev tO:Stmt:=bE (eC 34) 2
abbrev pC:Stmt:=bE (eC 34) 3
abbrev Jo:Stmt:=bE (eC 34) 10
abbrev vS:Stmt:=bE (eC 34) 13
abbrev Jn:Stmt:=bE (eC 34) 14
abbrev pB:Stmt:=bE (eC 34) 15
abbrev yT:Stmt:=bE (eC 34) 18
abbrev Jm:Stmt:=bE (eC 34) 20
abbrev pE:Stmt:=bE (eC 34) 21
abbrev vR:Stmt:=eC 46
abbrev Cc:Stmt:=eC 47
abbrev Cg:Stmt:=eC 30
abbrev By:Stmt:=eC 31
abbrev lH:Stmt:=eC 32
abbrev mJ:Stmt:=eC 33
abbrev tP:Stmt:=eC 44
abbrev Wa:Stmt:=eC 25
abbrev vP:Stmt:=eC 36
abbrev pF:Stmt:=eC 37
abbrev Ix:Stmt:=eC 38
abbrev Wi:Stmt:=eC 49
abbrev Jl:Stmt:=eC 50
abbrev pA:Stmt:=eC 51
abbrev Zh:Stmt:=eC 41
abbrev We:Stmt:=eC 48
abbrev Jd:Stmt:=bE (eC 39) 0
abbrev Je:Stmt:=bE (eC 39) 1
abbrev Jc:Stmt:=bE (eC 39) 2
abbrev Jt:Stmt:=bE (eC 40) 0
abbrev EV:Stmt:=bE (eC 40) 1
abbrev Jr:Stmt:=bE (eC 40) 2
abbrev tQ:Stmt:=bE (eC 40) 3
abbrev yU:Stmt:=bE (eC 40) 4
abbrev Ju:Stmt:=bE (eC 40) 5
abbrev vT:Stmt:=bE (eC 40) 6
abbrev Js:Stmt:=bE (eC 40) 7
structure Gb (mg:Str->Option Value):Prop where
 isi:mg "isinstance"=none
 int:mg "int"=none
 bool:mg "bool"=none
 tuple:mg "tuple"=none
 len:mg "len"=none
 range:mg "range"=none
 list:mg "list"=none
 max:mg "max"=none
 sum:mg "sum"=none
 sorted:mg "sorted"=none
 any:mg "any"=none
 all:mg "all"=none
 enum:mg "enumerate"=none
 min:mg "min"=none
 set:mg "set"=none
 str:mg "str"=none
structure Cl (K:Frag) (mg:Str->Option Value) (C:Addr):Prop where
 cl:oO K C
 nW:NoAttr K C "work"
 nR:NoAttr K C "results"
 mgC:mg "Sheet"=some (.ref C)
structure Tw (K:Frag) (mg:Str->Option Value) (CT:Addr):Prop where
 mT:mg "Twice"=some (.ref CT)
 ex:ExcIs K CT
structure Pl (K:Frag) (mg:Str->Option Value) (C:Addr):Prop where
 cl:oO K C
 nN:NoAttr K C "number"
 nL:NoAttr K C "low"
 nH:NoAttr K C "high"
 nM:NoAttr K C "mark"
 nD:NoAttr K C "lending"
 mgC:mg "Piece"=some (.ref C)
structure Bl (K:Frag) (mg:Str->Option Value) (C:Addr):Prop where
 cl:oO K C
 nW:NoAttr K C "work"
 nS:NoAttr K C "span"
 nE:NoAttr K C "every"
 nL:NoAttr K C "least"
 nH:NoAttr K C "sheet"
 nB:NoAttr K C "by_number"
 nN:NoAttr K C "next_number"
 nT:NoAttr K C "next_token"
 nM:NoAttr K C "moment"
 mgC:mg "Book"=some (.ref C)
structure Rl (K:Frag) (mg:Str->Option Value) (C:Addr):Prop where
 cl:oO K C
 nW:NoAttr K C "worker"
 nP:NoAttr K C "pace"
 nS:NoAttr K C "silences"
 nA:NoAttr K C "passed"
 nQ:NoAttr K C "silent"
 nT:NoAttr K C "token"
 nM:NoAttr K C "mark"
 nE:NoAttr K C "end"
 nU:NoAttr K C "untold"
 mgC:mg "Runner"=some (.ref C)
structure Ql (K:Frag) (mg:Str->Option Value) (C:Addr):Prop where
 cl:oO K C
 nB:NoAttr K C "book"
 nD:NoAttr K C "doing"
 nL:NoAttr K C "left"
 nN:NoAttr K C "done"
 nO:NoAttr K C "over"
 nI:NoAttr K C "lines"
 nX:NoAttr K C "none_at"
 mgC:mg "Course"=some (.ref C)
structure Er (K:Frag) (mg:Str->Option Value) (x:Str) (C:Addr):Prop where
 mB:mg x=some (.ref C)
 ex:ExcIs K C
structure Cn where
 CB:Addr
 CS:Addr
 CP:Addr
 T1:Addr
 T2:Addr
 CR:Addr
 CC:Addr
structure LN (mg:Str->Option Value) (c:Nat->Addr):Prop where
 m0:mg "BadWorker"=some (.ref (c 0))
 m1:mg "BadMoment"=some (.ref (c 1))
 m2:mg "NoLending"=some (.ref (c 2))
 m3:mg "Lost"=some (.ref (c 3))
 m4:mg "BadTelling"=some (.ref (c 4))
 m5:mg "Otherwise"=some (.ref (c 5))
 m6:mg "NoPiece"=some (.ref (c 6))
 m7:mg "BadCut"=some (.ref (c 7))
 m8:mg "BadPlan"=some (.ref (c 8))
structure KW (K:Frag) (c:Nat->Addr) (C:Addr) (j:Nat):Prop where
 e:uU K C
 n:∀i,i<9->kitOne K (.ref C) (.ref (c i))=some (decide (i=j))
def Bn (p:List Value->Prop):Nat->Prop
 | 0=>p []
 | n+1=>∀u,Bn (λus=>p (u::us)) n
theorem Bn.all:∀{n:Nat} {p:List Value->Prop},Bn p n->∀a,a.length=n->p a
 | 0,_,h,[],_=>h
 | _+1,_,h,u::a,e=>Bn.all (h u) a (Nat.succ.inj e)
def Bd (x q:Str) (st:Stmt) (ps:List Str):Prop:=∀(kV doc pm:Value) (an:Option Addr) (cdv ct:Value),Bn (λus=>bindArgs (fnOf x q (dH st) (bH st) (aG st) .none kV doc pm an cdv ct) ⟨us,[]⟩=pure (ps.zip us)) ps.length
def Df (K:Frag) (mg:Str->Option Value) (x:Str) (st:Stmt):Prop:=∃f fd,mg x=some (.ref f)/\rH K x x st f fd
def Dc (K:Frag) (mg:Str->Option Value) (x:Str) (st:Stmt) (T:Addr):Prop:=∃f fd c,mg x=some (.ref f)/\xX K x x st f fd c/\codeHdIn K c T=true
def Mf (K:Frag) (C:Addr) (x q:Str) (st:Stmt):Prop:=∃f fd,xV K C x f/\rH K x q st f fd
def Mc (K:Frag) (C:Addr) (x q:Str) (st:Stmt) (T:Addr):Prop:=∃f fd c,xV K C x f/\xX K x q st f fd c/\codeHdIn K c T=true
section
variable {P:Program} {w:World} {K:Frag} {mg:Str->Option Value} {base:Heap} {C f T:Addr} {fd:FuncData} {x q:Str} {st:Stmt} {CX:nG} {k:Nat} {ps:List Str} {sp:Sp}
def Bd.to (h:Bd x q st ps) (F:rH K x q st f fd):eP K fd ps []:=F.binds λ_ _ _ _ _ _ a e=>(h _ _ _ _ _ _).all a e
def Df.of (D:Df K mg x st) (h:∀{f fd},rH K x x st f fd->bM P w K mg base CX k f fd ps sp) (b:Bd x x st ps:=by (repeat intro _);rfl):jJ P w K mg base CX x k sp:=by
 let (f,fd,m,F):=D;exact {f,fd,ps,h F,F.kp,b.to F,m}
def Dc.of (D:Dc K mg x st T) (h:∀{f fd c},xX K x x st f fd c->codeHdIn K c T=true->bM P w K mg base CX k f fd ps sp) (b:Bd x x st ps:=by (repeat intro _);rfl):jJ P w K mg base CX x k sp:=by
 let (f,fd,c,m,F,t):=D;exact {f,fd,ps,h F t,F.kp,b.to F.toFun,m}
def Mf.of (D:Mf K C x q st) (h:∀{f fd},rH K x q st f fd->bM P w K mg base CX k f fd ps sp) (b:Bd x q st ps:=by (repeat intro _);rfl):eG P w K mg base CX C x k sp:=by
 let (f,fd,m,F):=D;exact {f,fd,ps,h F,b.to F,m}
end
structure Wd (P:Program) (w:World) (K:Frag) (mg:Str->Option Value) (base:Heap) (N:Cn) (c:Nat->Addr):Prop where
 G:Gb mg
 M:rJ base mg
 S:Cl K mg N.CS
 P:Pl K mg N.CP
 B:Bl K mg N.CB
 T:Tw K mg (c 9)
 R:Rl K mg N.CR
 Q:Ql K mg N.CC
 iR:makesIn K N.CR=true/\keepIn K (.ref N.CR)=true
 iC:makesIn K N.CC=true/\keepIn K (.ref N.CC)=true
 iP:makesIn K N.CP=true/\keepIn K (.ref N.CP)=true
 iS:makesIn K N.CS=true/\keepIn K (.ref N.CS)=true
 iB:makesIn K N.CB=true/\keepIn K (.ref N.CB)=true
 W:LN mg c
 X:∀j,j<9->KW K c (c j) j
 E:exmOne K (.ref (c 3)) (.ref (c 3))=some true
 d1:Df K mg "is_whole" Iw
 d2:Df K mg "is_stretch" vO
 d3:Df K mg "is_work" Vy
 d4:Df K mg "check_work" Jq
 d5:Df K mg "merged" Cd
 d6:Df K mg "short_form" Iy
 d8:Df K mg "is_numbers" vQ
 d9:Df K mg "check_bounds" Cg
 d10:Df K mg "is_worker" By
 d11:Df K mg "check_worker" lH
 d12:Dc K mg "greatest" mJ N.T1
 d13:Df K mg "_law_cell_at" Wj
 d14:Df K mg "_law_draws" tP
 d15:Df K mg "_law_work" Wh
 d16:Df K mg "_law_bounds" vR
 d19:Df K mg "_law_result" Cc
 d26:Mf K N.CP "__init__" "Piece.__init__" Ji
 d27:Mf K N.CP "rest" "Piece.rest" Jf
 d28:Mf K N.CP "is_done" "Piece.is_done" Jk
 d29:Mf K N.CP "is_lent" "Piece.is_lent" Jg
 d30:Mf K N.CP "is_free" "Piece.is_free" Jj
 d31:Mf K N.CP "is_late" "Piece.is_late" Jh
 d33:Mf K N.CP "has_token" "Piece.has_token" Wf
 d34:Mf K N.CP "shown" "Piece.shown" Rc
 d35:Mf K N.CS "__init__" "Sheet.__init__" Jb
 d36:Mf K N.CS "lay" "Sheet.lay" Bz
 d37:Mf K N.CS "result_at" "Sheet.result_at" Wb
 d38:Mf K N.CS "all_results" "Sheet.all_results" Wc
 d40:Mf K N.CS "holds_row" "Sheet.holds_row" Cb
 d41:Mf K N.CS "laid_work" "Sheet.laid_work" Ja
 d42:Mf K N.CS "numbers_between" "Sheet.numbers_between" rY
 d43:Mf K N.CB "__init__" "Book.__init__" pD
 d44:Mf K N.CB "choice" "Book.choice" gX
 d45:Mf K N.CB "lend" "Book.lend" tO
 d46:Mf K N.CB "tell" "Book.tell" pC
 d52:Mf K N.CB "all_results" "Book.all_results" Jo
 d54:Mf K N.CB "check_moment" "Book.check_moment" vS
 d55:Mf K N.CB "held_piece" "Book.held_piece" Jn
 d56:Mf K N.CB "piece_to_tell" "Book.piece_to_tell" pB
 d59:Mf K N.CB "piece_with" "Book.piece_with" yT
 d61:Mf K N.CB "new_piece" "Book.new_piece" Jm
 d62:Mf K N.CB "cut_off" "Book.cut_off" pE
 d17:Df K mg "size_of" Wa
 d18:Df K mg "is_planned" vP
 d20:Df K mg "check_plan" pF
 d21:Df K mg "check_ticks" Ix
 d22:Df K mg "run" Zh
 d23:Df K mg "_law_plan" We
 d24:Df K mg "_law_silences" Wi
 d25:Df K mg "_law_size" Jl
 d47:Dc K mg "_law_right" pA N.T2
 d63:Mf K N.CR "__init__" "Runner.__init__" Jd
 d64:Mf K N.CR "come_to" "Runner.come_to" Je
 d65:Mf K N.CR "take" "Runner.take" Jc
 d66:Mf K N.CC "__init__" "Course.__init__" Jt
 d67:Mf K N.CC "go" "Course.go" EV
 d68:Mf K N.CC "turn" "Course.turn" Jr
 d69:Mf K N.CC "work_on" "Course.work_on" tQ
 d70:Mf K N.CC "tell_kept" "Course.tell_kept" yU
 d71:Mf K N.CC "ask_lending" "Course.ask_lending" Ju
 d72:Mf K N.CC "do_places" "Course.do_places" vT
 d73:Mf K N.CC "tell_numbers" "Course.tell_numbers" Js
section
variable {P:Program} {w:World} {K:Frag} {mg:Str->Option Value} {base:Heap} {N:Cn} {c:Nat->Addr} (W:Wd P w K mg base N c)
include W
def Wd.x1:Er K mg "BadMoment" (c 1):={W.W.m1,(W.X 1 (by decide)).e.exc}
def Wd.x2:Er K mg "NoLending" (c 2):={W.W.m2,(W.X 2 (by decide)).e.exc}
def Wd.x3:Er K mg "Lost" (c 3):={W.W.m3,(W.X 3 (by decide)).e.exc}
def Wd.x4:Er K mg "BadTelling" (c 4):={W.W.m4,(W.X 4 (by decide)).e.exc}
def Wd.x5:Er K mg "Otherwise" (c 5):={W.W.m5,(W.X 5 (by decide)).e.exc}
end
inductive Kn (H:Hp):V->Prop where
 | non:Kn H .non
 | bl (b:Bool):Kn H (.bl b)
 | int (i:Int):Kn H (.int i)
 | str (x:Str):Kn H (.str x)
 | lst {a:Addr} {xs:List V} (e:H a=some (.lst xs)):Kn H (.ref a)
 | dK {a:Addr} {kvs:List (cC × V)} (e:H a=some (.dK kvs)):Kn H (.ref a)
inductive sX (H:Hp):V->Prop where
 | kn {x:V} (h:Kn H x):sX H x
 | tup {a:Addr} {xs:List V} (e:H a=some (.tup xs)):sX H (.ref a)
def fJ:V->Bool
 | .int _=>true
 | _=>false
def Kn.same {H H':Hp} {x:V} (e:aN H H') (h:Kn H x):Kn H' x:=by
 cases h with
 | non=>exact .non
 | bl b=>exact .bl b
 | int i=>exact .int i
 | str x=>exact .str x
 | lst q=>exact .lst (e _ _ q)
 | dK q=>exact .dK (e _ _ q)
theorem sX.same {H H':Hp} {x:V} (e:aN H H') (h:sX H x):sX H' x:=by
 cases h with
 | kn h=>exact .kn (h.same e)
 | tup q=>exact .tup (e _ _ q)
def Uh {K:Frag} {H:Hp} {x:V} (h:sX H x):∃t,jG K H x t/\kitOne K t (.type "int")=some (match x with | .int _=>true | .bl _=>true|_=>false):=by
 cases h with
 | kn h=>
  cases h with
  | non=>exact {_,.non,by kernel_rfl}
  | bl b=>exact {_,.bl b,by kernel_rfl}
  | int i=>exact {_,.int i,by rfl}
  | str x=>exact {_,.str x,by kernel_rfl}
  | lst q=>exact {_,.lst q,by kernel_rfl}
  | dK q=>exact {_,.dK q,by kernel_rfl}
 | tup q=>exact {_,.tup q,by kernel_rfl}
def Og {K:Frag} {H:Hp} {x:V} (h:sX H x):∃t,jG K H x t/\kitOne K t (.type "bool")=some (match x with | .bl _=>true|_=>false):=by
 cases h with
 | kn h=>
  cases h with
  | non=>exact {_,.non,by kernel_rfl}
  | bl b=>exact {_,.bl b,by rfl}
  | int i=>exact {_,.int i,by kernel_rfl}
  | str x=>exact {_,.str x,by kernel_rfl}
  | lst q=>exact {_,.lst q,by kernel_rfl}
  | dK q=>exact {_,.dK q,by kernel_rfl}
 | tup q=>exact {_,.tup q,by kernel_rfl}
def xP {K:Frag} {H:Hp} {x:V} (h:Kn H x):∃t,jG K H x t/\kitOne K t (.type "tuple")=some false:=by
 cases h with
 | non=>exact {_,.non,by kernel_rfl}
 | bl b=>exact {_,.bl b,by kernel_rfl}
 | int i=>exact {_,.int i,by kernel_rfl}
 | str x=>exact {_,.str x,by kernel_rfl}
 | lst q=>exact {_,.lst q,by kernel_rfl}
 | dK q=>exact {_,.dK q,by kernel_rfl}
def jE {K:Frag} {H:Hp} {a:Addr} {xs:List V} (q:H a=some (.tup xs)):∃t,jG K H (.ref a) t/\kitOne K t (.type "tuple")=some true:={_,.tup q,by rfl}
def tH:Sp:=λvs H Q _=>∃x,vs=[x]/\sX H x/\Q (.bl (fJ x)) H
inductive xR (H:Hp):V->Option (Int × Int)->Prop where
 | no {x:V} (h:Kn H x):xR H x none
 | len {a:Addr} {xs:List V} (e:H a=some (.tup xs)) (h:xs.length≠2):xR H (.ref a) none
 | one {a:Addr} {x y:V} (e:H a=some (.tup [x,y])) (hx:sX H x) (hy:sX H y) (h:fJ x=false\/fJ y=false):xR H (.ref a) none
 | turned {a:Addr} {l h:Int} (e:H a=some (.tup [.int l,.int h])) (n:h<=l):xR H (.ref a) none
 | yes {a:Addr} {l h:Int} (e:H a=some (.tup [.int l,.int h])) (n:l<h):xR H (.ref a) (some (l,h))
def Ei:Sp:=λvs H Q _=>∃x o,vs=[x]/\xR H x o/\Q (.bl o.isSome) H
section
variable {P:Program} {w:World} {K:Frag} {mg:Str->Option Value} {base:Heap} {N:Cn} {c:Nat->Addr}
def fI:bootBuiltins "isinstance"=some (.builtin "isinstance"):=⋯
def BI:bootBuiltins "int"=some (.type "int"):=⋯
def BJ:bootBuiltins "bool"=some (.type "bool"):=⋯
def fM:bootBuiltins "tuple"=some (.type "tuple"):=⋯
def BH:bootBuiltins "list"=some (.type "list"):=⋯
def Ud:bootBuiltins "max"=some (.builtin "max"):=⋯
def Oc:bootBuiltins "any"=some (.builtin "any"):=⋯
def qK:bootBuiltins "all"=some (.builtin "all"):=⋯
def sO:bootBuiltins "enumerate"=some (.type "enumerate"):=⋯
def Oa:bootBuiltins "sorted"=some (.builtin "sorted"):=⋯
def Qt:aK ["thing"] ["thing"] (aG Iw):={rfl,rfl,rfl,⋯,rfl,⋯,⋯}
def dB (W:Wd P w K mg base N c):jJ P w K mg base cY "is_whole" 1 tH:=W.d1.of λF=>by
 refine F.ok Qt (λk H Q E h=>?_) (λi A f s H k Q E m h=>?_)
 ·let (x,rfl,_):=h
  rfl
 ·intro X D
  let (x,rfl,g,q):=h
  refine {_,aH (bF (eJ (bB dE (by rfl) W.G.isi fI (aA (pv 0) (aA (gF (v:=.ty "int") (by rfl) W.G.int BI rfl) aF)))
   (fL (zB (bB dE (by rfl) W.G.isi fI (aA (pv 0) (aA (gF (v:=.ty "bool") (by rfl) W.G.bool BJ rfl) aF))))))),?_}
  let (t,a,e):=Uh (K:=K) g
  let (l,b,j):=Og (K:=K) g
  refine {_,rfl,_,_,_,_,rfl,.ty "int",.inl {(t),a,e},_,rfl,?_}
  refine gO (λd=>?_) (λd=>?_)
  ·refine {_,rfl,_,_,_,_,rfl,.ty "bool",.inl {(l),b,j},_,rfl,?_}
   cases x <;> first|exact q|cases d
  ·cases x <;> first|exact q|exact absurd rfl d
def wQ {α:Type} {n:Nat} {xs:List α} (h:xs.length=n+1):∃a t,xs=a::t/\t.length=n:=by
 cases xs with
 | nil=>cases h
 | cons a t=>exact {a,t,rfl,Nat.succ.inj h}
def Td {α:Type} {xs:List α} (h:xs.length=2):∃a b,xs=[a,b]:=by
 let (a,t,rfl,e):=wQ h;let (b,t,rfl,d):=wQ e;cases List.eq_nil_of_length_eq_zero d;exact {(a),b,rfl}
def Eo:aK ["thing"] ["thing"] (aG vO):={rfl,rfl,rfl,⋯,rfl,⋯,⋯}
def zK (W:Wd P w K mg base N c):jJ P w K mg base cY "is_stretch" 2 Ei:=W.d2.of λF=>by
 refine F.ok Eo (λvs H Q E h=>?_) (λM A C s H vs Q E J h=>?_)
 ·let (x,o,rfl,_):=h
  rfl
 ·intro X D
  let (x,o,rfl,T,q):=h
  refine {_,aE (bP (PW.pt (gE (bZ (bX (bB dE (by rfl) W.G.isi fI (aA (pv 0) (aA (gF (v:=.ty "tuple") (by rfl) W.G.tuple fM rfl) aF)))))
    (eQ (cN Cv (bB bU (by rfl) W.G.len PySem.boot_len (aA (pv 0) aF)) aY (bQ _))))) (aH (bF lK)) aZ)
   (aH (bF (eJ (aV (dB W) J aQ (aA (dN dJ (pv 0) aY (λ_ _=>rfl)) aF))
    (eJ (aV (dB W) J aQ (aA (dN dJ (pv 0) aY (λ_ _=>rfl)) aF))
     (fL (dU iF (dN dJ (pv 0) aY (λ_ _=>rfl)) (dN dJ (pv 0) aY (λ_ _=>rfl)) (bQ _))))))),?_}
  have b:∀{a:Addr} {f:List V},x=.ref a->H a=some (.tup f)->(f.length≠2->Q (.bl false) H)->(∀u v,f=[u,v]->sX H u/\sX H v/\(fJ u=false->Q (.bl false) H)/\(fJ v=false->Q (.bl false) H)/\∀l h,u=.int l->v=.int h->Q (.bl (decide (l<h))) H) ->
   (Px (DZ (KJ (DW (tB (HL (EX K) (iO (iN 0) (iO (tC (.ty "tuple")) nJ))))) (Ho (Pk KK (HL (λf H Q=>∃p I,f=[.ref p]/\(cZ K H p I\/bN K H p I)/\Q (.int I.length) H) (iO (iN 0) nJ)) (tC (.int 2))))) (Xn (tC (.bl false))) Bh)
    (Xn (Hu (Bi tH [] E0 (iO (Pk (Ka K) (iN 0) (tC (.int 0))) nJ)) (Hu (Bi tH [] E0 (iO (Pk (Ka K) (iN 0) (tC (.int 1))) nJ)) (Pk (Rj λi j=>.bl (decide (i<j))) (Pk (Ka K) (iN 0) (tC (.int 0))) (Pk (Ka K) (iN 0) (tC (.int 1))))))))
    { nx:=λ_ Z=>Q .non Z,rt:=Q } (dC ["thing"] [x]) H:=λ{a f} ex d L q2=>by
   subst ex
   let (t,g,e):=jE (K:=K) d
   refine {_,rfl,_,_,_,_,rfl,.ty "tuple",.inl {(t),g,e},_,rfl,?_}
   refine bY ?_
   refine {_,rfl,a,f,rfl,.inr (bN.of d),rfl,_,rfl,?_}
   refine gO (λB=>?_) (λB=>?_)
   ·refine L λz=>?_
    rw [z] at B
    cases B
   ·let z:f.length=2:=by
     by_cases z:f.length=2
     ·exact z
     ·refine absurd ?_ B;have:decide (V.int (f.length:Int)=V.int 2)=false:=decide_eq_false λw=>z (by injection w with w;omega);rw [this];rfl
    let (u,v,rfl):=Td z;let (S,O,Y,U,ql):=q2 u v rfl;refine {_,rfl,a,_,_,_,rfl,rfl,bN.of d,bV (j:=0) rfl,_,rfl,S,_,rfl,?_};refine gO (λr=>?_) (λr=>Y (by simpa using r));refine {_,rfl,a,_,_,_,rfl,rfl,bN.of d,bV (j:=1) rfl,_,rfl,O,_,rfl,?_};refine gO (λk=>?_) (λk=>U (by simpa using k));obtain⟨l,rfl⟩:∃l,u=.int l:=by
     cases u <;> first|exact {_,rfl} | cases r
    obtain⟨h,rfl⟩:∃h,v=.int h:=by
     cases v <;> first|exact {_,rfl} | cases k
    exact {_,rfl,a,_,_,_,rfl,rfl,bN.of d,bV (j:=0) rfl,_,rfl,a,_,_,_,rfl,rfl,bN.of d,bV (j:=1) rfl,_,_,rfl,rfl,ql l h rfl rfl}
  cases T with
  | no h=>
   let (t,g,e):=xP (K:=K) h;refine {_,rfl,_,_,_,_,rfl,.ty "tuple",.inl {(t),g,e},_,rfl,?_};refine cH ?_;exact cH q
  | len d hl=>exact b rfl d (λ_=>q) λu v z=>absurd (by rw [z];rfl) hl
  | one d r k hw=>
   refine b rfl d (λz=>absurd rfl z) λu v z=>?_;cases z;refine {r,k,λ_=>q,λ_=>q,λl h m y=>?_};subst m;subst y;rcases hw with z|z <;> cases z
  | turned d n=>
   refine b rfl d (λz=>absurd rfl z) λu v z=>?_;cases z;refine {.kn (.int _),.kn (.int _),λ_=>q,λ_=>q,λl h m y=>?_};cases m;cases y;rw [decide_eq_false ∎];exact q
  | yes d n=>
   refine b rfl d (λz=>absurd rfl z) λu v z=>?_;cases z;refine {.kn (.int _),.kn (.int _),λz=>(nomatch z),λz=>(nomatch z),λl h m y=>?_};cases m;cases y;rw [decide_eq_true n];exact q
def GO (os:List (Option (Int × Int))):Prop:=(∀(j:Nat) (o:Option (Int × Int)),os[j]?=some o->o.isSome=true)/\∀(k:Nat) (l h l' h':Int),os[k]?=some (some (l,h))->os[k+1]?=some (some (l',h'))->h<=l'
inductive Ea (H:Hp):V->Bool->Prop where
 | no {x:V} (h:Kn H x):Ea H x false
 | tup {a:Addr} {xs:List V} {os:List (Option (Int × Int))} {b:Bool} (e:H a=some (.tup xs)) (hl:xs.length<=1000) (h:Paired (xR H) xs os) (hb:b=true↔GO os):Ea H (.ref a) b
def Xw:Sp:=λvs H Q _=>∃x b,vs=[x]/\Ea H x b/\Q (.bl b) H
def yR:aK ["thing","stretch","index"] ["thing"] (aG Vy):={rfl,rfl,rfl,⋯,rfl,⋯,⋯}
def Cw (W:Wd P w K mg base N c):jJ P w K mg base cY "is_work" 3 Xw:=W.d3.of λF=>by
 refine F.ok yR (λvs H Q E h=>?_) (λa3 A Z s H vs Q E hr h=>?_)
 ·let (x,b,rfl,_):=h
  rfl
 ·intro X D
  let (x,b,rfl,hx,q):=h
  refine {_,aE (bP (bZ (bX (bB dE (by rfl) W.G.isi fI (aA (pv 0) (aA (gF (v:=.ty "tuple") (by rfl) W.G.tuple fM rfl) aF))))) (aH (bF lK)) aZ)
   (aE (eD v4 rfl (eR (pv 0)) (aO (i:=1) yR.nd rfl (j0 rfl)) (aH (bP (bZ (bX (aV (zK W) hr aQ (aA (pv 1) aF)))) (aH (bF lK)) aZ)))
   (aE (eD v4 rfl (jT rfl W.G.range (aA aY (aA (bB bU (by rfl) W.G.len PySem.boot_len (aA (pv 0) aF)) aF))) (aO (i:=2) yR.nd rfl (j0 rfl))
    (aH (bP (cN iF (dN dJ (dN dJ (pv 0) (pv 2) (λ_ _=>rfl)) aY (λ_ _=>rfl)) (dN dJ (dN dJ (pv 0) (cE kP (pv 2) aY) (λ_ _=>rfl)) aY (λ_ _=>rfl)) (bQ _)) (aH (bF lK)) aZ)))
   (aH (bF lK)))),?_}
  cases hx with
  | no h=>
   let (t,C,e):=xP (K:=K) h
   refine {_,rfl,_,_,_,_,rfl,.ty "tuple",.inl {(t),C,e},_,rfl,?_}
   exact cH q
  | @tup a xs os b ea hl hp hb=>
   let (t,C,e):=jE (K:=K) ea
   refine {_,rfl,_,_,_,_,rfl,.ty "tuple",.inl {(t),C,e},_,rfl,?_}
   refine bY ?_
   refine {_,rfl,a,rfl,{_,bN.of ea},lQ (K:=K) (a:=a) (xs:=xs) (λi σ B=>B=H/\(∃v,σ=[some (.ref a),v,none])/\∀(j:Nat) (o:Option (Int × Int)),j<i->os[j]?=some o->o.isSome=true)
    {rfl,{(none),rfl},λj o O=>absurd O (B8 _)} (λi σ B _ ⟨m,_⟩=>by subst m;exact bN.of ea) ?_ ?_}
   ·rintro i y σ B hi ⟨rfl,⟨v,rfl⟩,d⟩
    let (o,J,S):=aM hp hi
    refine {_,rfl,y,o,rfl,S,_,rfl,?_}
    cases o with
    | none=>
     refine cH ?_
     have:b=false:=by
      cases b with
      | false=>rfl
      | true=>exact absurd ((hb.mp rfl).1 i none J) (by simp)
     rw [this] at q;exact q
    | some p=>
     refine bY ?_;refine {rfl,{_,rfl},λj o' O r=>?_};by_cases a0:j<i
     ·exact d j o' a0 r
     ·have:j=i:=∎;subst this;rw [J] at r;cases r;rfl
   ·rintro σ B ⟨rfl,⟨v,rfl⟩,d⟩;let T:os.length=xs.length:=hp.length.symm;let M:∀(k:Nat),k<xs.length->∃(c:Addr) (l h:Int),xs[k]?=some (.ref c)/\B c=some (.tup [.int l,.int h])/\os[k]?=some (some (l,h)):=λk L=>by
     let f:xs[k]?=some xs[k]:=c8 L;let (o,J,S):=aM hp f;let U:=d k o L J;cases o with
     | none=>cases U
     | some p=>
      generalize xs[k]=y at f S;cases S with
      | @yes c l h ec n=>exact {(c),l,h,f,ec,J}
    let hz:xs.length<2 ^ 62:=P7 hl (by decide);refine {_,rfl,a,xs,rfl,.inr (bN.of ea),1,(xs.length:Int),rfl,{by decide,by decide,∎,∎},jW (lo:=1) (n:=((xs.length:Int)-1).toNat)
     (λi σ Y=>Y=B/\(∃v u,σ=[some (.ref a),v,u])/\∀(k:Nat) (l h g I:Int),k<i->os[k]?=some (some (l,h))->os[k+1]?=some (some (g,I))->h<=g) {rfl,{_,_,rfl},λk l h g I L=>absurd L (B8 _)} ?_ ?_}
    ·rintro i σ Y hi ⟨rfl,⟨v,u,rfl⟩,z⟩;let (c,l,h,x1,x2,x3):=M i ∎;let (c',g,I,y1,y2,y3):=M (i+1) ∎;let i1:(1:Int)+(i:Int)=((i+1:Nat):Int):=∎;let i2:((i+1:Nat):Int)-1=((i:Nat):Int):=∎;rw [i1];refine {_,rfl,_,rfl,a,xs,_,_,rfl,rfl,bN.of ea,bV y1,c',_,_,_,rfl,rfl,bN.of y2,bV (j:=0) rfl,_,rfl,_,rfl,_,_,rfl,rfl,a,xs,_,_,rfl,rfl,bN.of ea,(by rw [i2];exact bV x1),c,_,_,_,rfl,rfl,bN.of x2,bV (j:=1) rfl,_,_,rfl,rfl,_,rfl,?_};refine gO (λhc=>?_) (λhc=>?_)
     ·let a2:g<h:=by simpa using hc
      have:b=false:=by
       cases b with
       | false=>rfl
       | true=>
        have:=(hb.mp rfl).2 i l h g I x3 y3;omega
      rw [this] at q;exact q
     ·let a2:¬ g<h:=by simpa using hc
      refine {rfl,{_,_,rfl},λk l2 h2 l3 h3 L f m=>?_};by_cases a1:k<i
      ·exact z k l2 h2 l3 h3 a1 f m
      ·have:k=i:=∎;subst this;rw [x3] at f;rw [y3] at m;cases f;cases m;omega
    ·rintro σ Y ⟨rfl,⟨v,u,rfl⟩,z⟩;have:b=true:=hb.mpr {λj o O=>d j o (by rw [<- T];exact(c9.mp O).1) O,λk l h g I f m=>z k l h g I (by
      have:=(c9.mp m).1
      omega) f m};rw [this] at q;exact q
def jH (H:Hp) (v:V) (p:Int × Int):Prop:=∃b,v=.ref b/\H b=some (.tup [.int p.1,.int p.2])
def aL {α β:Type} {F G:α->β->Prop} (f:∀a b,F a b->G a b) {xs:List α} {d:List β} (h:Paired F xs d):Paired G xs d:=PySem.Paired.mono f h
def fC {α β:Type} {F:α->β->Prop} {x:α} {y:β} {xs:List α} {a:List β} (p:Paired F xs a) (h:F x y):Paired F (xs++[x]) (a++[y]):=PySem.Paired.snoc p h
def cG (H:Hp) (xs:List V) (ps:Lm.Ps):Prop:=Paired (jH H) xs ps
def cG.same {H H':Hp} {xs:List V} {ps:Lm.Ps} (e:aN H H') (h:cG H xs ps):cG H' xs ps:=aL (λv q ⟨b,z1,z2⟩=>{b,z1,e _ _ z2}) h
def bS (H:Hp) (p:Addr) (ps:Lm.Ps):Prop:=∃xs,H p=some (.tup xs)/\cG H xs ps
theorem bS.same {H H':Hp} {p:Addr} {ps:Lm.Ps} (e:aN H H') (h:bS H p ps):bS H' p ps:=by
 let (d,b,a):=h;exact {d,e _ _ b,a.same e}
def Ey {H:Hp} {xs:List V} {ps:Lm.Ps} (p:cG H xs ps) (h:∀q ∈ ps,q.1<q.2):Paired (xR H) xs (ps.map some):=by
 unfold cG at p
 induction p with
 | nil=>exact .nil
 | cons r _ t=>
  let (b,rfl,d):=r;exact .cons (.yes d (h _ (g8 ..))) (t λr a=>h r (d0 _ a))
def Pu {ps:Lm.Ps} (w:Lm.Wk ps) (k:Nat) (l h d h':Int) (a:ps[k]?=some (l,h)) (b:ps[k+1]?=some (d,h')):h<=d:=by
 induction ps generalizing k with
 | nil=>cases a
 | cons p t ih=>
  let (_,e,f):=w;cases k with
  | zero=>cases a;exact e _ (g6 (i:=0) b)
  | succ k=>exact ih f k a b
def bS.workV {H:Hp} {p:Addr} {ps:Lm.Ps} (h:bS H p ps) (wk:Lm.Wk ps) (g:ps.length<=1000):Ea H (.ref p) true:=by
 let (n,m,d):=h;refine .tup m (by rw [d.length];exact g) (Ey d wk.lt) {λ_=>{λj o e=>?_,λk l h i f b a=>?_},λ_=>rfl}
 ·rw [i7] at e;cases z:ps[j]? with
  | none=>rw [z] at e;cases e
  | some q=>rw [z] at e;cases e;rfl
 ·rw [i7] at b a;cases z1:ps[k]? with
  | none=>rw [z1] at b;cases b
  | some q1=>
   cases z2:ps[k+1]? with
   | none=>rw [z2] at a;cases a
   | some q2=>
    rw [z1] at b;rw [z2] at a;cases b;cases a;exact Pu wk k l h i f z1 z2
inductive Pb (vs:List V) (H:Hp) (Q:VK) (E0_:XK):Prop|mk (p:Addr) (ps:Lm.Ps) (_:vs=[.ref p]) (_:bS H p ps) (_:Lm.Wk ps) (_:ps.length<=1000) (_:Q .non H)
def Qo:Sp:=Pb
def Ra:aK ["work"] ["work"] (aG Jq):={rfl,rfl,rfl,⋯,rfl,⋯,⋯}
def pM (W:Wd P w K mg base N c):jJ P w K mg base cY "check_work" 4 Qo:=W.d4.of λF=>by
 refine F.ok Ra (λj H Q E h=>?_) (λe A a s H j Q E f h=>?_)
 ·let (p,b,rfl,_):=h
  rfl
 ·intro X D
  let (p,b,rfl,i,g,d,q):=h
  refine {_,aH (bP (bZ (bX (aV (Cw W) f aQ (aA (pv 0) aF)))) (aH pG) aZ),?_}
  exact {_,rfl,_,true,rfl,i.workV g d,_,rfl,bY q}
inductive Gw (K:Frag) (vs:List V) (H:Hp) (Q:VK) (E0_:XK):Prop|mk (p:Addr) (xs:List V) (ps:Lm.Ps) (_:vs=[.ref p]) (_:(cZ K H p xs\/H p=some (.tup xs))) (_:cG H xs ps) (_:ps.length<=1000) (_:∀r H',aN H H'->bS H' r (Lm.merged ps)->Q (.ref r) H')
def Hx (K:Frag):Sp:=Gw K
inductive On (vs:List V) (H:Hp) (Q:VK) (E0_:XK):Prop|mk (p:Addr) (ps:Lm.Ps) (_:vs=[.ref p]) (_:bS H p ps) (_:Lm.Wk ps) (_:ps.length<=1000) (_:∀r H',aN H H'->bS H' r (Lm.merged ps)->Q (.ref r) H')
def Bj:Sp:=On
def wF {α β:Type} {F:α->β->Prop} {xs:List α} {ys:List β} {y:β} (h:Paired F xs (ys++[y])):∃a u,xs=a++[u]/\Paired F a ys/\F u y:=by
 induction ys generalizing xs with
 | nil=>
  cases h with
  | cons r t=>cases t;exact {[],_,rfl,.nil,r}
 | cons b ys ih=>
  cases h with
  | cons r t=>
   let (a,u,rfl,p,f):=ih t;exact {_::a,u,rfl,.cons r p,f}
def Ie {α:Type} (us:List α) (u v:α):(us++[u]).set us.length v=us++[v]:=by
 induction us with
 | nil=>rfl
 | cons a us ih=>
  show a::(us++[u]).set us.length v=a::(us++[v]);rw [ih]
def Mq {n:Nat}:Mr (n+1) (-1)=some n:=by
 unfold Mr;rw [if_neg (by decide),if_pos ∎];congr 1;omega
def HI (qs ps:Lm.Ps) (i:Nat):Prop:=(qs=[]/\i=0)\/∃done c,qs=done++[c]/\done++Lm.mg c (ps.drop i)=Lm.merged ps
def Tm {K:Frag} {a:Addr} {xs:List V} {g:TG} {tb:TS} {D:eO} {σ:St} {H:Hp} (d:Nat->St->Hp->Prop) (l:d 0 σ H)
  (q:(∀i σ H,i<=xs.length->d i σ H->cZ K H a xs)\/(∀i σ H,i<=xs.length->d i σ H->bN K H a xs))
  (o:∀i x σ H,xs[i]?=some x->d i σ H->g x σ H λe h=>tb { D with nx:=d (i+1),ct:=d (i+1),bk:=D.nx } e h) (p:∀ σ H,d xs.length σ H->D.nx σ H):
  ((∃xs,cZ K H a xs)/\∃W:Nat->Nat->St->Hp->Prop,(∃m,W 0 m σ H)/\∀i m σ H,W i m σ H ->
   ((Vj K a).stop i H/\D.nx σ H)\/((Vj K a).go i H/\∃N:St->Hp->Prop,(∀j b,N j b->∃f,f<m/\W (i+1) f j b)/\∀x b,(Vj K a).yld i H x b->g x σ b λe h=>tb { D with nx:=N,ct:=N,bk:=D.nx } e h)) \/
  ((∃xs,bN K H a xs)/\∃W:Nat->Nat->St->Hp->Prop,(∃m,W 0 m σ H)/\∀i m σ H,W i m σ H ->
   ((Vi K a).stop i H/\D.nx σ H)\/((Vi K a).go i H/\∃N:St->Hp->Prop,(∀j b,N j b->∃f,f<m/\W (i+1) f j b)/\∀x b,(Vi K a).yld i H x b->g x σ b λe h=>tb { D with nx:=N,ct:=N,bk:=D.nx } e h)):=
 q.elim (λk=>.inl {{xs,k 0 σ H (i8 _) l},lR d l k o p}) λk=>.inr {{xs,k 0 σ H (i8 _) l},lQ d l k o p}
def vK:aK ["stretches","whole","low","high"] ["stretches"] (aG Cd):={rfl,rfl,rfl,⋯,rfl,⋯,⋯}
def Fa (W:Wd P w K mg base N c):jJ P w K mg base cY "merged" 1 (Hx K):=W.d5.of λF=>by
 refine F.ok vK (λvs H Q E h=>?_) (λa3 A a0 s H vs Q E hr h=>?_)
 ·let (p,xs,f,rfl,_):=h
  rfl
 ·intro X D
  let (p,xs,f,rfl,hp,pr,hl,q):=h
  let Y:=vK.nd
  let sl:sizeLine=16777216:=sizeLine_eq
  let lx:xs.length=f.length:=pr.length
  refine Wp.ex (mD (n:=1) Y rfl lT (i8 _) λl H1 hn s1 e1=>?_)
  let hk:(∀{d:Hp},aN H d->cZ K d p xs)\/(∀{d:Hp},aN H d->bN K d p xs):=hp.elim (λz=>.inl λe=>e.seq z) λz=>.inr λe=>bN.of (e _ _ z)
  refine {_,aE (eD v4 rfl (Zp (pv 0)) (dY rfl (aX (aO (i:=2) Y rfl (j0 rfl)) (aX (aO (i:=3) Y rfl (j0 rfl)) dA))) aU) aU,?_}
  refine {_,rfl,p,rfl,Tm (K:=K) (a:=p) (xs:=xs) (λi σ d=>aN H d/\∃I B u v,d l=some (.lst I)/\cG d I B/\HI B f i/\B.length<=i/\σ=[some (.ref p),some (.ref l),u,v])
   {s1,[],[],_,_,e1,.nil,.inl {(rfl),rfl},d7 _,rfl} (hk.elim (λz=>.inl λi σ d _ ⟨e,_⟩=>z e) λz=>.inr λi σ d _ ⟨e,_⟩=>z e) ?_ ?_}
  ·rintro i x σ d hi ⟨U,I,B,u,v,m,M,g,ql,rfl⟩
   let (y,hy,b',rfl,a1):=aM pr hi
   let il:i<xs.length:=(c9.mp hi).1
   let dr:f.drop i=y::f.drop (i+1):=by
    rw [E2 ∎];congr 1;exact Option.some.inj ((c8 ∎).symm.trans hy)
   let wl:I.length=B.length:=M.length;let J:∀{O:Hp},(∀b u,d b=some u->b≠l->O b=some u)->aN H O:=λe b z hz=>e _ _ (U _ _ hz) (aD hz hn);let j:∀{O:Hp} {k:List V} {rs:Lm.Ps},(∀b u,d b=some u->b≠l->O b=some u)->cG d k rs->cG O k rs:=λe h=>aL (λv q ⟨b,z1,z2⟩=>{b,z1,e _ _ z2 (aI z2 m (by intro z;cases z))}) h;refine {b',_,rfl,bN.of (U _ _ a1),rfl,_,_,rfl,_,_,rfl,rfl,?_};refine {_,aE (bP (PW.pt (fX (gY (pv 1) (λ_=>rfl)) (eW eF))) aU aU) aU,?_};refine {_,rfl,_,.inl {I,cZ.of m,rfl},?_};rcases g with ⟨rfl,rfl⟩|⟨done,c,rfl,g⟩
   ·cases M;refine bY (jM (vs:=[.int y.1,.int y.2]) (by symm) (by symm) m (i8 _) (by show 2<=1000;decide) (λt H5 T C l5 t5=>?_) rfl (kG PySem.F.plainAttrs_list PySem.F.slot_list_append PySem.F.type_list_append cU aR (aA (cD dD) aF)));exact cJ (cJ {J C,_,[y],_,_,l5,.cons {(t),rfl,t5} .nil,.inr ⟨[],y,rfl,by rw [List.nil_append];cases f with|nil=>cases hy|cons a f=>(cases hy;rfl)⟩,d7 _,rfl})
   let (k,u',rfl,pu,cb,rfl,a2):=wF M;let ne:(!(k++[V.ref cb]).isEmpty)=true:=by
    cases k <;> rfl
   rw [ne];rw [dr] at g;let al:kX (k++[V.ref cb]) (-1)=some (.ref cb):=Oe _ _;refine cH (Tv.to (b:=decide (y.1<=c.2)) (by symm) _ (gO (λhc=>?_) (λhc=>?_)))
   ·let L:y.1<=c.2:=of_decide_eq_true hc;let Z:done++Lm.mg (c.1,if y.2 > c.2 then y.2 else c.2) (f.drop (i+1))=Lm.merged f:=by
     rw [<- g];congr 1;show _=(if y.1<=c.2 then _ else _);rw [if_pos L]
    refine {_,aE (yX (cD (aA aR (aA (bB (Gr rfl) (by rfl) W.G.max Ud dD) aF))) (Zq (pv 1) aR Ic)) aU,?_};refine Vl.to (v:=.int c.1) (by symm) _ (Av.to (vs:=[.int c.2,.int y.2]) (by symm) _ {_,_,rfl,by show 2<=sizeLine;decide,λt ht=>{_,rfl,Vl.to (v:=.int (-1)) (by symm) _ ?_}});let T:l≠t:=aD m ht;refine {l,_,_,k.length,rfl,rfl,by rw [aC T];exact m,by rw [i6];exact Mq,?_};let C:∀(o:HO) b u,d b=some u->b≠l->(aS (aS d t (.tup [.int c.1,.int (if y.2 > c.2 then y.2 else c.2)])) l o) b=some u:=λo b u e n=>by rw [aC n,aC (aD e ht)];exact e
    refine cJ (cJ {J (C _),k++[.ref t],done++[(c.1,if y.2 > c.2 then y.2 else c.2)],_,_,?_,?_,.inr {done,_,rfl,Z},?_,rfl})
    ·rw [Ie];exact aB
    ·refine fC (j (C _) pu) {t,rfl,?_};rw [aC T.symm];exact aB
    ·rw [i6] at ql ⊢;show done.length+1<=i+1;have:done.length+1<=i:=ql;omega
   ·let L:¬ y.1<=c.2:=λz=>hc (decide_eq_true z);refine jM (vs:=[.int y.1,.int y.2]) (by symm) (by symm) m ∎ (by show 2<=1000;decide) (λt H5 T C l5 t5=>?_) rfl (kG PySem.F.plainAttrs_list PySem.F.slot_list_append PySem.F.type_list_append cU aR (aA (cD dD) aF));refine cJ (cJ {J C,_,(done++[c])++[y],_,_,l5,fC (j C M) {(t),rfl,t5},.inr {done++[c],y,rfl,?_},by rw [i6];show (done++[c]).length+1<=i+1;omega,rfl});rw [<- g,q8];congr 1;show _=(if y.1<=c.2 then _ else _);rw [if_neg L];rfl
  ·rintro σ d ⟨U,I,B,u,v,m,M,g,ql,rfl⟩;refine fV {_,dW cX (by rfl) W.G.tuple fM (aA (pv 1) aF),?_};let eq:B=Lm.merged f:=by
    let dn:f.drop xs.length=[]:=List.drop_of_length_le ∎;rcases g with ⟨rfl,h0⟩|⟨done,c,rfl,g⟩
    ·cases f with
     | nil=>rfl
     | cons a t=>rw [lx] at h0;cases h0
    ·rw [<- g,dn];rfl
   subst eq;refine {_,rfl,l,_,rfl,.inl {cZ.of m,λr S=>?_}};exact q r _ (U.trans (aJ S)) {I,aB,M.same (aJ S)}
def Qv:aK ["work"] ["work"] (aG Iy):={rfl,rfl,rfl,⋯,rfl,⋯,⋯}
def Kz (W:Wd P w K mg base N c):jJ P w K mg base cY "short_form" 5 Bj:=W.d6.of λF=>by
 refine F.ok Qv (λk H Q E h=>?_) (λj A b s H k Q E e h=>?_)
 ·let (p,a,rfl,_):=h
  rfl
 ·intro X D
  let (p,a,rfl,d,g,f,q):=h
  refine {_,aE (cF (aV (pM W) e aQ (aA (pv 0) aF))) (aH (bF (aV (Fa W) e aQ (aA (pv 0) aF)))),?_}
  let (m,l,i):=id d
  exact {_,rfl,p,a,rfl,d,g,f,_,rfl,p,m,a,rfl,.inr l,i,f,q}
def lP {i:Nat} {v:V} {σ:St} {H:Hp} {Q:St->Hp->Prop} (h:Q (σ.set i (some v)) H):cI i v σ H Q:=h
def eB {σ:St} {H:Hp} {Q:Bool->Hp->Prop} (h:Q true H):DT σ H Q:=h
def Gd (n:Nat) (d:PyData):Prop:=d.canLay0=true/\d.depth<=n
theorem Af:∀{a:List PyData},(∀d ∈ a,d.canLay0=true)->PyData.canLayAll0 a=true
 | [],_=>by rw [PyData.canLayAll0]
 | d::a,h=>by
  rw [PyData.canLayAll0,h d (g8),Af λe b=>h e (d0 _ b)]
  rfl
theorem Aa {n:Nat}:∀{a:List PyData},(∀d ∈ a,d.depth<=n)->PyData.depthAll a<=n
 | [],_=>by rw [PyData.depthAll];exact i8 _
 | d::a,h=>by
  rw [PyData.depthAll]
  exact Nat.max_le.mpr {h d g8,Aa λe b=>h e (d0 _ b)}
def Gd.tup {n:Nat} {b:List PyData} (h:∀d ∈ b,Gd n d):Gd (n+1) (.tuple b):=by
 refine {?_,?_}
 ·rw [PyData.canLay0];exact Af λd a=>(h d a).1
 ·rw [PyData.depth];exact N7 (Aa λd a=>(h d a).2)
def Gd.lst {n:Nat} {b:List PyData} (h:∀d ∈ b,Gd n d):Gd (n+1) (.list b):=by
 refine {?_,?_}
 ·rw [PyData.canLay0];exact Af λd a=>(h d a).1
 ·rw [PyData.depth];exact N7 (Aa λd a=>(h d a).2)
theorem Gd.int {n:Nat} (i:Int):Gd n (.int i):={by rw [PyData.canLay0],by rw [PyData.depth];exact i8 _}
theorem Gd.str {n:Nat} {x:Str} (h:PyData.strOk x=true):Gd n (.str x):={by rw [PyData.canLay0];exact h,by rw [PyData.depth];exact i8 _}
theorem Gd.shaped {n:Nat} {d:PyData} (h:Gd n d) (e:n<=64):SeqAt.shaped d=true:=by
 unfold SeqAt.shaped;rw [h.1,decide_eq_true (n8 h.2 e)];rfl
def kW {n:Nat}:∀d ∈ ([]:List PyData),Gd n d:=λd h=>absurd h (by simp)
def gJ {n:Nat} {d:PyData} {a:List PyData} (h:Gd n d) (f:∀e ∈ a,Gd n e):∀e ∈ d::a,Gd n e:=λe b=>by
 rcases g7.mp b with z|z
 ·rw [z];exact h
 ·exact f e z
def GP (H:Hp) (Q:VK) (n:Nat) (M:Int->Prop):Prop:=∀(r:Addr) (d:Lm.Ps) (H':Hp),aN H H'->bS H' r d->Lm.Sh d->(∀x,Lm.mem d x↔M x)->d.length<=n->Q (.ref r) H'
inductive GX (vs:List V) (H:Hp) (Q:VK) (E0_:XK):Prop|mk (p:Addr) (a:Lm.Ps) (_:vs=[.ref p]) (_:bS H p a) (_:Lm.Wk a) (_:a.length<=1000) (_:GP H Q a.length λx=>Lm.mem a x)
def EE:Sp:=GX
def EC {f:Addr} {b:FuncData} {k:Nat} {ps:List Str} (h:bM P w K mg base cY k f b ps Bj):bM P w K mg base cY k f b ps EE:=by
 refine h.imp λm H Q E ⟨p,a,e,ha,wa,la,t⟩=>{p,a,e,ha,wa,la,λr j s g=>?_};let (d,l,i):=Lm.merged_ok wa.lo;exact t r _ j s g d l i
section
variable (W:Wd P w K mg base N c)
include W
def Ky:jJ P w K mg base cY "short_form" 5 EE:=(Kz W).to EC
end
def qA (pw d:Addr):List (Str × V):=cM "results" (.ref d) (cM "work" (.ref pw) [])
def wr:¬ ("work":Str)="results":=⋯
def Fy (pw d:Addr):(qA pw d).lookup ("work":Str)=some (.ref pw):=by
 unfold qA;rw [dQ,if_neg wr,dQ,if_pos rfl]
def jA (pw d:Addr):(qA pw d).lookup ("results":Str)=some (.ref d):=by
 unfold qA;rw [dQ,if_pos rfl]
def jX (pw d:Addr) {m:Str} (a:¬ m="results") (h2:¬ m="work"):(qA pw d).lookup m=none:=by
 unfold qA;rw [dQ,if_neg a,dQ,if_neg h2]
 all_goals rfl
structure cO (C:Addr) (H:Hp) (p pw d:Addr) (ws:Lm.Ps) (kvs:List (cC × V)):Prop where
 ob:∃dx,H p=some (.ins C dx (qA pw d))
 wk:bS H pw ws
 dc:H d=some (.dK kvs)
theorem cO.same {C:Addr} {H H':Hp} {p pw d:Addr} {a:Lm.Ps} {kvs:List (cC × V)} (e:aN H H') (h:cO C H p pw d a kvs):cO C H' p pw d a kvs:=by
 let ((f,g),b,i):=h;exact {{f,e _ _ g},b.same e,e _ _ i}
inductive Vb (C:Addr) (vs:List V) (H:Hp) (Q:VK) (E0_:XK):Prop|mk (p dx q:Addr) (a:Lm.Ps) (_:vs=[.ref p,.ref q]) (_:H p=some (.ins C dx [])) (_:bS H q a) (_:Lm.Wk a) (_:a.length<=1000) (_:∀(pw d:Addr) (ws:Lm.Ps) (H':Hp),H d=none->cO C H' p pw d ws []->Lm.Sh ws->(∀x,Lm.mem ws x↔Lm.mem a x)->ws.length<=a.length->(∀b o,H b=some o->b≠p->H' b=some o)->Q .non H')
def Yj (C:Addr):Sp:=Vb C
inductive Ut (vs:List V) (H:Hp) (Q:VK) (E0_:XK):Prop|mk (p:Addr) (ns:List Int) (_:vs=[.ref p]) (_:H p=some (.tup (ns.map V.int))) (_:ns.length<=1000) (_:∀H',aN H H'->Q (.bl true) H')
def Yc:Sp:=Ut
inductive Ox (C:Addr) (vs:List V) (H:Hp) (Q:VK) (E0_:XK):Prop|mk (p pw d:Addr) (ws:Lm.Ps) (kvs:List (cC × V)) (i j:Int) (_:vs=[.ref p,.int i,.int j]) (_:cO C H p pw d ws kvs) (_:ws.length<=1000) (_:∀H',aN H H'->Q (.bl (ws.any λq=>decide (q.1<=i) && decide (j<=q.2))) H')
def Qk (C:Addr):Sp:=Ox C
inductive Uy (C:Addr) (vs:List V) (H:Hp) (Q:VK) (E0_:XK):Prop|mk (p pw d:Addr) (ws:Lm.Ps) (kvs:List (cC × V)) (ns:List Int) (_:vs=[.ref p]) (_:cO C H p pw d ws kvs) (_:kvs.map (·.1)=ns.map Sum.inl) (_:ns.Nodup) (_:ns.length<128) (_:GP H Q ns.length λx=>x ∈ ns)
def Yg (C:Addr):Sp:=Uy C
def Za:aK ["self","work"] ["self","work"] (aG Jb):={rfl,rfl,rfl,⋯,rfl,⋯,⋯}
def So (W:Wd P w K mg base N c):eG P w K mg base cY N.CS "__init__" 6 (Yj N.CS):=W.d35.of λF=>by
 refine F.ok Za (λM H Q E h=>?_) (λT A B s H M Q E O h=>?_)
 ·let (p,g,q,a,rfl,_):=h
  rfl
 ·intro X D
  let (p,g,q,a,rfl,C,Z,wa,la,t):=h
  refine {_,aE (cA (pv 0) (aV (Ky W) O aQ (aA (pv 1) aF)) rfl) (aH (cA (pv 0) wB rfl)),?_}
  refine {_,rfl,q,a,rfl,Z,wa,la,λr U m k Y J L I=>?_}
  refine {_,rfl,p,N.CS,g,[],rfl,k _ _ C,W.S.cl,W.S.nW,(by show 0<1000;decide),?_}
  intro d l
  let j:m p=some (.ins N.CS g []):=k _ _ C
  let f:p≠d:=λz=>by
   subst z
   rw [aB] at l
   cases l
  let i:m d=none:=by rw [aC f.symm] at l;exact l
  let u:H d=none:=k.free i
  refine {_,rfl,p,N.CS,g,_,rfl,(by rw [aC f];exact aB),W.S.cl,W.S.nR,(by show 1<1000;decide),?_}
  let y:∀b o,m b=some o->b≠p->(aS (aS (aS m p (.ins N.CS g (cM "work" (.ref r) []))) d (.dK [])) p (.ins N.CS g (cM "results" (.ref d) (cM "work" (.ref r) [])))) b=some o:=λb o e n=>by
   rw [aC n,aC (aD e i),aC n]
   exact e
  refine t r d U _ u {{(g),aB},?_,by rw [aC f.symm,aB]} J L I λb o e n=>y b o (k _ _ e) n
  let (xs,x,G):=Y
  exact {xs,y _ _ x (λz=>by subst z;rw [j] at x;cases x),aL (λv q ⟨b,z1,z2⟩=>{b,z1,y _ _ z2 (λz=>by subst z;rw [j] at z2;cases z2)}) G}
def Ep:aK ["thing"] ["thing"] (aG vQ):={rfl,rfl,rfl,⋯,rfl,⋯,⋯}
def LK:(["number"]:List Str).Nodup:=⋯
def pK (W:Wd P w K mg base N c):jJ P w K mg base cY "is_numbers" 2 Yc:=W.d8.of λF=>by
 refine F.ok Ep (λT H Q E h=>?_) (λY A r s H T Q E U h=>?_)
 ·let (p,d,rfl,_):=h
  rfl
 ·intro X D
  let (p,d,rfl,k,ln,t):=h
  refine {_,aH (bF (eJ (bB dE (by rfl) W.G.isi fI (aA (pv 0) (aA (gF (v:=.ty "tuple") (by rfl) W.G.tuple fM rfl) aF)))
   (fL (bB (qI rfl) (by rfl) W.G.all qK (aA (cS (NB:=["number"]) (n:=1) (js:=[]) (g:=cI 0) (cl:=[]) rfl ⋯ ⋯ rfl (lW.all {(rfl),rfl,rfl,rfl}).2.2.2.1 (eR (pv 0)) (λ_ s H L I=>aO (i:=0) LK rfl (j0 rfl) (.inr rfl)) (λ_ s H L I=>dL)
    (λ_ s H L I=>aV (dB W) U aQ (aA (pv 0) aF))) aF))))),?_}
  let sl:sizeLine=16777216:=sizeLine_eq
  let (x,B,e):=jE (K:=K) k
  refine {_,rfl,_,_,_,_,rfl,.ty "tuple",.inl {(x),B,e},_,rfl,?_}
  refine cH ?_
  refine {_,rfl,p,rfl,{_,bN.of k},λf a=>?_}
  let lm:(d.map V.int).length=d.length:=f8 ..
  refine {λi m u C=>m=d.length-i/\i<=d.length/\u=(List.replicate i true).map V.bl/\aN H C/\C f=some (.lst u),{_,rfl,i8 _,rfl,aJ a,aB},?_}
  rintro i m u C ⟨rfl,hi,rfl,j,q⟩
  refine {q,?_}
  by_cases l:i<d.length
  ·refine .inr {{_,_,bN.of (j _ _ k),c8 ∎},?_}
   rintro y S ⟨rfl,O⟩
   let J:=O _ (bN.of (j _ _ k))
   let M:y=V.int d[i]:=by
    rw [i7,c8 l] at J;exact(Option.some.inj J).symm
   subst M;refine {rfl,?_};refine eB ?_;refine cH ?_;refine {_,rfl,_,rfl,.kn (.int _),q,by rw [f8,A9];omega,_,?_,rfl,l,?_,λb o z=>?_,aB}
   ·omega
   ·rw [O6,m9];rfl
   ·rw [aC (aD z a)];exact j _ _ z
  ·refine .inl {{_,bN.of (j _ _ k),∎},?_};refine {f,_,rfl,cZ.of q,?_};let Z:(List.replicate i true).all id=true:=by simp
   rw [Z];exact t _ j
def Qz:aK ["self","first","behind"] ["self","first","behind"] (aG Cb):={rfl,rfl,rfl,⋯,rfl,⋯,⋯}
def KL:(["low","high","behind","first"]:List Str).Nodup:=⋯
def Ug {α β:Type} (f:α->Bool) (l:List α):((l.map f).any id)=l.any f:=by
 induction l with
 | nil=>rfl
 | cons a l ih=>rw [k7,N5,N5,ih];rfl
def Ll (W:Wd P w K mg base N c):eG P w K mg base cY N.CS "holds_row" 1 (Qk N.CS):=W.d40.of λF=>by
 refine F.ok Qz (λvs H Q E h=>?_) (λa1 A O s H vs Q E hr h=>?_)
 ·let (p,pw,d,e,M,i,j,rfl,_):=h
  rfl
 ·intro X D
  let (p,pw,d,e,M,v,I,rfl,S,lw,t):=h
  refine {_,(aH (bF (bB (Ny rfl) (by rfl) W.G.any Oc (aA (cS (NB:=["low","high","behind","first"]) (n:=2) (js:=[2,1]) (g:=wU K 2 (fG (cI 0) (fG (cI 1) wV))) (cl:=[("first",s.heap.objs.size+1),("behind",s.heap.objs.size+1+1)]) rfl ⋯ ⋯ rfl
    (gB.of rfl (aW rfl (aW rfl bW)) (aW (λz=>nomatch z) (aW (λz=>nomatch z) (aW (λz=>nomatch z) (aW (λ_=>rfl) (aW (λ_=>rfl) bW))))) rfl
     (λk j h=>match k,j,h with|0,_,rfl=>rfl|1,_,rfl=>rfl|k+2,_,h=>absurd h (by simp)) (aW {.inl rfl,.inl rfl,rfl} (aW {.inl rfl,.inl rfl,rfl} bW)))
    (eR (bA (pv 0) rfl)) (λ_ s H fp pn=>dY (n:=2) rfl (aX (aO (i:=0) KL rfl (j0 rfl) (.inr rfl)) (aX (aO (i:=1) KL rfl (j0 rfl) (.inr rfl)) dA))) (λ_ s H fp pn=>dL)
    (λ_ s H fp pn=>eJ (dU fP (pv 0) (pv 3) (bQ _)) (fL (dU fP (pv 2) (pv 1) (bQ _))))) aF)))),?_}
  let sl:sizeLine=16777216:=sizeLine_eq
  let ((dx,h1),hw,hd):=id S
  let (f,J,Z):=id hw
  let lx:f.length=e.length:=Z.length
  refine {_,rfl,p,N.CS,dx,_,_,rfl,h1,W.S.cl,W.S.nW,Fy _ _,pw,rfl,{_,bN.of J},λC a=>?_}
  refine {λi m U Y=>m=f.length-i/\i<=f.length/\U=((e.take i).map λq=>decide (q.1<=v) && decide (I<=q.2)).map V.bl/\aN H Y/\Y C=some (.lst U),{_,rfl,i8 _,rfl,aJ a,aB},?_}
  rintro i m U Y ⟨rfl,hi,rfl,l,x⟩
  refine {x,?_}
  by_cases u:i<f.length
  ·refine .inr {{f,_,bN.of (l _ _ J),c8 u},?_}
   rintro y a0 ⟨rfl,hy⟩
   let ey:=hy f (bN.of (l _ _ J))
   let (q,hq,b',rfl,T):=aM Z ey
   let B:∀b:Bool,b=(decide (q.1<=v) && decide (I<=q.2))->((e.take i).map λq=>decide (q.1<=v) && decide (I<=q.2)).map V.bl++[V.bl b]=((e.take (i+1)).map λq=>decide (q.1<=v) && decide (I<=q.2)).map V.bl:=λb hb=>by
    rw [A2,hq,hb]
    simp
   refine {b',_,rfl,bN.of (l _ _ T),rfl,_,_,rfl,_,_,rfl,rfl,rfl,?_}
   refine eB ?_
   refine cH ?_
   refine {_,rfl,_,rfl,_,_,rfl,rfl,_,rfl,?_}
   refine gO (λL=>?_) (λL=>?_)
   ·let r:q.1<=v:=by simpa using L
    refine {_,rfl,_,rfl,_,_,rfl,rfl,x,by rw [f8,f8,l7];omega,_,?_,rfl,u,B _ (by rw [decide_eq_true r];rfl),λb o z=>?_,aB}
    ·omega
    ·rw [aC (aD z a)]
     exact l _ _ z
   ·let r:¬ q.1<=v:=by simpa using L
    refine {x,by rw [f8,f8,l7];omega,_,?_,rfl,u,B _ (by rw [decide_eq_false r];rfl),λb o z=>?_,aB}
    ·omega
    ·rw [aC (aD z a)]
     exact l _ _ z
  ·refine .inl {{f,bN.of (l _ _ J),∎},?_}
   let ei:e.take i=e:=o7 ∎
   rw [ei] at x
   refine {C,_,rfl,cZ.of x,?_}
   rw [Ug (β:=Int)]
   exact t _ l
def wG (ns:List Int):Lm.Ps:=ns.map λn=>(n,n+1)
def Lz {ns:List Int} {x:Int}:Lm.mem (wG ns) x↔x ∈ ns:=by
 constructor
 ·rintro⟨p,f,d,e⟩;let (n,a,rfl):=p9.mp f;have:x=n:=by
   let b:n<=x:=d;let g:x<n+1:=e;omega
  rw [this];exact a
 ·intro h;exact {(x,x+1),p9.mpr {(x),h,rfl},g9 _,by show x<x+1;omega}
theorem Bc:∀{ns:List Int},ns.Nodup->ns.Pairwise (·<=·)->Lm.Wk (wG ns)
 | [],_,_=>trivial
 | n::ns,nd,pw=>by
  let (f,e):=v6.mp pw
  let (b,g):=x9.mp nd
  refine {by show n<n+1;omega,λq d=>?_,Bc g e}
  let (k,a,rfl):=p9.mp d
  have h:=f k a
  have i:n≠k:=λz=>b (by rw [z];exact a)
  show n+1<=k
  omega
def HM:(["place"]:List Str).Nodup:=⋯
def Yy:aK ["self"] ["self"] (aG Ja):={rfl,rfl,rfl,⋯,rfl,⋯,⋯}
def Sl (W:Wd P w K mg base N c):eG P w K mg base cY N.CS "laid_work" 6 (Yg N.CS):=W.d41.of λF=>by
 refine F.ok Yy (λvs H Q E h=>?_) (λa3 A Y s H vs Q E hr h=>?_)
 ·let (p,pw,d,ws,J,M,rfl,_):=h
  rfl
 ·intro X D
  let (p,pw,d,ws,J,M,rfl,S,hk,nd,a1,t):=h
  refine {_,(aH (bF (aV (Ky W) hr aQ (aA (dW cX (by rfl) W.G.tuple fM (aA (cS (NB:=["place"]) (n:=1) (js:=[]) (g:=cI 0) (cl:=[]) rfl ⋯ ⋯ rfl (lW.all {(rfl),rfl,rfl,rfl}).2.2.2.1
    (jU (bB (rD rfl) (by rfl) W.G.sorted Oa (aA (bA (pv 0) rfl) aF))) (λ_ s H fp pn=>aO (i:=0) HM rfl (j0 rfl) (.inr rfl)) (λ_ s H fp pn=>dL)
    (λ_ s H fp pn=>cD (aA (pv 0) (aA (cE eK (pv 0) aY) aF)))) aF)) aF)))),?_}
  let sl:sizeLine=16777216:=sizeLine_eq
  let ((dx,h1),hw,hd):=id S
  refine {_,rfl,p,N.CS,dx,_,_,rfl,h1,W.S.cl,W.S.nR,jA _ _,d,J,M,rfl,hd,hk,∎,λl a hl U a0=>?_}
  let s0:aN H (aS H l (.lst (a.map V.int))):=aJ hl
  let u:(aS H l (.lst (a.map V.int))) l=some (.lst (a.map V.int)):=aB
  generalize aS H l (.lst (a.map V.int))=H1 at s0 u ⊢
  let ln:a.length=M.length:=U.length_eq
  let lm:(a.map V.int).length=a.length:=f8 ..
  refine {l,rfl,{_,cZ.of u},λf e=>?_}
  let a2:l≠f:=aD u e
  refine {λi m B I=>m=a.length-i/\i<=a.length/\cG I B (wG (a.take i))/\aN H1 I/\I f=some (.lst B),{_,rfl,i8 _,.nil,aJ e,aB},?_}
  rintro i m B I ⟨rfl,hi,O,k,L⟩
  refine {L,?_}
  let ly:B.length=i:=by
   have:=O.length;unfold wG at this;rw [f8,l7] at this;omega
  by_cases j:i<a.length
  ·refine .inr {{_,_,cZ.of (k _ _ u),c8 ∎},?_};rintro y a4 ⟨rfl,hy⟩;let ey:=hy _ (cZ.of (k _ _ u));let ez:y=V.int a[i]:=by
    rw [i7,c8 j] at ey;exact(Option.some.inj ey).symm
   subst ez;refine {rfl,?_};refine eB ?_;refine cH ?_;refine {_,rfl,_,rfl,_,_,rfl,rfl,by show 2<=sizeLine;decide,λt' Z=>?_};let nt:f≠t':=aD L Z;refine {by rw [aC nt];exact L,∎,_,?_,rfl,j,?_,λb o z=>?_,aB}
   ·omega
   ·unfold wG;rw [A2,c8 j,m9];exact fC (aL (λv q ⟨b,z1,z2⟩=>{b,z1,by rw [aC (aI z2 L (by intro z;cases z)),aC (aD z2 Z)];exact z2}) O) {t',rfl,by rw [aC nt.symm];exact aB}
   ·rw [aC (aD z e),aC (aD (k _ _ z) Z)];exact k _ _ z
  ·refine .inl {{_,cZ.of (k _ _ u),∎},?_};let ei:a.take i=a:=o7 ∎;rw [ei] at O;refine {f,_,rfl,.inl {cZ.of L,λr C=>?_}};let lo:(wG a).length=M.length:=by unfold wG;rw [f8];exact ln
   let sA:aN H (aS I r (.tup B)):=s0.trans (k.trans (aJ C));refine {r,wG a,rfl,{B,aB,O.same (aJ C)},Bc (U.nodup_iff.mpr nd) a0,∎,λr2 d2 H2 s2 T sd md ld=>?_};exact t r2 d2 H2 (sA.trans s2) T sd (λx=>(md x).trans (Lz.trans U.mem_iff)) ∎
def row (vf:Int->Int) (l:Int) (n:Nat):List V:=((List.range n).map λ(i:Nat)=>vf (l+(i:Int))).map V.int
def Rg (vf:Int->Int) (l:Int) (n:Nat):(row vf l n).length=n:=by
 unfold row;rw [f8,f8,x6]
def Jx (vf:Int->Int) (l:Int) (n:Nat):row vf l (n+1)=row vf l n++[V.int (vf (l+(n:Int)))]:=by
 unfold row;rw [O7,m9,m9];rfl
theorem Xa:∀(n:Nat) (l:Int) (ns:List Int),(∀i:Nat,i<n->l+(i:Int) ∈ ns)->n<=ns.length
 | 0,_,_,_=>i8 _
 | n+1,l,ns,h=>by
  have a:=h n ∎
  have b:=Xa n l (ns.erase (l+(n:Int))) λi d=>(List.mem_erase_of_ne ∎).mpr (h i ∎)
  rw [List.length_erase_of_mem a] at b
  have:=List.length_pos_of_mem a
  omega
def mW (vf:Int->Int) (H:Hp) (v:V) (q:Int × Int):Prop:=∃b c,v=.ref b/\H b=some (.tup [.int q.1,.ref c])/\H c=some (.tup (row vf q.1 (q.2-q.1).toNat))
structure Holds (vf:Int->Int) (kvs:List (cC × V)) (ns:List Int):Prop where
 key:kvs.map (·.1)=ns.map Sum.inl
 nd:ns.Nodup
 len:ns.length<128
 val:∀x ∈ ns,cV kvs (Sum.inl x:cC)=some (.int (vf x))
 lo:∀x ∈ ns,-(2 ^ 61)<=x/\x<2 ^ 61
inductive Aq (vf:Int->Int) (C:Addr) (vs:List V) (H:Hp) (Q:VK) (E0_:XK):Prop|mk (p pw d:Addr) (ws:Lm.Ps) (kvs:List (cC × V)) (l h:Int) (_:vs=[.ref p,.int l,.int h]) (_:cO C H p pw d ws kvs) (_:(∀x,l<=x->x<h->cV kvs (Sum.inl x:cC)=some (.int (vf x)))) (_:-(2 ^ 62)<=l) (_:l<h) (_:h<2 ^ 62) (_:h-l<=1000) (_:∀r H',aN H H'->H' r=some (.tup (row vf l (h-l).toNat))->Q (.ref r) H')
def El (vf:Int->Int) (C:Addr):Sp:=Aq vf C
def Hy (vf:Int->Int) (C:Addr):Sp:=λvs H Q _=>∃(p pw d:Addr) (ws:Lm.Ps) (kvs:List (cC × V)) (ns:List Int),vs=[.ref p]/\cO C H p pw d ws kvs/\Holds vf kvs ns /\
 ∀(r:Addr) (ds:Lm.Ps) (xs:List V) (H':Hp),aN H H'->H r=none->H' r=some (.lst xs)->Paired (mW vf H') xs ds->Lm.Sh ds->(∀x,Lm.mem ds x↔x ∈ ns)->ds.length<=ns.length->Q (.ref r) H'
def Es:aK ["self","low","high"] ["self","low","high"] (aG rY):={rfl,rfl,rfl,⋯,rfl,⋯,⋯}
def JH:(["place","self"]:List Str).Nodup:=⋯
def zO (vf:Int->Int) (W:Wd P w K mg base N c):eG P w K mg base cY N.CS "numbers_between" 1 (El vf N.CS):=W.d42.of λF=>by
 refine F.ok Es (λvs H Q E h=>?_) (λa0 A J s H vs Q E hr h=>?_)
 ·let (p,U,d,ws,I,l,h,rfl,_):=h
  rfl
 ·intro X D
  let (p,U,d,ws,I,a,f,rfl,S,Z,b1,b2,b3,b4,t):=h
  let hu:=Ms hr
  refine {_,(aH (bF (dW cX (by rfl) W.G.tuple fM (aA (cS (NB:=["place","self"]) (n:=1) (js:=[0]) (g:=cI 0) (te:=Vs (Pz K (iN 1) "results") (iN 0)) (cl:=[("self",s.heap.objs.size+1)]) rfl ⋯ ⋯ rfl
    (gB.of rfl (aW rfl bW) (aW (λz=>nomatch z) (aW (λz=>nomatch z) (aW (λ_=>rfl) bW))) rfl
     (λk j h=>match k,j,h with|0,_,rfl=>rfl|k+1,_,h=>absurd h (by simp)) (aW {.inl rfl,.inl rfl,rfl} bW))
    (jT rfl W.G.range (aA (pv 1) (aA (pv 2) aF))) (λ_ s H T O=>aO (i:=0) JH rfl (j0 rfl) (.inr rfl)) (λ_ s H T O=>dL)
    (λ_ s H T O=>Cr (by exact hu) (bA (pv 1) rfl) (pv 0) (λ_ _=>rfl))) aF)))),?_}
  let sl:sizeLine=16777216:=sizeLine_eq
  let ((dx,h1),hw,Y):=id S
  refine {_,rfl,_,rfl,a,f,rfl,{b1,∎,∎,b3},λq e=>?_}
  refine {λi m L M=>m=(f-a).toNat-i/\i<=(f-a).toNat/\L=row vf a i/\aN H M/\M q=some (.lst L),{_,rfl,i8 _,rfl,aJ e,aB},?_}
  rintro i m L M ⟨rfl,a1,rfl,x,v⟩
  refine {v,?_}
  by_cases u:i<(f-a).toNat
  ·refine .inr {u,?_}
   rintro y B ⟨rfl,rfl⟩
   refine lP ?_
   refine {rfl,?_}
   refine eB ?_
   refine cH ?_
   let ev:=Z (a+i) ∎ ∎
   let dg:kE B d (.int (a+i)) (some (.int (vf (a+i)))):=by
    have:=kE.k (k:=(Sum.inl (a+i):cC)) (x _ _ Y);rw [ev] at this;exact this
   refine {_,rfl,p,N.CS,dx,_,_,rfl,x _ _ h1,W.S.cl,W.S.nR,jA _ _,_,rfl,d,_,rfl,dg,v,by rw [Rg];omega,_,?_,rfl,u,?_,λb o z=>?_,aB}
   ·omega
   ·rw [Jx]
   ·rw [aC (aD z e)];exact x _ _ z
  ·refine .inl {by show (f-a).toNat<=i;omega,?_};let ei:i=(f-a).toNat:=∎;rw [ei] at v;refine {q,_,rfl,.inl {cZ.of v,λr C=>?_}};exact t r _ (x.trans (aJ C)) aB
def ES:aK ["self"] ["self"] (aG Wc):={rfl,rfl,rfl,⋯,rfl,⋯,⋯}
def FL:(["low","high","self"]:List Str).Nodup:=⋯
def AF (vf:Int->Int) (W:Wd P w K mg base N c):eG P w K mg base cY N.CS "all_results" 7 (Hy vf N.CS):=W.d38.of λF=>by
 refine F.ok ES (λvs H Q E h=>?_) (λa8 A a4 s H vs Q E hr h=>?_)
 ·let (p,pw,d,ws,L,ns,rfl,_):=h
  rfl
 ·intro X D
  let (p,pw,d,ws,L,ns,rfl,S,J,t):=h
  let a3:Room 1 _:=hr.mono (by decide)
  refine {_,(aH (bF (cS (NB:=["low","high","self"]) (n:=2) (js:=[0]) (g:=wU K 2 (fG (cI 0) (fG (cI 1) wV))) (cl:=[("self",s.heap.objs.size+1)]) rfl ⋯ ⋯ rfl
    (gB.of rfl (aW rfl bW) (aW (λz=>nomatch z) (aW (λz=>nomatch z) (aW (λz=>nomatch z) (aW (λ_=>rfl) bW)))) rfl
     (λk j h=>match k,j,h with|0,_,rfl=>rfl|k+1,_,h=>absurd h (by simp)) (aW {.inl rfl,.inl rfl,rfl} bW))
    (eR (cR (pv 0) W.S.cl (Sl W) hr aQ)) (λ_ s H fp pn=>dY (n:=2) rfl (aX (aO (i:=0) FL rfl (j0 rfl) (.inr rfl)) (aX (aO (i:=1) FL rfl (j0 rfl) (.inr rfl)) dA))) (λ_ s H fp pn=>dL)
    (λ_ s H fp pn=>cD (aA (pv 0) (aA (bD (pv 2) W.S.cl (zO vf W) a3 aQ (aA (pv 0) (aA (pv 1) aF))) aF)))))),?_}
  let sl:sizeLine=16777216:=sizeLine_eq
  let ((dx,h1),hw,hd):=id S
  refine {_,rfl,p,dx,_,rfl,h1,jX _ _ ⋯ ⋯,p,pw,d,ws,L,ns,rfl,S,J.key,J.nd,J.len,λr T H1 s1 a0 sd md ld=>?_}
  let (M,x1,x2):=id a0
  let a6:=J.len
  let lx:M.length=T.length:=x2.length
  refine {r,rfl,{_,bN.of x1},λa l=>?_}
  let G:H a=none:=s1.free l
  refine {λi m O H'=>m=M.length-i/\i<=M.length/\Paired (mW vf H') O (T.take i)/\aN H1 H'/\H' a=some (.lst O),{_,rfl,i8 _,.nil,aJ l,aB},?_}
  rintro i m O H' ⟨rfl,hi,hP,u,hA⟩
  refine {hA,?_}
  let ly:O.length=i:=by
   have:=hP.length;rw [l7] at this;omega
  by_cases a2:i<M.length
  ·refine .inr {{M,_,bN.of (u _ _ x1),c8 a2},?_};rintro y a7 ⟨rfl,hy⟩;let ey:=hy M (bN.of (u _ _ x1));let (q,hq,b',rfl,a5):=aM x2 ey;let Z:q ∈ T:=g6 hq;let a1:q.1<q.2:=sd.lt q Z;let C:∀x,q.1<=x->x<q.2->x ∈ ns:=λx Y z2=>(md x).mp {(q),Z,Y,z2};let cv:=Xa (q.2-q.1).toNat q.1 ns λi hi=>C _ ∎ ∎;let q1:=J.lo _ (C q.1 ∎ a1);let q2:=J.lo _ (C (q.2-1) ∎ ∎);refine {b',_,rfl,bN.of (u _ _ a5),rfl,_,_,rfl,_,_,rfl,rfl,rfl,?_};refine eB ?_;refine cH ?_;let S':=S.same (s1.trans u);refine {_,rfl,_,rfl,p,dx,_,rfl,u _ _ (s1 _ _ h1),jX _ _ ⋯ ⋯,_,rfl,_,rfl,p,pw,d,ws,L,q.1,q.2,rfl,S',λx Y z2=>J.val x (C x Y z2),∎,a1,∎,∎,λc H2 U hc=>?_};refine {by show 2<=sizeLine;decide,λt' ht=>?_};let B:H2 a=some (.lst O):=U _ _ hA;let nt:a≠t':=aD B ht;let nc:c≠a:=aI hc B (by intro z;cases z);let st:aN H2 (aS H2 t' (.tup [.int q.1,.ref c])):=aJ ht;let f:∀b I,H2 b=some (.tup I)->(aS (aS H2 t' (.tup [.int q.1,.ref c])) a (.lst (O++[.ref t']))) b=some (.tup I):=λb I e=>by
    rw [aC (aI e B (by intro z;cases z))];exact st _ _ e
   refine {by rw [aC nt];exact B,∎,_,?_,rfl,a2,?_,λb o z=>?_,aB}
   ·omega
   ·rw [A2,hq];exact fC (aL (λv q ⟨b,c,Y,z2,z3⟩=>{b,c,Y,f _ _ (U _ _ z2),f _ _ (U _ _ z3)}) hP) {t',c,rfl,by rw [aC nt.symm];exact aB,f _ _ hc}
   ·rw [aC (aD z l),aC (aD (U _ _ (u _ _ z)) ht)];exact U _ _ (u _ _ z)
  ·refine .inl {{M,bN.of (u _ _ x1),∎},?_};let ei:T.take i=T:=o7 ∎;rw [ei] at hP;exact t a T O H' (s1.trans u) G hA hP sd md ld
end
end Ls
namespace L2
open PySem PySem.Spec PyProof.Rows
end L2
namespace Ls
open PySem L2 PySem.W
def jB (l:Int) (ns:List Int) (i:Nat):List (cC × V):=(List.range i).map λ(k:Nat)=>((Sum.inl (l+(k:Int)):cC),V.int (ns.getD k 0))
def Nl (l:Int) (ns:List Int) (i:Nat):(jB l ns i).length=i:=by
 unfold jB;rw [f8,x6]
def sN (l:Int) (ns:List Int) (i:Nat):jB l ns (i+1)=jB l ns i++[(Sum.inl (l+(i:Int)),V.int (ns.getD i 0))]:=by
 unfold jB;rw [O7,m9];rfl
def jN {kvs:List (cC × V)} {k:cC}:cV kvs k=none↔∀e ∈ kvs,e.1≠k:=by
 unfold cV;rw [Option.map_eq_none_iff,List.find?_eq_none];constructor
 ·intro h e a z;exact h e a (by rw [z];simp)
 ·intro h e a z;exact h e a (of_decide_eq_true z)
def xD {kvs:List (cC × V)} {l:Int} {ns:List Int} {i:Nat} (h:cV kvs (Sum.inl (l+(i:Int)):cC)=none):cV (kvs++jB l ns i) (Sum.inl (l+(i:Int)):cC)=none:=by
 rw [jN] at h ⊢;intro e b;rcases j1.mp b with z|z
 ·exact h e z
 ·let (k,a,rfl):=p9.mp z;intro z;have:=Sum.inl.inj z;have:=C3.mp a;omega
inductive BU (C CT:Addr) (vs:List V) (H:Hp) (Q:VK) (E:XK):Prop|mk (p pw d t:Addr) (ws:Lm.Ps) (kvs:List (cC × V)) (l:Int) (ns:List Int) (_:vs=[.ref p,.int l,.ref t]) (_:cO C H p pw d ws kvs) (_:H t=some (.tup (ns.map V.int))) (_:ws.length<=1000) (_:ns.length<=1000) (_:kvs.length<=1000) (_:-(2 ^ 61)<=l) (_:l+ns.length<=2 ^ 61) (_:(∃q ∈ ws,q.1<=l/\l+ns.length<=q.2)) (_:((∀i:Nat,i<ns.length->cV kvs (Sum.inl (l+(i:Int)):cC)=none)->∀H',H' d=some (.dK (kvs++jB l ns ns.length))->(∀b o,H b=some o->b≠d->H' b=some o)->Q .non H')) (_:((∃i:Nat,i<ns.length/\cV kvs (Sum.inl (l+(i:Int)):cC)≠none)->∀H',aN H H'->E (.ref CT) none H'))
def EI (C CT:Addr):Sp:=BU C CT
def Dp {d:Int} (a:-(2 ^ 61)<=d) (h2:d<=2 ^ 61):Builtin.SmallTypes.fitsIndex d=true:=by
 unfold Builtin.SmallTypes.fitsIndex;rw [z8];exact {decide_eq_true ∎,decide_eq_true ∎}
section
variable {P:Program} {w:World} {K:Frag} {mg:Str->Option Value} {base:Heap} {N:Cn} {c:Nat->Addr}
def Bu:aK ["self","place","numbers","at","number"] ["self","place","numbers"] (aG Bz):={rfl,rfl,rfl,⋯,rfl,⋯,⋯}
def AB (W:Wd P w K mg base N c):eG P w K mg base (jK P w) N.CS "lay" 3 (EI N.CS (c 9)):=W.d36.of λ{f _} F=>by
 refine F.okE Bu (λvs H Q E h=>?_) (λa9 A L s H vs Q E hr h=>?_)
 ·let (p,pw,d,t,ws,m,l,r,rfl,_):=h
  rfl
 ·intro X D
  let (p,pw,d,t,ws,m,l,r,rfl,S,Y,lw,ln,lk,b1,b2,(q,hq,q1,q2),ac,no):=h
  let hu:=Ms hr
  let a0:Room 1 _:=hr.mono (by decide)
  let sl:sizeLine=16777216:=sizeLine_eq
  let lm:(r.map V.int).length=r.length:=f8 ..
  let k:∀H2,aN H H2->Wp (jC (jK P w) P w K mg base ["self","place","numbers","at","number"] "Sheet.lay" (aG Bz) f a9 A L s H E) ((bH Bz).drop 2) {λ_ H'=>Q .non H',Q,λ_ _=>False,λ_ _=>False} [some (.ref p),some (.int l),some (.ref t),none,none] H2:=λH2 a5=>by
   let gt:=a5 _ _ Y
   refine {_,aE (eD M8 rfl (jT rfl W.G.range (aA (pv 1) (aA (cE eK (pv 1) (bB bU (by rfl) W.G.len PySem.boot_len (aA (pv 2) aF))) aF))) (aO (i:=3) Bu.nd rfl (j0 rfl)) aU) aU,?_}
   refine {_,rfl,_,rfl,_,rfl,t,_,rfl,.inr (bN.of gt),_,_,rfl,rfl,l,_,rfl,{ ∎,∎,by rw [lm];omega,by rw [lm];omega},jW (lo:=l) (n:=(l+(((r.map V.int).length:Nat):Int)-l).toNat)
    (λi σ H3=>aN H H3/\(∃v,σ=[some (.ref p),some (.int l),some (.ref t),v,none])/\∀j:Nat,j<i->cV m (Sum.inl (l+(j:Int)):cC)=none) {a5,{_,rfl},λj hj=>absurd hj (B8 _)} ?_ ?_}
   ·rintro i σ H3 hi ⟨M,⟨v,rfl⟩,g⟩
    rw [lm] at hi
    let ((a4,g1),gw,gd):=S.same M
    refine {_,aH (bP (Kd (Zv hu (pv 3) (bA (pv 0) rfl))) (aH (fY rfl W.T.ex rfl W.T.mT dO (aA eI aF))) aZ),?_}
    refine {_,rfl,_,rfl,p,N.CS,a4,_,_,rfl,g1,W.S.cl,W.S.nR,jA _ _,d,_,rfl,kE.k (k:=Sum.inl (l+(i:Int))) gd,_,rfl,?_}
    cases e:cV m (Sum.inl (l+(i:Int)):cC) with
    | some v=>
     refine cH ?_
     exact {by show 1<=sizeLine;decide,no {i,∎,by rw [e];simp} _ M}
    | none=>
     refine bY ?_
     refine {M,{_,rfl},λj hj=>?_}
     by_cases aa:j<i
     ·exact g j aa
     ·have:j=i:=∎
      rw [this]
      exact e
   ·rintro σ H3 ⟨M,⟨v,rfl⟩,g⟩
    rw [lm] at g
    let y:∀j:Nat,j<r.length->cV m (Sum.inl (l+(j:Int)):cC)=none:=λj hj=>g j ∎
    let ((a4,g1),gw,gd):=S.same M
    let a1:=S.dc
    let (a6,U):=S.ob
    let a7:t≠d:=aI Y a1 (by intro z;cases z)
    let a2:p≠d:=aI U a1 (by intro z;cases z)
    refine {_,aH (eD M8 rfl (Cp (by rfl) W.G.enum sO (aA (pv 2) aF) (tX (pv 1) yZ)) (dY (n:=2) rfl (aX (aO (i:=3) Bu.nd rfl (j0 rfl)) (aX (aO (i:=4) Bu.nd rfl (j0 rfl)) dA))) aU),?_}
    refine {_,rfl,_,rfl,t,l,rfl,rfl,Dp b1 ∎,{_,bN.of (M _ _ Y)},wW (K:=K) (a:=t) (d:=l) (xs:=r.map V.int)
     (λi σ Z=>(∃u v,σ=[some (.ref p),some (.int l),some (.ref t),u,v])/\Z d=some (.dK (m++jB l r i))/\∀b o,H b=some o->b≠d->Z b=some o)
     {{_,_,rfl},by rw [gd];simp [jB],λb o e hb=>M _ _ e} (λi σ Z _ ⟨_,_,I⟩=>bN.of (I _ _ Y a7)) ?_ ?_}
    ·rintro i x σ Z t' hi ⟨⟨u,v',rfl⟩,B,I⟩ J
     let O:i<r.length:=by
      have:=(c9.mp hi).1;omega
     let ex:x=V.int (r.getD i 0):=by
      rw [i7,c8 O] at hi;rw [<- Option.some.inj hi,A3,c8 O];rfl
     subst ex;let a8:d≠t':=aD B J;let ad:p≠t':=aD (I _ _ U a2) J;refine {t',_,rfl,bN.of aB,rfl,_,_,rfl,_,_,rfl,rfl,?_};refine {_,aH (Cj hu (bA (pv 0) rfl) (pv 3) (pv 4) rfl),?_};refine {_,rfl,_,rfl,p,N.CS,a6,_,_,rfl,(by rw [aC ad];exact I _ _ U a2),W.S.cl,W.S.nR,jA _ _,_,rfl,d,_,rfl,Hb.k (k:=Sum.inl (l+(i:Int))) (by rw [aC a8];exact B) (by rw [i6,Nl];omega),?_};refine {{_,_,rfl},?_,λb o e hb=>?_}
     ·rw [aB,vY _ (xD (y i O)),q8,<- sN]
     ·rw [aC hb,aC (aD (I b o e hb) J)];exact I b o e hb
    ·rintro σ Z ⟨_,B,I⟩;rw [lm] at B;exact ac y Z B I
  refine Wp.ex {_,aE (bP (PW.pt (gE (bZ (bX (aV (dB W) a0 aQ (aA (pv 1) aF)))) (eQ (bZ (bX (aV (pK W) hr aQ (aA (pv 2) aF))))))) (aH pG) aZ) aU,?_};refine {_,rfl,_,rfl,.kn (.int _),_,rfl,bY ?_};refine {_,rfl,t,r,rfl,Y,ln,λH1 s1=>{_,rfl,bY ?_}};let S1:=S.same s1;let ((dx,h1),hw,hd):=id S1;let a3:H1 t=some (.tup (r.map V.int)):=s1 _ _ Y;refine {_,aE (bP (PW.pt (fX (gY (pv 2) (λ_=>rfl)) (eW (bZ (bX (bD (pv 0) W.S.cl (Ll W) a0 aQ (aA (pv 1) (aA (cE eK (pv 1) (bB bU (by rfl) W.G.len PySem.boot_len (aA (pv 2) aF))) aF)))))))) (aH pG) aZ) aU,?_};refine {_,rfl,!(r.map V.int).isEmpty,.inr (.inl {_,bN.of a3,rfl}),?_};let C:(ws.any λq=>decide (q.1<=l) && decide (l+(((r.map V.int).length:Nat):Int)<=q.2))=true:=List.any_eq_true.mpr {q,hq,by rw [decide_eq_true q1,decide_eq_true (by rw [lm];exact q2)];rfl};refine gO (λhc=>?_) (λhc=>bY (k H1 s1));refine {_,rfl,p,dx,_,rfl,h1,jX _ _ ⋯ ⋯,_,rfl,_,rfl,_,rfl,t,_,rfl,.inr (bN.of a3),_,_,rfl,rfl,p,pw,d,ws,m,l,_,rfl,S1,lw,λH2 s2=>{_,rfl,?_}};rw [C];exact bY (k H2 (s1.trans s2))
inductive BS (C:Addr) (vs:List V) (H:Hp) (Q:VK) (E0_:XK):Prop|mk (p pw d:Addr) (ws:Lm.Ps) (kvs:List (cC × V)) (x:V) (_:vs=[.ref p,x]) (_:cO C H p pw d ws kvs) (_:sX H x) (_:(fJ x=false->Q .non H)) (_:(∀i,x=.int i->Q ((cV kvs (Sum.inl i:cC)).getD .non) H))
def EF (C:Addr):Sp:=BS C
def EN:aK ["self","place"] ["self","place"] (aG Wb):={rfl,rfl,rfl,⋯,rfl,⋯,⋯}
def AA (W:Wd P w K mg base N c):eG P w K mg base cY N.CS "result_at" 2 (EF N.CS):=W.d37.of λF=>by
 refine F.ok EN (λo H Q E h=>?_) (λl A e s H o Q E g h=>?_)
 ·let (p,m,d,n,a,x,rfl,_):=h
  rfl
 ·intro X D
  let (p,m,d,n,a,x,rfl,S,q,j,b):=h
  let u:=Ms g
  refine {_,aE (bP (bZ (bX (aV (dB W) g aQ (aA (pv 1) aF)))) (aH (bF iV)) aZ) (aH (bF (Km u (bA (pv 0) rfl) (pv 1) (by constructor <;> rfl)))),?_}
  let ((t,r),v,f):=id S
  refine {_,rfl,_,rfl,q,_,rfl,?_}
  cases hx:fJ x with
  | false=>exact cH (j hx)
  | true=>
   refine bY ?_
   obtain⟨i,rfl⟩:∃i,x=.int i:=by
    cases x <;> first|exact {_,rfl} | cases hx
   exact {_,rfl,p,N.CS,t,_,_,rfl,r,W.S.cl,W.S.nR,jA _ _,d,rfl,.inl {a,.inl f},_,rfl,_,kE.k (k:=Sum.inl i) f,b i rfl}
abbrev pf (n l h m:Int) (lv:V):List (Str × V):=[("number",.int n),("low",.int l),("high",.int h),("mark",.int m),("lending",lv)]
def rF (C:Addr) (H:Hp) (p:Addr) (n l h m:Int) (lv:V):Prop:=∃dx,H p=some (.ins C dx (pf n l h m lv))
def lU (H:Hp):V->Option (Int × Str × Int)->Prop
 | .non,none=>True
 | .ref q,some (t,x,u)=>H q=some (.tup [.int t,.str x,.int u])
 | _,_=>False
theorem lU.non {H:Hp} {a:V} {o:Option (Int × Str × Int)} (h:lU H a o):decide (a=.non)=o.isNone:=by
 cases a <;> cases o <;> first|rfl|exact h.elim
def Rq {n l h m b:Int} {a:V}:cM "mark" (.int b) (pf n l h m a)=pf n l h b a:=by
 simp only [cM];rw [if_neg ⋯,if_neg ⋯,if_neg ⋯,if_pos trivial]
def tZ {n l h m:Int} {b a:V}:cM "lending" a (pf n l h m b)=pf n l h m a:=by
 simp only [cM];rw [if_neg ⋯,if_neg ⋯,if_neg ⋯,if_neg ⋯,if_pos trivial]
def Rs {n l h h' m:Int} {a:V}:cM "high" (.int h') (pf n l h m a)=pf n l h' m a:=by
 simp only [cM];rw [if_neg ⋯,if_neg ⋯,if_pos trivial]
def Zr {n l h m:Int} {a:V}:cM "lending" a (cM "mark" (.int m) (cM "high" (.int h) (cM "low" (.int l) (cM "number" (.int n) []))))=pf n l h m a:=rfl
inductive Os (C:Addr) (vs:List V) (H:Hp) (Q:VK) (E0_:XK):Prop|mk (p dx:Addr) (n l h:Int) (_:vs=[.ref p,.int n,.int l,.int h]) (_:H p=some (.ins C dx [])) (_:Q .non (aS H p (.ins C dx (pf n l h l .non))))
def Qh (C:Addr):Sp:=Os C
inductive Uq (C:Addr) (vs:List V) (H:Hp) (Q:VK) (E0_:XK):Prop|mk (p:Addr) (n l h m:Int) (lv:V) (_:vs=[.ref p]) (_:rF C H p n l h m lv) (_:Q (.int (h-m)) H)
def Hv (C:Addr):Sp:=Uq C
inductive Vf (C:Addr) (vs:List V) (H:Hp) (Q:VK) (E0_:XK):Prop|mk (p:Addr) (n l h m:Int) (lv:V) (_:vs=[.ref p]) (_:rF C H p n l h m lv) (_:Q (.bl (decide (m=h))) H)
def Ym (C:Addr):Sp:=Vf C
inductive Uw (C:Addr) (vs:List V) (H:Hp) (Q:VK) (E0_:XK):Prop|mk (p:Addr) (n l h m:Int) (lv:V) (_:vs=[.ref p]) (_:rF C H p n l h m lv) (_:Q (.bl (!decide (lv=.non))) H)
def Ye (C:Addr):Sp:=Uw C
inductive Ve (C:Addr) (vs:List V) (H:Hp) (Q:VK) (E0_:XK):Prop|mk (p:Addr) (n l h m:Int) (lv:V) (_:vs=[.ref p]) (_:rF C H p n l h m lv) (_:Q (.bl (decide (lv=.non) && !decide (m=h))) H)
def Yl (C:Addr):Sp:=Ve C
inductive Ux (C:Addr) (vs:List V) (H:Hp) (Q:VK) (E0_:XK):Prop|mk (p:Addr) (n l h m i:Int) (lv:V) (o:Option (Int × Str × Int)) (_:vs=[.ref p,.int i]) (_:rF C H p n l h m lv) (_:lU H lv o) (_:Q (.bl (o.any λt=>decide (t.2.2<i))) H)
def Yf (C:Addr):Sp:=Ux C
inductive Vd (C:Addr) (vs:List V) (H:Hp) (Q:VK) (E0_:XK):Prop|mk (p:Addr) (n l h m i:Int) (lv:V) (o:Option (Int × Str × Int)) (_:vs=[.ref p,.int i]) (_:rF C H p n l h m lv) (_:lU H lv o) (_:Q (.bl (o.any λt=>decide (t.1=i))) H)
def Yk (C:Addr):Sp:=Vd C
def Qx:aK ["self","number","low","high"] ["self","number","low","high"] (aG Ji):={rfl,rfl,rfl,⋯,rfl,⋯,⋯}
def Ld (W:Wd P w K mg base N c):eG P w K mg base cY N.CP "__init__" 1 (Qh N.CP):=W.d26.of λF=>by
 refine F.ok Qx (λg H Q E h=>?_) (λe A b s H g Q E i h=>?_)
 ·let (p,a,n,l,d,rfl,_):=h
  rfl
 ·intro X D
  let (p,a,n,l,d,rfl,f,t):=h
  refine {_,aE (cA (pv 0) (pv 1) rfl) (aE (cA (pv 0) (pv 2) rfl) (aE (cA (pv 0) (pv 3) rfl) (aE (cA (pv 0) (pv 2) rfl) (aH (cA (pv 0) iV rfl))))),?_}
  refine {_,rfl,_,rfl,p,N.CP,a,_,rfl,f,W.P.cl,W.P.nN,(by show 0<1000;decide),?_}
  refine {_,rfl,_,rfl,p,N.CP,a,_,rfl,aB,W.P.cl,W.P.nL,(by show 1<1000;decide),?_}
  refine {_,rfl,_,rfl,p,N.CP,a,_,rfl,aB,W.P.cl,W.P.nH,(by show 2<1000;decide),?_}
  refine {_,rfl,_,rfl,p,N.CP,a,_,rfl,aB,W.P.cl,W.P.nM,(by show 3<1000;decide),?_}
  refine {_,rfl,p,N.CP,a,_,rfl,aB,W.P.cl,W.P.nD,(by show 4<1000;decide),?_}
  rw [bO,bO,bO,bO,Zr]
  exact t
def Yu:aK ["self"] ["self"] (aG Jf):={rfl,rfl,rfl,⋯,rfl,⋯,⋯}
def uD (W:Wd P w K mg base N c):eG P w K mg base cY N.CP "rest" 1 (Hv N.CP):=W.d27.of λF=>by
 refine F.ok Yu (λg H Q E h=>?_) (λf A a s H g Q E j h=>?_)
 ·let (p,n,l,e,m,i,rfl,_):=h
  rfl
 ·intro X D
  let (p,n,l,e,m,i,rfl,(d,b),t):=h
  refine {_,aH (bF (cE kP (bA (pv 0) rfl) (bA (pv 0) rfl))),?_}
  exact {_,rfl,p,N.CP,d,_,_,rfl,b,W.P.cl,W.P.nH,rfl,_,rfl,p,N.CP,d,_,_,rfl,b,W.P.cl,W.P.nM,rfl,_,_,rfl,rfl,t}
def Zd:aK ["self"] ["self"] (aG Jk):={rfl,rfl,rfl,⋯,rfl,⋯,⋯}
def De (W:Wd P w K mg base N c):eG P w K mg base cY N.CP "is_done" 1 (Ym N.CP):=W.d28.of λF=>by
 refine F.ok Zd (λi H Q E h=>?_) (λg A b s H i Q E k h=>?_)
 ·let (p,n,l,a,m,j,rfl,_):=h
  rfl
 ·intro X D
  let (p,n,l,a,m,j,rfl,(f,d),t):=h
  refine {_,aH (bF (dU sB (bA (pv 0) rfl) (bA (pv 0) rfl) (bQ _))),?_}
  refine {_,rfl,p,N.CP,f,_,_,rfl,d,W.P.cl,W.P.nM,rfl,_,rfl,p,N.CP,f,_,_,rfl,d,W.P.cl,W.P.nH,rfl,rfl,?_}
  let e:decide (V.int m=V.int a)=decide (m=a):=by rw [oG,D7];simp
  rw [e]
  exact t
def Yw:aK ["self"] ["self"] (aG Jg):={rfl,rfl,rfl,⋯,rfl,⋯,⋯}
def lL (W:Wd P w K mg base N c):eG P w K mg base cY N.CP "is_lent" 1 (Ye N.CP):=W.d29.of λF=>by
 refine F.ok Yw (λf H Q E h=>?_) (λd A a s H f Q E j h=>?_)
 ·let (p,n,l,b,m,g,rfl,_):=h
  rfl
 ·intro X D
  let (p,n,l,b,m,g,rfl,(i,e),t):=h
  refine {_,aH (bF (dU Cu (bA (pv 0) rfl) iV (bQ _))),?_}
  exact {_,rfl,p,N.CP,i,_,_,rfl,e,W.P.cl,W.P.nD,rfl,rfl,t}
def Zc:aK ["self"] ["self"] (aG Jj):={rfl,rfl,rfl,⋯,rfl,⋯,⋯}
def Su (W:Wd P w K mg base N c):eG P w K mg base cY N.CP "is_free" 2 (Yl N.CP):=W.d30.of λF=>by
 refine F.ok Zc (λo H Q E h=>?_) (λk A g s H o Q E j h=>?_)
 ·let (p,n,l,f,m,a,rfl,_):=h
  rfl
 ·intro X D
  let (p,n,l,f,m,a,rfl,(d,b),t):=h
  refine {_,aH (bF (eJ (zB (cR (pv 0) W.P.cl (lL W) j aQ)) (fL (zB (cR (pv 0) W.P.cl (De W) j aQ))))),?_}
  refine {_,rfl,p,d,_,rfl,b,rfl,p,n,l,f,m,a,rfl,{(d),b},_,rfl,_,rfl,?_}
  refine gO (λi=>?_) (λi=>?_)
  ·let e:decide (a=.non)=true:=by simpa using i
   rw [e] at t
   exact {_,rfl,p,d,_,rfl,b,rfl,p,n,l,f,m,a,rfl,{(d),b},_,rfl,t}
  ·let e:decide (a=.non)=false:=by simpa using i
   rw [e] at t
   exact t
def Yx:aK ["self","moment"] ["self","moment"] (aG Jh):={rfl,rfl,rfl,⋯,rfl,⋯,⋯}
def Sk (W:Wd P w K mg base N c):eG P w K mg base cY N.CP "is_late" 2 (Yf N.CP):=W.d31.of λF=>by
 refine F.ok Yx (λy H Q E h=>?_) (λr A e s H y Q E v h=>?_)
 ·let (p,n,l,k,m,i,f,o,rfl,_):=h
  rfl
 ·intro X D
  let (p,n,l,k,m,i,f,o,rfl,(g,d),b,t):=h
  refine {_,aH (bF (eJ (cR (pv 0) W.P.cl (lL W) v aQ) (fL (dU Kv (pv 1) (dN dJ (bA (pv 0) rfl) aY (λ_ _=>rfl)) (bQ _))))),?_}
  refine {_,rfl,p,g,_,rfl,d,rfl,p,n,l,k,m,f,rfl,{(g),d},_,rfl,?_}
  rw [b.non]
  cases o with
  | none=>exact bY t
  | some z=>
   let (a,x,u):=z
   refine cH ?_
   cases f with
   | ref q=>exact {_,rfl,_,rfl,p,N.CP,g,_,_,rfl,d,W.P.cl,W.P.nD,rfl,q,_,_,_,rfl,rfl,bN.of b,bV (j:=2) rfl,_,_,rfl,rfl,t}
   | _=>exact b.elim
def Zb:aK ["self","token"] ["self","token"] (aG Wf):={rfl,rfl,rfl,⋯,rfl,⋯,⋯}
def Ss (W:Wd P w K mg base N c):eG P w K mg base cY N.CP "has_token" 2 (Yk N.CP):=W.d33.of λF=>by
 refine F.ok Zb (λB H Q E h=>?_) (λv A f s H B Q E y h=>?_)
 ·let (p,n,l,r,m,i,g,o,rfl,_):=h
  rfl
 ·intro X D
  let (p,n,l,r,m,i,g,o,rfl,(k,d),b,t):=h
  refine {_,aH (bF (eJ (cR (pv 0) W.P.cl (lL W) y aQ) (fL (dU sB (dN dJ (bA (pv 0) rfl) aY (λ_ _=>rfl)) (pv 1) (bQ _))))),?_}
  refine {_,rfl,p,k,_,rfl,d,rfl,p,n,l,r,m,g,rfl,{(k),d},_,rfl,?_}
  rw [b.non]
  cases o with
  | none=>exact bY t
  | some z=>
   let (a,x,u):=z
   refine cH ?_
   cases g with
   | ref q=>
    refine {_,rfl,p,N.CP,k,_,_,rfl,d,W.P.cl,W.P.nD,rfl,q,_,_,_,rfl,rfl,bN.of b,bV (j:=0) rfl,_,rfl,rfl,?_}
    let e:decide (V.int a=V.int i)=decide (a=i):=by rw [oG,D7];simp
    rw [e]
    exact t
   | _=>exact b.elim
def _root_.L2.Room.u1 {k:Nat} {A:Around} (a:Room k A):A.in1.units<cLine:=by have:=a.un;show A.units+1<_;omega
def xM:bootBuiltins "min"=some (.builtin "min"):=⋯
structure Pc where
 n:Int
 l:Int
 h:Int
 m:Int
 o:Option (Int × Str × Int)
def gP (C:Addr) (H:Hp) (p:Addr) (c:Pc):Prop:=∃lv,rF C H p c.n c.l c.h c.m lv/\lU H lv c.o
def rF.sameT {C:Addr} {H H':Hp} {p:Addr} {n l h m:Int} {a:V} (e:iG H H') (x:rF C H p n l h m a):rF C H' p n l h m a:=by
 let (b,q):=x;exact {b,e.at q}
def lU.sameT {H H':Hp} {a:V} {o:Option (Int × Str × Int)} (e:iG H H') (x:lU H a o):lU H' a o:=by
 cases a <;> cases o <;> first|exact x|exact e.at x
theorem gP.sameT {C:Addr} {H H':Hp} {p:Addr} {c:Pc} (e:iG H H') (x:gP C H p c):gP C H' p c:=by
 let (d,a,b):=x;exact {d,a.sameT e,b.sameT e}
def Pc.k (c:Pc):Int × Int:=(-(c.h-c.m),c.l)
def kB:Pos:=match bH mJ with
 | [.Return (some (.Call _ _ [⟨_,e,_⟩] _)) _]=>e.pos
 | _=>⟨0,0,0,0⟩
abbrev fF:Str:="greatest.<locals>.<lambda>"
inductive Oz (C T:Addr) (vs:List V) (H:Hp) (Q:VK) (E0_:XK):Prop|mk (l:Addr) (ps:List Addr) (cs:List Pc) (_:vs=[.ref l]) (_:H l=some (.lst (ps.map V.ref))) (_:Paired (gP C H) ps cs) (_:ps≠[]) (_:gD H T kB fF) (_:∀(i:Nat) (p:Addr) (c:Pc) (H':Hp),cT T H H'->gD H' T kB fF->ps[i]?=some p->cs[i]?=some c->(∀j c',cs[j]?=some c'->¬ kJ c'.k c.k/\(j<i->kJ c.k c'.k))->Q (.ref p) H')
def Qm (C T:Addr):Sp:=Oz C T
def yS:aK ["pieces"] ["pieces"] (aG mJ):={rfl,rfl,rfl,⋯,rfl,⋯,⋯}
def FJ:(["piece"]:List Str).Nodup:=⋯
def gG (W:Wd P w K mg base N c):jJ P w K mg base cY "greatest" 4 (Qm N.CP N.T1):=W.d12.of λF hT=>by
 let (_,_,_,GR,bR,mR):=(uD W).up 1
 refine F.ok yS (λvs H Q E h=>?_) (λA outer s H vs Q E hr h=>?_)
 ·let (l,ps,cs,rfl,_):=h
  rfl
 ·intro X D
  let (l,ps,cs,rfl,hl,pr,ne,tb,t):=h
  refine {_,aH (bF (Rt rfl hr.u1 (by rfl) W.G.min xM (aA (pv 0) aF) (tX (Zs (q:=fF) (clos:=[]) rfl hT W.M rfl rfl rfl trivial) yZ))),?_}
  refine {_,rfl,tb,λg c' ctv H1 kt nf tb1 hc1 hf1=>?_}
  let s1:iG H H1:=by
   let (qs,e,_):=tb;exact kt.toT e
  let hl1:=s1.at hl;refine {l,g,ps,λi=>((cs[i]?).map Pc.k).getD (0,0),λH'=>aN H1 H',rfl,rfl,aN.refl _,λH' j=>j _ _ hl1,ne,λi p hp=>?_,λi p H' (j:aN H1 H') hp best=>?_}
  ·let (pc,hpc,lv,hat,hld):=aM pr hp;let (dx,hdx):=hat.sameT s1;let ek:((cs[i]?).map Pc.k).getD (0,0)=pc.k:=by rw [hpc];rfl
   refine Th (k:=1) (N:=["piece"]) (p:="piece") (J:=λH'=>aN H1 H') (tb:=Xl (iO (KI (rU λi=>.int (-i)) (oX N.CP "rest" (Hv N.CP) [] E0 (iN 0) nJ)) (iO (Pz K (iN 0) "low") nJ))) (λH' j=>j _ _ hf1) (λH' j=>j _ _ hc1) id hr.in1 ?S ?B ?body ?J
   case S=>exact {rfl,rfl,rfl,⋯,rfl,⋯,⋯}
   case B=>exact λu=>rfl
   case body=>exact λs' H' hr'=>cD (aA (Wq Hl (wA (pv 0) W.P.cl mR GR hr' bR .nil aQ)) (aA (bA (pv 0) rfl) aF))
   intro H' (j:aN H1 H');let hp':=j _ _ hdx;refine {_,rfl,p,dx,_,rfl,hp',rfl,p,_,_,_,_,lv,rfl,{(dx),hp'},_,rfl,_,rfl,p,N.CP,dx,_,_,rfl,hp',W.P.cl,W.P.nL,rfl,by show 2<=sizeLine;decide,λr nr=>{{{r,rfl,?_},λb xs e=>?_},j.trans (aJ nr)}}
   ·rw [aB];show some (HO.tup [V.int (-(pc.h-pc.m)),V.int pc.l])=some (HO.tup [V.int (((cs[i]?).map Pc.k).getD (0,0)).1,V.int (((cs[i]?).map Pc.k).getD (0,0)).2]);rw [ek];rfl
   ·exact aJ nr _ _ e
  ·let (pc,hpc,_):=aM pr hp;refine t i p pc H' (kt.same j) (tb1.same j) hp hpc λj' c'' hj=>?_;let lj:j'<ps.length:=by
    have:=pr.length;have:=(c9.mp hj).1;omega
   let b:¬ kJ (((cs[j']?).map Pc.k).getD (0,0)) (((cs[i]?).map Pc.k).getD (0,0))/\(j'<i->kJ (((cs[i]?).map Pc.k).getD (0,0)) (((cs[j']?).map Pc.k).getD (0,0))):=best j' lj;rw [hj,hpc] at b;exact b
abbrev bf (pw sh d:Addr) (sp ev le nn nt mo:Int):List (Str × V):=[("work",.ref pw),("span",.int sp),("every",.int ev),("least",.int le),("sheet",.ref sh),("by_number",.ref d),("next_number",.int nn),("next_token",.int nt),("moment",.int mo)]
def kC (ps:List Addr) (cs:List Pc):List (cC × V):=(cs.zip ps).map λx=>((Sum.inl x.1.n:cC),V.ref x.2)
structure fT (CB CP:Addr) (H:Hp) (b pw sh d:Addr) (sp ev le nn nt mo:Int) (ps:List Addr) (cs:List Pc):Prop where
 ob:∃dx,H b=some (.ins CB dx (bf pw sh d sp ev le nn nt mo))
 dc:H d=some (.dK (kC ps cs))
 pc:Paired (gP CP H) ps cs
def dG {C:Addr} {H H':Hp} {ps:List Addr} {cs:List Pc} (e:iG H H') (h:Paired (gP C H) ps cs):Paired (gP C H') ps cs:=aL (λ_ _ x=>x.sameT e) h
def fT.sameT {i g:Addr} {H H':Hp} {b j a d:Addr} {sp f k nn nt mo:Int} {ps:List Addr} {cs:List Pc} (e:iG H H') (h:fT i g H b j a d sp f k nn nt mo ps cs):fT i g H' b j a d sp f k nn nt mo ps cs:=by
 let ((o,n),m,l):=h;exact {{o,e.at n},e.at m,dG e l}
def oF {C:Addr} {H:Hp} {ps:List Addr} {cs:List Pc} (h:Paired (gP C H) ps cs):(kC ps cs).length=cs.length:=by
 unfold kC;rw [f8,F9,h.length];omega
def zZ {ps:List Addr} {cs:List Pc} {i:Nat} {e:cC × V} (h:(kC ps cs)[i]?=some e):∃c p,cs[i]?=some c/\ps[i]?=some p/\e=(Sum.inl c.n,.ref p):=by
 unfold kC at h;rw [i7] at h;cases hz:(cs.zip ps)[i]? with
 | none=>rw [hz] at h;cases h
 | some x=>
  rw [hz] at h;cases h;let (b,a):=y6.mp hz;exact {_,_,b,a,rfl}
def hZ {α β:Type} {F:α->β->Prop} {xs:List α} {a:List β} (p:Paired F xs a) (z:β × α) (b:z ∈ a.zip xs):F z.2 z.1:=by
 induction p with
 | nil=>cases b
 | cons r _ t=>
  cases b with
  | head=>exact r
  | tail _ h=>exact t h
theorem gZ {α β:Type} {F:α->β->Prop}:∀{L:List (β × α)},(∀z ∈ L,F z.2 z.1)->Paired F (L.map (·.2)) (L.map (·.1))
 | [],_=>.nil
 | z::L,h=>.cons (h z (g8 ..)) (gZ λq a=>h q (d0 _ a))
abbrev fK:Stmt:=(bH pA).getD 5 (.Pass ⟨0,0,0,0⟩)
def uC:Pos:=fK.pos
abbrev fO:Str:="_law_right.<locals>._law_doing"
def lU.move {H H':Hp} {a:V} {o:Option (Int × Str × Int)} (f:∀q b,H q=some (.tup b)->H' q=some (.tup b)) (x:lU H a o):lU H' a o:=by
 cases a <;> cases o <;> first|exact x|exact f _ _ x
inductive xS (vs:List V) (H:Hp) (Q:VK) (E0_:XK):Prop|mk (a b c:Int) (_:vs=[.int a,.int b,.int c]) (_:1<=a) (_:1<=b) (_:1<=c) (_:b<=c) (_:∀H',aN H H'->Q .non H')
def yO:Sp:=xS
def Ue {pw sh d:Addr} {sp e b nn nt mo a:Int}:cM "next_number" (.int a) (bf pw sh d sp e b nn nt mo)=bf pw sh d sp e b a nt mo:=rfl
def Nn {C:Addr} {H:Hp} {ps:List Addr} {cs:List Pc} {p:Addr} {c:Pc} (h:Paired (gP C H) ps cs):kC (ps++[p]) (cs++[c])=kC ps cs++[(Sum.inl c.n,.ref p)]:=by
 unfold kC;rw [List.zip_append h.length.symm,m9];rfl
inductive BT (CB CP:Addr) (vs:List V) (H:Hp) (Q:VK) (E0_:XK):Prop|mk (b pw sh d:Addr) (sp ev le nn nt mo l h:Int) (ps:List Addr) (cs:List Pc) (_:vs=[.ref b,.int l,.int h]) (_:fT CB CP H b pw sh d sp ev le nn nt mo ps cs) (_:(∀c ∈ cs,c.n<nn)) (_:cs.length<1000) (_:∀(p:Addr) (H':Hp),(∀a o,H a=some o->a≠b->a≠d->H' a=some o)->H p=none->fT CB CP H' b pw sh d sp ev le (nn+1) nt mo (ps++[p]) (cs++[⟨nn,l,h,l,none⟩])->Q (.ref p) H')
def EG (CB CP:Addr):Sp:=BT CB CP
def vN:aK ["span","every","least","bound"] ["span","every","least"] (aG Cg):={rfl,rfl,rfl,⋯,rfl,⋯,⋯}
def wK (W:Wd P w K mg base N c):jJ P w K mg base cY "check_bounds" 2 yO:=W.d9.of λF=>by
 refine F.ok vN (λl H Q E h=>?_) (λk A f s H l Q E p h=>?_)
 ·let (a,b,c,rfl,_):=h
  rfl
 ·intro X D
  let (a,b,c,rfl,m,j,o,I,t):=h
  refine {_,aE (eD v4 rfl (eR (cD (aA (pv 0) (aA (pv 1) (aA (pv 2) aF))))) (aO (i:=3) vN.nd rfl (j0 rfl))
   (aH (bP (PW.pt (gE (bZ (bX (aV (dB W) p aQ (aA (pv 3) aF)))) (eQ (cN iF (pv 3) aY (bQ _))))) cQ aZ)))
   (aH (bP (cN iF (pv 2) (pv 1) (bQ _)) cQ aZ)),?_}
  refine {_,rfl,_,rfl,_,rfl,by show 3<=sizeLine;decide,λr B=>?_}
  have g:aN H (aS H r (.tup [.int a,.int b,.int c])):=aJ B
  have e:(aS H r (.tup [.int a,.int b,.int c])) r=some (.tup [.int a,.int b,.int c]):=aB
  generalize aS H r (.tup [.int a,.int b,.int c])=q at g e ⊢
  have x:∀v ∈ [V.int a,.int b,.int c],∃i,v=.int i/\1<=i:=aW {_,rfl,m} (aW {_,rfl,j} (aW {_,rfl,o} bW))
  refine {r,rfl,{_,bN.of e},lQ (K:=K) (a:=r) (xs:=[V.int a,.int b,.int c]) (λi σ G=>G=q/\∃u,σ=[some (.int a),some (.int b),some (.int c),u]) {rfl,_,rfl} (λi σ G _ h=>by rw [h.1];exact bN.of e) ?_ ?_}
  ·rintro i y σ G n ⟨rfl,u,rfl⟩
   let (z,rfl,C):=x y (g6 n)
   refine lP ?_
   refine {_,rfl,_,rfl,.kn (.int z),_,rfl,bY ?_}
   refine {_,rfl,_,_,rfl,rfl,_,rfl,?_}
   exact gO (λd=>absurd d (by simp;omega)) λ_=>{rfl,_,rfl}
  ·rintro σ G ⟨rfl,u,rfl⟩
   refine {_,rfl,_,rfl,_,_,rfl,rfl,_,rfl,?_}
   exact gO (λd=>absurd d (by simp;omega)) λ_=>t _ g
def Vw:aK ["self","low","high","piece"] ["self","low","high"] (aG Jm):={rfl,rfl,rfl,⋯,rfl,⋯,⋯}
def Lf (W:Wd P w K mg base N c):eG P w K mg base cY N.CB "new_piece" 3 (EG N.CB N.CP):=W.d61.of λ{f _} F=>by
 let (_,_,_,GI,bI,MK):=(Ld W).mk' W.iP 1
 refine F.ok Vw (λvs H Q E h=>?_) (λO A U s H vs Q E hr h=>?_)
 ·let (b,pw,sh,d,sp,ev,le,j,nt,mo,l,G,ps,cs,rfl,_):=h
  rfl
 ·intro X D
  let (b,pw,sh,d,sp,ev,le,j,nt,mo,l,G,ps,cs,rfl,hb,lt,ln,t):=h
  let hu:(A.deeper (PyProof.Rows.envOfC "Book.new_piece" (aG Jm) s.heap.objs.size f O)).units+1<cLine:=by have:=hr.un;omega
  refine {_,aE (dX (i:=3) Vw.nd rfl (j0 rfl) (lJ MK GI hr rfl W.P.mgC bI .nil aQ (aA (bA (pv 0) rfl) (aA (pv 1) (aA (pv 2) aF)))))
   (aE (Cj hu (bA (pv 0) rfl) (bA (pv 3) rfl) (pv 3) rfl)
   (aE (fU (pv 0) aY pX) (aH (bF (pv 3))))),?_}
  let sl:sizeLine=16777216:=sizeLine_eq
  let ((C,g),m,y):=id hb
  refine {_,rfl,b,N.CB,C,_,_,rfl,g,W.B.cl,W.B.nN,rfl,_,rfl,_,rfl,λx r J ny ne=>{x,r,j,l,G,rfl,aB,rfl,?_}}
  rw [bO]
  let u:∀a o,H a=some o->(aS (aS H r (.own x)) x (.ins N.CP r (pf j l G l .non))) a=some o:=λa o e=>by
   rw [aC (aD e J),aC (aD e ny)]
   exact e
  let M:(aS (aS H r (.own x)) x (.ins N.CP r (pf j l G l .non))) x=some (.ins N.CP r (pf j l G l .non)):=aB
  generalize aS (aS H r (.own x)) x (.ins N.CP r (pf j l G l .non))=H2 at u M ⊢
  refine {_,rfl,_,rfl,b,N.CB,C,_,_,rfl,u _ _ g,W.B.cl,W.B.nB,rfl,_,rfl,x,N.CP,r,_,_,rfl,M,W.P.cl,W.P.nN,rfl,d,_,rfl,Hb.k (k:=(Sum.inl j:cC)) (u _ _ m) (by rw [oF y];omega),?_}
  rw [vY _ (jN.mpr λe he=>?_)]
  rotate_left
  ·let (i,hi):=j9.mp he
   let (c,p,h1,_,rfl):=zZ hi
   have:=lt c (g6 h1)
   intro z
   let z:(Sum.inl c.n:cC)=Sum.inl j:=z
   cases z
   omega
  let v:b≠d:=aI g m (by intro z;cases z)
  let S:b≠x:=aD g J
  let T:d≠x:=aD m J
  refine {_,rfl,b,N.CB,C,_,_,rfl,(by rw [aC v];exact u _ _ g),W.B.cl,W.B.nN,rfl,_,_,rfl,rfl,C,_,(by rw [aC v];exact u _ _ g),(by show 9<1000;decide),?_}
  let I:∀a o,H2 a=some o->a≠b->a≠d->(aS (aS H2 d (.dK (kC ps cs++[((Sum.inl j:cC),V.ref x)]))) b (.ins N.CB C (cM "next_number" (.int (j+1)) (bf pw sh d sp ev le j nt mo)))) a=some o:=λa o e L Z=>by
   rw [aC L,aC Z]
   exact e
  refine {_,rfl,t x _ (λa o e L Z=>I a o (u a o e) L Z) J {{C,by rw [aB,Ue]},by rw [aC v.symm,aB,Nn y],?_}}
  refine fC (aL (λp c ⟨lv,⟨dp,ha⟩,hl⟩=>?_) y) {.non,{r,I _ _ M S.symm T.symm},trivial}
  let Y:p≠b:=λz=>by
   subst z
   rw [g] at ha
   have:=Option.some.inj ha
   injection this with _ _ e
   exact absurd e (by intro z;cases z)
  exact {lv,{dp,I _ _ (u _ _ ha) Y (aI ha m (by intro z;cases z))},hl.move λq ys h=>I _ _ (u _ _ h) (aI h g (by intro z;cases z)) (aI h m (by intro z;cases z))}
def uB:Nat->Lm.Ps->List Pc
 | _,[]=>[]
 | k,q::t=>⟨k,q.1,q.2,q.1,none⟩::uB (k+1) t
theorem wD:∀(t:Lm.Ps) (k:Nat) (q:Int × Int),uB k (t++[q])=uB k t++[{((k+t.length:Nat):Int),q.1,q.2,q.1,none}]
 | [],k,q=>rfl
 | p::t,k,q=>by
  show _::uB (k+1) (t++[q])=_::(uB (k+1) t++_)
  rw [wD t (k+1) q]
  let e:k+1+t.length=k+(p::t).length:=by rw [j4];omega
  rw [e]
theorem Ct:∀(t:Lm.Ps) (k:Nat),(uB k t).length=t.length
 | [],_=>rfl
 | p::t,k=>by
  show (uB (k+1) t).length+1=t.length+1
  rw [Ct t]
theorem Ku:∀(t:Lm.Ps) (k:Nat),∀c ∈ uB k t,c.n<((k+t.length:Nat):Int)
 | [],_,c,hc=>absurd hc (by simp [uB])
 | p::t,k,c,hc=>by
  rcases g7.mp hc with rfl|hc
  ·show (k:Int)<_
   rw [j4]
   omega
  ·have:=Ku t (k+1) c hc
   rw [j4]
   omega
inductive Ow (CB CS CP:Addr) (vs:List V) (H:Hp) (Q:VK) (E0_:XK):Prop|mk (p dx q:Addr) (a:Lm.Ps) (sp ev le:Int) (_:vs=[.ref p,.ref q,.int sp,.int ev,.int le]) (_:H p=some (.ins CB dx [])) (_:bS H q a) (_:Lm.Wk a) (_:a.length<=900) (_:1<=sp) (_:1<=ev) (_:1<=le) (_:ev<=le) (_:∀(sh spw sd d:Addr) (ws:Lm.Ps) (ps:List Addr) (H':Hp),(∀b o,H b=some o->b≠p->H' b=some o)->H d=none->H sd=none->sd≠d->cO CS H' sh spw sd ws []->Lm.Sh ws->(∀x,Lm.mem ws x↔Lm.mem a x)->ws.length<=a.length ->
  (∀r ∈ ps,H r=none)->fT CB CP H' p q sh d sp ev le a.length 0 0 ps (uB 0 a)->Q .non H')
def Qj (CB CS CP:Addr):Sp:=Ow CB CS CP
abbrev w4 (q:Addr) (sp ev le:Int):List (Str × V):=[("work",.ref q),("span",.int sp),("every",.int ev),("least",.int le)]
def f4 {q:Addr} {sp b a:Int}:cM "least" (.int a) (cM "every" (.int b) (cM "span" (.int sp) (cM "work" (.ref q) [])))=(w4 q sp b a):=rfl
def f9 {q sh d:Addr} {sp b a:Int}:cM "moment" (.int 0) (cM "next_token" (.int 0) (cM "next_number" (.int 0) (cM "by_number" (.ref d) (cM "sheet" (.ref sh) (w4 q sp b a)))))=bf q sh d sp b a 0 0 0:=rfl
def tN:aK ["self","work","span","every","least","low","high"] ["self","work","span","every","least"] (aG pD):={rfl,rfl,rfl,⋯,rfl,⋯,⋯}
def Lj (W:Wd P w K mg base N c):eG P w K mg base cY N.CB "__init__" 8 (Qj N.CB N.CS N.CP):=W.d43.of λ{f _} F=>by
 let (_,_,_,GI,bI,MK):=(So W).mk' W.iS 6
 refine F.ok tN (λvs H Q E h=>?_) (λZ A ac s H vs Q E hr h=>?_)
 ·let (p,g,q,a,k,l,j,rfl,_):=h
  rfl
 ·intro X D
  let (p,g,q,a,k,l,j,rfl,hp,hw,wa,la,b1,b2,b3,b4,t):=h
  let ae:Room 2 (A.deeper (PyProof.Rows.envOfC "Book.__init__" (aG pD) s.heap.objs.size f Z)):=hr.mono (by decide)
  let ah:Room 3 (A.deeper (PyProof.Rows.envOfC "Book.__init__" (aG pD) s.heap.objs.size f Z)):=hr.mono (by decide)
  let aa:Room 4 (A.deeper (PyProof.Rows.envOfC "Book.__init__" (aG pD) s.heap.objs.size f Z)):=hr.mono (by decide)
  refine {_,aE (cF (aV (pM W) aa aQ (aA (pv 1) aF)))
   (aE (cF (aV (wK W) ae aQ (aA (pv 2) (aA (pv 3) (aA (pv 4) aF)))))
   (aE (cA (pv 0) (pv 1) rfl) (aE (cA (pv 0) (pv 2) rfl) (aE (cA (pv 0) (pv 3) rfl) (aE (cA (pv 0) (pv 4) rfl)
   (aE (cA (pv 0) (lJ MK GI hr rfl W.S.mgC bI .nil aQ (aA (pv 1) aF)) rfl)
   (aE (cA (pv 0) wB rfl) (aE (cA (pv 0) aY rfl) (aE (cA (pv 0) aY rfl) (aE (cA (pv 0) aY rfl)
   (aH (eD v4 rfl (eR (pv 1)) (dY (n:=2) rfl (aX (aO (i:=5) tN.nd rfl (j0 rfl)) (aX (aO (i:=6) tN.nd rfl (j0 rfl)) dA)))
    (aH (cF (bD (pv 0) W.B.cl (Lf W) ah aQ (aA (pv 5) (aA (pv 6) aF))))))))))))))))),?_}
  let sl:sizeLine=16777216:=sizeLine_eq
  refine {_,rfl,q,a,rfl,hw,wa,∎,?_}
  refine {_,rfl,_,rfl,_,rfl,k,l,j,rfl,b1,b2,b3,b4,λH1 s1=>?_}
  refine {_,rfl,_,rfl,p,N.CB,g,_,rfl,s1 _ _ hp,W.B.cl,W.B.nW,(by show 0<1000;decide),?_}
  refine {_,rfl,_,rfl,p,N.CB,g,_,rfl,aB,W.B.cl,W.B.nS,(by show 1<1000;decide),?_}
  refine {_,rfl,_,rfl,p,N.CB,g,_,rfl,aB,W.B.cl,W.B.nE,(by show 2<1000;decide),?_}
  refine {_,rfl,_,rfl,p,N.CB,g,_,rfl,aB,W.B.cl,W.B.nL,(by show 3<1000;decide),?_}
  rw [bO,bO,bO,f4]
  let k2:∀b o,H b=some o->b≠p->(aS H1 p (.ins N.CB g (w4 q k l j))) b=some o:=λb o e n=>by rw [aC n];exact s1 _ _ e
  let e2:(aS H1 p (.ins N.CB g (w4 q k l j))) p=some (.ins N.CB g (w4 q k l j)):=aB
  let n2:∀b,(aS H1 p (.ins N.CB g (w4 q k l j))) b=none->H b=none:=λb e=>by
   cases z:H b with
   | none=>rfl
   | some o=>
    by_cases y:b=p
    ·rw [y,aB] at e
     cases e
    ·rw [k2 b o z y] at e
     cases e
  generalize aS H1 p (.ins N.CB g (w4 q k l j))=H2 at k2 e2 n2 ⊢
  let a3:bS H2 q a:=by
   let (xs,J,x2):=hw;refine {xs,k2 _ _ J (aI J hp (by intro z;cases z)),aL (λv r ⟨b,z1,z2⟩=>{b,z1,k2 _ _ z2 (aI z2 hp (by intro z;cases z))}) x2}
  refine {_,rfl,λx dy nx ny ne=>{x,dy,q,a,rfl,aB,?_,wa,∎,λa7 sd ws L a9 S sh mm ll kp=>{rfl,?_}}}
  ·exact a3.same λb o e=>by rw [aC (aD e nx),aC (aD e ny)];exact e
  let k3:∀b o,H2 b=some o->L b=some o:=λb o e=>kp b o (by rw [aC (aD e nx),aC (aD e ny)];exact e) (aD e nx);let a6:H2 sd=none:=by
   cases z:H2 sd with
   | none=>rfl
   | some o=>
    rw [aC (aD z nx),aC (aD z ny),z] at a9;cases a9
  let a2:=a3.same k3;refine {_,rfl,p,N.CB,g,_,rfl,k3 _ _ e2,W.B.cl,W.B.nH,(by show 4<1000;decide),?_};intro d nd;let U:p≠d:=λz=>by
   rw [<- z,aB] at nd;cases nd
  let m:L d=none:=by rw [aC U.symm] at nd;exact nd
  let a0:H2 d=none:=by
   cases z:H2 d with
   | none=>rfl
   | some o=>rw [k3 _ _ z] at m;cases m
  refine {_,rfl,p,N.CB,g,_,rfl,(by rw [aC U];exact aB),W.B.cl,W.B.nB,(by show 5<1000;decide),?_};refine {_,rfl,p,N.CB,g,_,rfl,aB,W.B.cl,W.B.nN,(by show 6<1000;decide),?_};refine {_,rfl,p,N.CB,g,_,rfl,aB,W.B.cl,W.B.nT,(by show 7<1000;decide),?_};refine {_,rfl,p,N.CB,g,_,rfl,aB,W.B.cl,W.B.nM,(by show 8<1000;decide),?_};rw [bO,bO,bO,f9];let k5:∀b o,L b=some o->b≠p->(aS (aS (aS L p (.ins N.CB g (cM "sheet" (.ref x) (w4 q k l j)))) d (.dK [])) p (.ins N.CB g (bf q x d k l j 0 0 0))) b=some o:=λb o e n=>by
   rw [aC n,aC (aD e m),aC n];exact e
  let e5:(aS (aS (aS L p (.ins N.CB g (cM "sheet" (.ref x) (w4 q k l j)))) d (.dK [])) p (.ins N.CB g (bf q x d k l j 0 0 0))) p=some (.ins N.CB g (bf q x d k l j 0 0 0)):=aB;let d5:(aS (aS (aS L p (.ins N.CB g (cM "sheet" (.ref x) (w4 q k l j)))) d (.dK [])) p (.ins N.CB g (bf q x d k l j 0 0 0))) d=some (.dK []):=by rw [aC U.symm,aB]
  generalize aS (aS (aS L p (.ins N.CB g (cM "sheet" (.ref x) (w4 q k l j)))) d (.dK [])) p (.ins N.CB g (bf q x d k l j 0 0 0))=H5 at k5 e5 d5 ⊢;let C:L p=some (.ins N.CB g (w4 q k l j)):=k3 _ _ e2;let O:sd≠d:=λz=>by
   have:=S.dc;rw [z,m] at this;cases this
  let mv:∀G:Hp,(∀b o,L b=some o->b≠p->b≠d->G b=some o)->bS G q a/\cO N.CS G x a7 sd ws []:=λG I=>by
   let wm:∀r a1,bS L r a1->bS G r a1:=λr a1 ⟨xs,J,x2⟩=>{xs,I _ _ J (aI J C (by intro z;cases z)) (aD J m),aL (λv r ⟨b,z1,z2⟩=>{b,z1,I _ _ z2 (aI z2 C (by intro z;cases z)) (aD z2 m)}) x2};let ((dz,a5),ag,a8):=S;let ai:x≠p:=λz=>by
    rw [z,e2] at nx;cases nx
   exact {wm _ _ a2,{dz,I _ _ a5 ai (aD a5 m)},wm _ _ ag,I _ _ a8 (aI a8 C (by intro z;cases z)) O}
  let (xs,J,x2):=id a2;let lx:xs.length=a.length:=x2.length;refine {_,rfl,q,rfl,{_,bN.of (k5 _ _ J (aI J C (by intro z;cases z)))},lQ (K:=K) (a:=q) (xs:=xs) (λi σ G=>(∃T:List Addr,(∀r ∈ T,H r=none)/\fT N.CB N.CP G p q x d k l j i 0 0 T (uB 0 (a.take i)))/\(∀b o,L b=some o->b≠p->b≠d->G b=some o)/\∃u v,σ=[some (.ref p),some (.ref q),some (.int k),some (.int l),some (.int j),u,v])
   {{[],λ_ z=>(nomatch z),{(g),e5},d5,.nil},λb o e n _=>k5 b o e n,_,_,rfl} (λi σ G _ ⟨_,I,_⟩=>bN.of (I _ _ J (aI J C (by intro z;cases z)) (aD J m))) ?_ ?_}
  ·rintro i y σ G hi ⟨⟨T,fp,hb⟩,I,u,v,rfl⟩;let (c,hc,r,rfl,Y):=aM x2 hi;let il:i<a.length:=(c9.mp hc).1;let lt:(a.take i).length=i:=by rw [l7];omega
   refine {r,_,rfl,bN.of (I _ _ Y (aI Y C (by intro z;cases z)) (aD Y m)),rfl,_,_,rfl,_,_,rfl,rfl,?_};let (dz,a4):=hb.ob;refine {_,rfl,p,dz,_,rfl,a4,rfl,_,rfl,_,rfl,p,q,x,d,k,l,j,_,0,0,c.1,c.2,T,_,rfl,hb,λc' af=>?_,?_,λp' G' kf M ad=>?_}
   ·have:=Ku _ _ c' af;rw [lt] at this;omega
   ·rw [Ct,lt];omega
   ·let hn:H p'=none:=by
     cases e:H p' with
     | none=>rfl
     | some o=>
      by_cases z:p'=p
      ·rw [z,a4] at M;cases M
      ·rw [I _ _ (k3 _ _ (k2 _ _ e z)) z (aD e (n2 _ a0))] at M;cases M
    refine {{T++[p'],λr hr=>(j1.mp hr).elim (fp r) λz=>by rw [l9.mp z];exact hn,?_},λb o e n1 n2=>kf b o (I b o e n1 n2) n1 n2,_,_,rfl};let e:uB 0 (a.take (i+1))=uB 0 (a.take i)++[{(i:Int),c.1,c.2,c.1,none}]:=by
     rw [A2,hc];show uB 0 (a.take i++[c])=_;rw [wD,lt];simp
    rw [e];exact ad
  ·rintro σ G ⟨⟨T,fp,hb⟩,I,u,v,rfl⟩;rw [lx,o7 (d7 _)] at hb;have:=mv G I;exact t x a7 sd d ws T G (λb o e n=>I b o (k3 _ _ (k2 b o e n)) n (aD (k2 b o e n) a0)) (n2 _ a0) (n2 _ a6) O this.2 sh mm ll fp hb
def Pj (CB:Addr) (H:Hp) (b pw sh d:Addr) (sp ev le nn nt mo:Int):Prop:=∃dx,H b=some (.ins CB dx (bf pw sh d sp ev le nn nt mo))
inductive BQ (CB CS:Addr) (sp':Sp) (vs:List V) (H:Hp) (Q:VK) (E:XK):Prop|mk (b pw sh d pw' d':Addr) (sp ev le nn nt mo:Int) (ws:Lm.Ps) (kvs:List (cC × V)) (_:vs=[.ref b]) (_:Pj CB H b pw sh d sp ev le nn nt mo) (_:cO CS H sh pw' d' ws kvs) (_:sp' [.ref sh] H Q E)
def Vt (CB CS:Addr) (sp':Sp):Sp:=BQ CB CS sp'
inductive Ot (CB:Addr) (vs:List V) (H:Hp) (Q:VK) (E0_:XK):Prop|mk (b pw sh d:Addr) (sp ev le nn nt mo i:Int) (_:vs=[.ref b,.int i]) (_:Pj CB H b pw sh d sp ev le nn nt mo) (_:mo<=i) (_:Q .non H)
def tI (CB:Addr):Sp:=Ot CB
def Yz:aK ["self"] ["self"] (aG Jo):={rfl,rfl,rfl,⋯,rfl,⋯,⋯}
def Sn {f:Addr} {l:FuncData} {sp':Sp} {k:Nat} (F:rH K "all_results" "Book.all_results" Jo f l) (z:eG P w K mg base cY N.CS "all_results" k (λa H Q _=>sp' a H Q E0)) (W:Wd P w K mg base N c):bM P w K mg base cY (k+1) f l ["self"] (Vt N.CB N.CS λa H Q _=>sp' a H Q E0):=by
 refine F.ok Yz (λa H Q E h=>?_) (λu A e s H a Q E y h=>?_)
 ·let (b,p,j,d,g,n,I,o,q,G,L,r,v,i,rfl,_):=h;rfl
 ·intro X D;let (b,p,j,d,g,n,I,o,q,G,L,r,v,i,rfl,(C,M),x,t):=h;let (J,m):=x.ob;refine {_,aH (bF (cR (bA (pv 0) rfl) W.S.cl z y aQ)),?_};exact {_,rfl,b,N.CB,C,_,_,rfl,M,W.B.cl,W.B.nH,rfl,j,J,_,rfl,m,jX _ _ ⋯ ⋯,t}
def EO:aK ["self","moment"] ["self","moment"] (aG vS):={rfl,rfl,rfl,⋯,rfl,⋯,⋯}
section
variable (W:Wd P w K mg base N c)
include W
end
def rR {H d:Hp} {a:Addr} {o:Obj} {u:HO} (e:H a=some u) (s:aN (aS H a (.frz o u)) d):aN H (aS d a u):=λb v h=>by
 by_cases z:b=a
 ·subst z
  rw [e] at h
  cases h
  exact aB
 ·rw [aC z]
  exact s b v (by rw [aC z];exact h)
def Na {H:Hp} {a b:Addr} {u o:HO} (e:H a=some u) (n:(aS H a o) b=none):H b=none/\b≠a:=by
 let d:b≠a:=λz=>by
  rw [z,aB] at n;cases n
 rw [aC d] at n;exact {(n),d}
def Pc.free (c:Pc):Bool:=c.o.isNone && !decide (c.m=c.h)
def gW:aK ["self","moment","piece","free","lent","late"] ["self","moment"] (aG gX):={rfl,rfl,rfl,⋯,rfl,⋯,⋯}
def eN (x:Str):Prop:=1<=x.length/\x.length<=8/\x.cps.all (·<128)=true/\∀(i:Nat) c,x.cps[i]?=some c->(!decide ((⟨#[c]⟩:Str).cps.toList<("a":Str).cps.toList))=true/\(!decide (("z":Str).cps.toList<(⟨#[c]⟩:Str).cps.toList))=true
def yJ:Sp:=λvs H Q _=>∃x,vs=[.str x]/\eN x/\∀H',aN H H'->Q (.bl true) H'
def yN:Sp:=λvs H Q _=>∃x,vs=[.str x]/\eN x/\∀H',aN H H'->Q .non H'
def AH:(["sign"]:List Str).Nodup:=⋯
def Nz:bootBuiltins "str"=some (.type "str"):=⋯
def eU {b:Bool} {A B:Prop} (h:b=true) (x:A):if b=true then A else B:=by rw [if_pos h];exact x
def gA {b:Bool} {A B:Prop} (h:b=false) (x:B):if b=true then A else B:=by rw [if_neg (by rw [h];simp)];exact x
def Ii:aK ["thing"] ["thing"] (aG By):={rfl,rfl,rfl,⋯,rfl,⋯,⋯}
def mY (W:Wd P w K mg base N c):jJ P w K mg base cY "is_worker" 1 yJ:=W.d10.of λF=>by
 refine F.ok Ii (λI H Q E h=>?_) (λM A k s H I Q E U h=>?_)
 ·let (x,rfl,_):=h
  rfl
 ·intro X D
  let (x,rfl,(T,Y,O,w4),t):=h
  refine {_,aE (bP (PW.pt (gE (bZ (bX (bB dE (by rfl) W.G.isi fI (aA (pv 0) (aA (gF (v:=.ty "str") (by rfl) W.G.str Nz rfl) aF))))) (eQ (bZ (iT fP fP aY (bB uR (by rfl) W.G.len PySem.boot_len (aA (pv 0) aF)) aY))))) (aH (bF lK)) aZ)
   (aH (bF (bB (qI rfl) (by rfl) W.G.all qK (aA (cS (NB:=["sign"]) (n:=1) (js:=[]) (g:=cI 0) (cl:=[]) rfl ⋯ ⋯ rfl (lW.all {(rfl),rfl,rfl,rfl}).2.2.2.1
     (Zo (pv 0)) (λ_ s H u p=>aO (i:=0) AH rfl (j0 rfl) (.inr rfl)) (λ_ s H u p=>dL) (λ_ s H u p=>wC rZ rZ eI (pv 0) eI)) aF)))),?_}
  let sl:sizeLine=16777216:=sizeLine_eq
  refine {_,rfl,_,_,_,true,rfl,.ty "str",.inl {_,.str x,rfl},_,rfl,?_}
  refine bY ?_
  refine {_,rfl,_,rfl,∎,_,_,rfl,rfl,_,rfl,eU (decide_eq_true ∎) {_,_,rfl,rfl,_,rfl,gA (by rw [decide_eq_true ∎];rfl) ?_}}
  refine {_,rfl,_,rfl,O,λd a=>?_}
  refine {λj r l m=>r=x.length-j/\j<=x.length/\l=(List.replicate j true).map V.bl/\aN H m/\m d=some (.lst l),{_,rfl,i8 _,rfl,aJ a,aB},?_}
  rintro j r l m ⟨rfl,Z,rfl,q,f⟩
  refine {f,?_}
  by_cases e:j<x.length
  ·refine .inr {e,?_}
   rintro y C ⟨rfl,c,J,rfl⟩
   let (B,L):=w4 j c J
   refine {rfl,?_}
   refine eB ?_
   refine cH ?_
   refine {_,rfl,_,_,rfl,rfl,_,rfl,eU B {_,_,rfl,rfl,f,by rw [f8,A9];omega,_,?_,rfl,e,?_,λb o z=>?_,aB}}
   ·omega
   ·rw [O6,m9,L]
    rfl
   ·rw [aC (aD z a)]
    exact q _ _ z
  ·refine .inl {by show _<=j;omega,?_}
   refine {d,_,rfl,cZ.of f,?_}
   let S:(List.replicate j true).all id=true:=by simp
   rw [S]
   exact t _ q
def Ir:aK ["worker"] ["worker"] (aG lH):={rfl,rfl,rfl,⋯,rfl,⋯,⋯}
def wJ (W:Wd P w K mg base N c):jJ P w K mg base cY "check_worker" 2 yN:=W.d11.of λF=>by
 refine F.ok Ir (λe H Q E h=>?_) (λb A a s H e Q E g h=>?_)
 ·let (x,rfl,_):=h
  rfl
 ·intro X D
  let (x,rfl,f,t):=h
  refine {_,aH (bP (bZ (bX (aV (mY W) g aQ (aA (pv 0) aF)))) cQ aZ),?_}
  exact {_,rfl,x,rfl,f,λd i=>{_,rfl,bY (t d i)}}
inductive Uj (CB CP:Addr) (vs:List V) (H:Hp) (Q:VK) (E0_:XK):Prop|mk (b pw sh d:Addr) (sp ev le nn nt mo:Int) (ps:List Addr) (cs:List Pc) (i:Nat) (p:Addr) (c:Pc) (_:vs=[.ref b,.int c.n]) (_:fT CB CP H b pw sh d sp ev le nn nt mo ps cs) (_:ps[i]?=some p) (_:cs[i]?=some c) (_:(cs.map Pc.n).Nodup) (_:Q (.ref p) H)
def Xx (CB CP:Addr):Sp:=Uj CB CP
theorem Dq:∀{ps:List Addr} {cs:List Pc} {i:Nat} {p:Addr} {c:Pc},ps[i]?=some p->cs[i]?=some c->(cs.map Pc.n).Nodup->cV (kC ps cs) (Sum.inl c.n:cC)=some (.ref p)
 | [],_,_,_,_,h,_,_=>by simp at h
 | _::_,[],_,_,_,_,h,_=>by simp at h
 | p::ps,c::cs,0,_,_,h1,h2,_=>by
  cases h1
  cases h2
  exact eZ rfl
 | q::ps,e::cs,i+1,p,c,h1,h2,nd=>by
  let (d,a):=x9.mp nd
  have b:c.n ∈ cs.map Pc.n:=P1 (g6 (by simpa using h2))
  show cV ((Sum.inl e.n,V.ref q)::kC ps cs) _=_
  rw [fA (λz=>d (by have z:e.n=c.n:=Sum.inl.inj z;rw [z];exact b))]
  exact Dq (by simpa using h1) (by simpa using h2) a
def Yr:aK ["self","number"] ["self","number"] (aG yT):={rfl,rfl,rfl,⋯,rfl,⋯,⋯}
def Cy (W:Wd P w K mg base N c):eG P w K mg base cY N.CB "piece_with" 2 (Xx N.CB N.CP):=W.d59.of λ{f _} F=>by
 refine F.ok Yr (λC H Q E h=>?_) (λj A l s H C Q E o h=>?_)
 ·let (b,u,z,d,I,O,J,y,r,v,S,T,i,p,c,rfl,_):=h
  rfl
 ·intro X D
  let (b,u,z,d,I,O,J,y,r,v,S,T,i,p,c,rfl,M,U,G,x,t):=h
  let q:(A.deeper (PyProof.Rows.envOfC "Book.piece_with" (aG yT) s.heap.objs.size f j)).units+1<cLine:=by have:=o.un;omega
  let ((m,a),e,L):=id M
  refine {_,aE (bP (PW.pt (gE (bZ (bX (aV (dB W) o aQ (aA (pv 1) aF)))) (eQ (Kd (Ew q (pv 1) (bA (pv 0) rfl)))))) cQ aZ) (aH (bF (Cr q (bA (pv 0) rfl) (pv 1) (λ_ _=>rfl)))),?_}
  let g:=kE.k (k:=(Sum.inl c.n:cC)) e
  rw [Dq U G x] at g
  refine {_,rfl,_,rfl,.kn (.int _),_,rfl,bY ?_}
  refine {_,rfl,_,rfl,b,N.CB,m,_,_,rfl,a,W.B.cl,W.B.nB,rfl,d,_,rfl,g,_,rfl,bY ?_}
  exact {_,rfl,b,N.CB,m,_,_,rfl,a,W.B.cl,W.B.nB,rfl,_,rfl,d,_,rfl,g,t}
def Od {pw sh d:Addr} {sp b a nn nt mo nt':Int}:cM "next_token" (.int nt') (bf pw sh d sp b a nn nt mo)=bf pw sh d sp b a nn nt' mo:=rfl
def sW {pw sh d:Addr} {sp b a nn nt mo mo':Int}:cM "moment" (.int mo') (bf pw sh d sp b a nn nt mo)=bf pw sh d sp b a nn nt mo':=rfl
def Zu {C:Addr} {H:Hp} {p:Addr} {c e:Pc} (g:gP C H p c) (h2:gP C H p e):c.n=e.n:=by
 let (h,(i,a),_):=g;let (d,(f,b),_):=h2;rw [a] at b;have:=Option.some.inj b;injection this with _ _ z;injection z with z _;injection z with _ z;injection z
def kO {C:Addr} {H H':Hp} {ps:List Addr} {cs:List Pc} {k:Nat} {p:Addr} {c c':Pc} (h:Paired (gP C H) ps cs) (r:(cs.map Pc.n).Nodup) (l:ps[k]?=some p) (i:cs[k]?=some c) (u:∀q e,q≠p->gP C H q e->gP C H' q e) (f:gP C H' p c'):Paired (gP C H') ps (cs.set k c'):=by
 refine kI (by rw [L1];exact h.length) λj q e g a=>?_;rw [List.getElem?_set] at a;by_cases z:k=j
 ·subst z;rw [if_pos rfl] at a;rw [l] at g;cases g;split at a
  ·cases a;exact f
  ·cases a
 ·rw [if_neg z] at a;let (D,d,x):=aM h g;rw [a] at d;cases d;refine u q e (λy=>z ?_) x;subst y;let (v,b,s):=aM h l;rw [i] at b;cases b;let B:=Zu s x;let t:(cs.map Pc.n)[k]?=some c.n:=by rw [i7,i];rfl
  let m:(cs.map Pc.n)[j]?=some c.n:=by rw [i7,a,B];rfl
  let (E,o):=c9.mp t;let (F,A):=c9.mp m;exact(List.getElem_inj r).mp (o.trans A.symm)
def uO {ps:List Addr} {cs:List Pc} {k:Nat} {c c':Pc} (g:cs[k]?=some c) (en:c'.n=c.n):kC ps (cs.set k c')=kC ps cs:=by
 unfold kC;refine J0 λj=>?_;rw [i7,i7];by_cases z:k=j
 ·subst z;let i:=(c9.mp g).1;cases hp:ps[k]? with
  | none=>
   let f:((cs.set k c').zip ps)[k]?=none:=w8 (by rw [F9];have:=E5.mp hp;omega);let d:(cs.zip ps)[k]?=none:=w8 (by rw [F9];have:=E5.mp hp;omega);rw [f,d]
  | some p=>
   let f:((cs.set k c').zip ps)[k]?=some (c',p):=y6.mpr {by rw [List.getElem?_set,if_pos rfl,if_pos i],hp};let d:(cs.zip ps)[k]?=some (c,p):=y6.mpr {(g),hp};rw [f,d];show some ((Sum.inl c'.n:cC),V.ref p)=some (Sum.inl c.n,V.ref p);rw [en]
 ·let e:((cs.set k c').zip ps)[j]?=(cs.zip ps)[j]?:=by
   let h:(cs.set k c')[j]?=cs[j]?:=by rw [List.getElem?_set,if_neg z]
   cases q:(cs.zip ps)[j]? with
   | none=>
    have:=E5.mp q;exact w8 (by rw [F9,L1] at *;exact this)
   | some x=>
    let (a,b):=y6.mp q;exact y6.mpr {h.trans a,b}
  rw [e]
def mI:aK ["self","worker","moment","chosen","piece","token","until"] ["self","worker","moment"] (aG tO):={rfl,rfl,rfl,⋯,rfl,⋯,⋯}
def Pc.has (c:Pc) (tk:Int):Bool:=c.o.any λt=>decide (t.1=tk)
inductive Vc (CB CP:Addr) (vs:List V) (H:Hp) (Q:VK) (E0_:XK):Prop|mk (b pw sh d:Addr) (sp ev le nn nt mo tk i:Int) (ps:List Addr) (cs:List Pc) (k:Nat) (p:Addr) (c:Pc) (_:vs=[.ref b,.int tk,.int i]) (_:fT CB CP H b pw sh d sp ev le nn nt mo ps cs) (_:mo<=i) (_:0<=tk) (_:tk<nt) (_:ps[k]?=some p) (_:cs[k]?=some c) (_:c.has tk=true) (_:(∀j e,cs[j]?=some e->j<k->e.has tk=false)) (_:∀H',aN H H'->Q (.ref p) H')
def yM (CB CP:Addr):Sp:=Vc CB CP
def Iq:aK ["self","token","moment","piece"] ["self","token","moment"] (aG Jn):={rfl,rfl,rfl,⋯,rfl,⋯,⋯}
inductive Gv (CB CS CP:Addr) (vs:List V) (H:Hp) (Q:VK) (E0_:XK):Prop|mk (b pw sh d pw' d' nr:Addr) (sp ev le nn nt mo tk i pl:Int) (ps:List Addr) (cs:List Pc) (k:Nat) (p:Addr) (c:Pc) (ws:Lm.Ps) (kvs:List (cC × V)) (ns:List Int) (_:vs=[.ref b,.int tk,.int pl,.ref nr,.int i]) (_:fT CB CP H b pw sh d sp ev le nn nt mo ps cs) (_:cO CS H sh pw' d' ws kvs) (_:mo<=i) (_:0<=tk) (_:tk<nt) (_:ps[k]?=some p) (_:cs[k]?=some c) (_:c.has tk=true) (_:(∀j e,cs[j]?=some e->j<k->e.has tk=false)) (_:H nr=some (.tup (ns.map V.int))) (_:ns.length<=1000) (_:c.l<=pl) (_:pl<=c.m) (_:pl+ns.length<=c.m+ev) (_:-(2 ^ 61)<=pl) (_:pl<=2 ^ 61) (_:(∀(j:Nat) n,ns[j]?=some n->pl+(j:Int)<c.m->cV kvs (Sum.inl (pl+(j:Int)):cC)=some (.int n))) (_:∀H',aN H H'->Q (.ref p) H')
def vG (CB CS CP:Addr):Sp:=Gv CB CS CP
def gU:aK ["self","token","place","numbers","moment","piece","at","number"] ["self","token","place","numbers","moment"] (aG pB):={rfl,rfl,rfl,⋯,rfl,⋯,⋯}
def FD {P:Program} {w:World} {X:Cx}:eE (jK P w) X E0:=λ_ _ _ _ _ _ _ h=>by
 let (_,_,_,_,_,_,_,_,_,z):=h
 exact z.elim
def fS (ns:List Int) (lo hi:Option Int):List Int:=(ns.drop (HT.sIx ns.length 0 lo)).take (HT.sIx ns.length ns.length hi-HT.sIx ns.length 0 lo)
def Nt (ns:List Int) (lo hi:Option Int):jD (ns.map V.int) lo hi=(fS ns lo hi).map V.int:=by
 unfold jD fS;rw [f8,List.map_take,List.map_drop]
def Nb (ns:List Int) (lo hi:Option Int):(fS ns lo hi).length<=ns.length:=by
 unfold fS;rw [l7,C2];omega
def Pc.told (c:Pc) (n:Int) (u:Int):Pc:={ c with m:=c.m+n,o:=if c.m+n=c.h then none else c.o.map λt=>(t.1,t.2.1,u) }
inductive Ul (CB CS CP:Addr) (vs:List V) (H:Hp) (Q:VK) (E0_:XK):Prop|mk (b pw sh d pw' d' nr:Addr) (sp ev le nn nt mo tk i pl:Int) (ps:List Addr) (cs:List Pc) (k:Nat) (p:Addr) (c:Pc) (ws:Lm.Ps) (kvs:List (cC × V)) (ns:List Int) (_:vs=[.ref b,.int tk,.int pl,.ref nr,.int i]) (_:fT CB CP H b pw sh d sp ev le nn nt mo ps cs) (_:cO CS H sh pw' d' ws kvs) (_:mo<=i) (_:0<=tk) (_:tk<nt) (_:ps[k]?=some p) (_:cs[k]?=some c) (_:c.has tk=true) (_:(∀j e,cs[j]?=some e->j<k->e.has tk=false)) (_:H nr=some (.tup (ns.map V.int))) (_:ns.length<=1000) (_:c.l<=pl) (_:pl<=c.m) (_:pl+ns.length<=c.m+ev) (_:-(2 ^ 61)<=pl) (_:pl<=2 ^ 61) (_:(∀(j:Nat) n,ns[j]?=some n->pl+(j:Int)<c.m->cV kvs (Sum.inl (pl+(j:Int)):cC)=some (.int n))) (_:(cs.map Pc.n).Nodup) (_:d≠d') (_:ws.length<=1000) (_:kvs.length<=1000) (_:(-(2 ^ 61)<=c.m/\c.m+(fS ns (some (c.m-pl)) (some (c.h-pl))).length<=2 ^ 61/\(∃q ∈ ws,q.1<=c.m/\c.m+(fS ns (some (c.m-pl)) (some (c.h-pl))).length<=q.2)/\∀j:Nat,j<(fS ns (some (c.m-pl)) (some (c.h-pl))).length->cV kvs (Sum.inl (c.m+(j:Int)):cC)=none)) (_:∀(r:Addr) (H':Hp),(∀a o,H a=some o->a≠b->a≠p->a≠d'->H' a=some o)->fT CB CP H' b pw sh d sp ev le nn nt i ps (cs.set k (c.told (fS ns (some (c.m-pl)) (some (c.h-pl))).length (i+sp))) ->
  cO CS H' sh pw' d' ws (kvs++jB c.m (fS ns (some (c.m-pl)) (some (c.h-pl))) (fS ns (some (c.m-pl)) (some (c.h-pl))).length) ->
  H' r=some (.tup [.int (c.m+(fS ns (some (c.m-pl)) (some (c.h-pl))).length),.int c.h,if c.m+(fS ns (some (c.m-pl)) (some (c.h-pl))).length=c.h then .non else .int (i+sp)])->Q (.ref r) H')
def yK (CB CS CP:Addr):Sp:=Ul CB CS CP
def tM:aK ["self","token","place","numbers","moment","piece","fresh","until"] ["self","token","place","numbers","moment"] (aG pC):={rfl,rfl,rfl,⋯,rfl,⋯,⋯}
def Sb {f:Addr} {fd:FuncData} (F:rH K "tell" "Book.tell" pC f fd) (GT:eG P w K mg base cY N.CB "piece_to_tell" 4 (vG N.CB N.CS N.CP)) (W:Wd P w K mg base N c):bM P w K mg base cY 5 f fd ["self","token","place","numbers","moment"] (yK N.CB N.CS N.CP):=by
 refine F.ok tM (λvs H Q E h=>?_) (λau A ai s H vs Q E hr h=>?_)
 ·let (b,pw,J,d,a7,d',C,x,ev,le,nn,nt,mo,tk,i,U,ps,cs,k,p,c,ws,L,ns,rfl,_):=h;rfl
 ·intro X D;let (b,pw,J,d,a7,d',C,x,ev,le,nn,nt,mo,tk,i,U,ps,cs,k,p,c,ws,L,ns,rfl,hb,hs,hi,t0,t1,hp,hc,ht,an,hn,ln,p1,p2,p3,p4,p5,ok,nd,ak,lw,lk,(m1,m2,m3,m4),t):=h;let a8:=tM.nd;let cB:=W.B.cl;let cP:=W.P.cl;let nM:=W.P.nM;let nH:=W.P.nH;let nD:=W.P.nD;let nS:=W.B.nS;let av:=W.B.nH;let sl:sizeLine=16777216:=sizeLine_eq;let ((dx,u),Z,af):=id hb;let (c',aa,lv,(y,g),a3):=aM af hp;rw [hc] at aa;cases aa;refine Wp.ex (cL (n:=5) a8 rfl (qB (vs:=[.int tk,.int U,.ref C,.int i]) (by symm) u W.B.cl GT hr aQ (by symm) {b,pw,J,d,a7,d',C,x,ev,le,nn,nt,mo,tk,i,U,ps,cs,k,p,c,ws,L,ns,rfl,hb,hs,hi,t0,t1,hp,hc,ht,an,hn,ln,p1,p2,p3,p4,p5,ok,λH1 s1=>?_}));let ar:=s1 _ _ g;refine cL (n:=6) a8 rfl {_,iU yQ (pv 3) (hV aR) (hV aR),{_,rfl,Vl.to (v:=.int (c.m-U)) (by symm) _ {_,rfl,Vl.to (v:=.int (c.h-U)) (by symm) _ {_,rfl,C,_,rfl,s1 _ _ hn,λq H2 s2 e2=>?_}}}};rw [Nt] at e2;let lf:=Nb ns (some (c.m-U)) (some (c.h-U));generalize fS ns (some (c.m-U)) (some (c.h-U))=fr at e2 lf m2 m3 m4 t;let t2:=s1.trans s2;let a6:=hs.same t2;let (dz,hz):=a6.ob;let aq:=t2 _ _ u;let as:=t2 _ _ g;refine oB (qB (vs:=[.int c.m,.ref q]) (by symm) hz W.S.cl (AB W) hr FD (by symm) {J,a7,d',q,ws,L,c.m,fr,rfl,a6,e2,lw,∎,lk,m1,m2,m3,λ_ H3 e3 k3=>?_,λ⟨j,hj,z⟩=>absurd (m4 j hj) z} (jX _ _ ⋯ ⋯));let I:p≠d':=aI g hs.dc (by intro z;cases z);let a1:b≠d':=aI u hs.dc (by intro z;cases z);let a5:p≠b:=aI g u (by intro z;injection z with _ _ z;injection z with z;injection z with z;exact absurd z ⋯);let a2:=k3 _ _ (t2 _ _ g) I;let ad:=k3 _ _ (t2 _ _ u) a1;let ao:H3 q=some (.tup (fr.map V.int)):=k3 _ _ e2 (aI e2 a6.dc (by intro z;cases z));refine {_,aE (fU (pv 5) (bB bU (by rfl) W.G.len PySem.boot_len (aA (pv 6) aF)) pX) aU,?_};refine {_,rfl,p,N.CP,y,_,_,rfl,a2,W.P.cl,W.P.nM,rfl,_,rfl,q,_,rfl,.inr (bN.of ao),_,_,rfl,rfl,y,_,a2,(by show 5<1000;decide),?_};rw [Rq,f8];refine dF (p:=b) (v:=.int i) (by symm) (by symm) (by rw [aC a5.symm];exact ad) W.B.cl W.B.nM (by show 9<1000;decide) ?_;rw [sW];generalize hM:c.m+(fr.length:Int)=M at *;let k5:∀a o,H3 a=some o->a≠p->a≠b->(aS (aS H3 p (.ins N.CP y (pf c.n c.l c.h M lv))) b (.ins N.CB dx (bf pw J d x ev le nn nt i))) a=some o:=λa o e n1 n2=>by
   rw [aC n2,aC n1];exact e
  let p5:(aS (aS H3 p (.ins N.CP y (pf c.n c.l c.h M lv))) b (.ins N.CB dx (bf pw J d x ev le nn nt i))) p=some (.ins N.CP y (pf c.n c.l c.h M lv)):=by rw [aC a5,aB]
  let b5:(aS (aS H3 p (.ins N.CP y (pf c.n c.l c.h M lv))) b (.ins N.CB dx (bf pw J d x ev le nn nt i))) b=some (.ins N.CB dx (bf pw J d x ev le nn nt i)):=aB;generalize aS (aS H3 p (.ins N.CP y (pf c.n c.l c.h M lv))) b (.ins N.CB dx (bf pw J d x ev le nn nt i))=Y at k5 p5 b5 ⊢;let f5:∀a o,H a=some o->a≠b->a≠p->a≠d'->Y a=some o:=λa o e n1 n2 n3=>k5 _ _ (k3 _ _ (t2 _ _ e) n3) n2 n1;let O:∀a ys,H a=some (.tup ys)->Y a=some (.tup ys):=λa ys e=>f5 _ _ e (aI e u (by intro z;cases z)) (aI e g (by intro z;cases z)) (aI e hs.dc (by intro z;cases z));let d5:Y d'=some (.dK (L++jB c.m fr fr.length)):=k5 _ _ e3 I.symm a1.symm;let ae:∀(r:Addr) (H':Hp) (a0:V),(∀a o,Y a=some o->a≠p->H' a=some o)->H' p=some (.ins N.CP y (pf c.n c.l c.h M a0))->lU H' a0 (if M=c.h then none else c.o.map λt=>(t.1,t.2.1,i+x))->H' r=some (.tup [.int M,.int c.h,if M=c.h then .non else .int (i+x)])->Q (.ref r) H':=λr H' a0 fk aj ap al=>by
   refine t r H' (λa o e n1 n2 n3=>fk _ _ (f5 a o e n1 n2 n3) n2) {{dx,fk _ _ b5 a5.symm},?_,?_} {?_,?_,?_} al
   ·rw [uO (c':=c.told fr.length (i+x)) hc rfl];exact fk _ _ (f5 _ _ Z (aI Z u (by intro z;cases z)) (aI Z g (by intro z;cases z)) ak) (aI Z g (by intro z;cases z))
   ·refine kO af nd hp hc (λq' e' a9 ⟨ah,⟨dz2,ha'⟩,hl2⟩=>{ah,{dz2,fk _ _ (f5 _ _ ha' ?_ a9 (aI ha' hs.dc (by intro z;cases z))) a9},hl2.move λa ys e=>fk _ _ (O a ys e) (aI e g (by intro z;cases z))}) ?_
    ·exact aI ha' u (by intro z;injection z with _ _ z;injection z with z;injection z with z;exact absurd z ⋯)
    ·unfold Pc.told gP;rw [hM];exact {a0,{(y),aj},ap}
   ·let (dy,hy):=hs.ob;let n1:J≠b:=aI hy u (by intro z;injection z with _ _ z;exact absurd (congrArg List.length z) (by show ¬ 2=9;decide));let n2:J≠p:=aI hy g (by intro z;injection z with _ _ z;exact absurd (congrArg List.length z) (by show ¬ 2=5;decide));exact {dy,fk _ _ (f5 _ _ hy n1 n2 (aI hy hs.dc (by intro z;cases z))) n2}
   ·let (xs,x1,x2):=hs.wk;exact {xs,fk _ _ (O _ _ x1) (aI x1 g (by intro z;cases z)),aL (λv r ⟨b',z1,z2⟩=>{b',z1,fk _ _ (O _ _ z2) (aI z2 g (by intro z;cases z))}) x2}
   ·exact fk _ _ d5 I.symm
  refine {_,aE (bP (bX aR) aU aU) aU,Gc (by symm) p5 W.P.cl (De W) hr aQ {p,_,_,_,_,lv,rfl,{(y),p5},_,rfl,?_}};refine gO (λT=>?_) (λT=>cJ ?_)
  ·let T:M=c.h:=by simpa using T
   refine dF (p:=p) (v:=.non) (by symm) vE p5 W.P.cl W.P.nD (by show 5<1000;decide) ?_;rw [tZ];let p6:(aS Y p (.ins N.CP y (pf c.n c.l c.h M .non))) p=_:=aB;refine fV {_,cD dD,Av.to (vs:=[.int M,.int c.h,.non]) (by symm) _ {by show 3<=sizeLine;decide,λr C=>?_}};refine ae r _ .non (λa o e n=>aJ C _ _ (by rw [aC n];exact e)) (aJ C _ _ aB) ?_ ?_
   ·rw [if_pos T];trivial
   ·rw [if_pos T];exact aB
  ·let T:¬ M=c.h:=by simpa using T
   obtain⟨z,a4⟩:∃z,c.o=some z:=by
    cases q':c.o with
    | none=>unfold Pc.has at ht;rw [q'] at ht;cases ht
    | some z=>exact {(z),rfl}
   let ag:z.1=tk:=by
    unfold Pc.has at ht;rw [a4] at ht;simpa using ht
   rw [a4] at a3;obtain⟨lq,rfl⟩:∃lq,lv=.ref lq:=by
    cases lv with
    | ref lq=>exact {(lq),rfl}
    | _=>exact a3.elim
   let am:H lq=some (.tup [.int z.1,.str z.2.1,.int z.2.2]):=a3;let tl:=O _ _ am;show 7;refine {_,aE (cA (pv 5) (cD dD) rfl) aU,Av.to (vs:=[.int tk,.str z.2.1,.int (i+x)]) (by symm) _ {by show 3<=sizeLine;decide,λq2 ac=>{_,rfl,p,N.CP,y,_,rfl,aJ ac _ _ p5,W.P.cl,W.P.nD,(by show 5<1000;decide),?_}}};rw [tZ];let s6:aN Y (aS Y q2 (.tup [.int tk,.str z.2.1,.int (i+x)])):=aJ ac;let e6:(aS Y q2 (.tup [.int tk,.str z.2.1,.int (i+x)])) q2=some (.tup [.int tk,.str z.2.1,.int (i+x)]):=aB;generalize aS Y q2 (.tup [.int tk,.str z.2.1,.int (i+x)])=H6 at s6 e6 ⊢;let p6:(aS H6 p (.ins N.CP y (pf c.n c.l c.h M (.ref q2)))) p=_:=aB;refine fV {_,cD dD,Av.to (vs:=[.int M,.int c.h,.int (i+x)]) (by symm) _ {by show 3<=sizeLine;decide,λr C=>?_}};refine ae r _ (.ref q2) (λa o e n=>aJ C _ _ (by rw [aC n];exact s6 _ _ e)) (aJ C _ _ aB) ?_ ?_
   ·rw [if_neg T,a4];rw [<- ag] at e6;exact aJ C _ _ (by rw [aC (aI e6 (s6 _ _ p5) (by intro z;cases z))];exact e6)
   ·rw [if_neg T];exact aB
end
end Ls
namespace L2
open PySem PySem.Spec PyProof.Rows PySem.W
def Dw (js:List Nat) (tc:TT) (σ:St) (Q:VK):It->Hp->Prop:=λJ H1=>∀acc,H1 acc=none ->
 ∃W:Nat->Nat->List V->Hp->Prop,(∃m,W 0 m [] (aS H1 acc (.lst [])))/\∀i m ys H,W i m ys H->H acc=some (.lst ys) /\
  ((J.stop i H/\Q (.ref acc) H)\/(J.go i H/\∀x H',J.yld i H x H'->cI 0 x (dZ 1 js σ) H' λσ2 H2=>σ2.drop 1=(dZ 1 js σ).drop 1/\tc σ2 H2 λb H3=>
   if b=true then iN 0 σ2 H3 λy H4=>H4 acc=some (.lst ys)/\ys.length<sizeLine/\∃m',m'<m/\W (i+1) m' (ys++[y]) (aS H4 acc (.lst (ys++[y])))
   else ∃m',m'<m/\W (i+1) m' ys H3))
def Wz {α:Type} {js:List Nat} {σ:St} {tc:TT} {Q:VK} {J:It} {a:Hp} (xs:List α) (val:α->V) (pm:α->Bool) (C:xs.length<=4000)
  (y:∀G i,aN a G->i<xs.length->J.go i G) (f:∀G,aN a G->J.stop xs.length G) (u:∀G i x p,aN a G->J.yld i G x p->p=G/\∃z,xs[i]?=some z/\x=val z)
  (h:∀G z q,aN a G->z ∈ xs->q (pm z) G->tc (some (val z)::(js.map λj=>(σ[j]?).join)) G q)
  (k:∀s G,a s=none->aN a G->G s=some (.lst ((xs.filter pm).map val))->Q (.ref s) G):Dw js tc σ Q J a:=by
 intro r l;let E:sizeLine=16777216:=sizeLine_eq;refine {λi m t G=>m=xs.length-i/\i<=xs.length/\t=((xs.take i).filter pm).map val/\aN a G/\G r=some (.lst t),{_,rfl,i8 _,rfl,aJ l,aB},?_};rintro i m t G ⟨rfl,D,rfl,c,g⟩;refine {g,?_};by_cases d:i<xs.length
 ·refine .inr {y G i c d,λx p A=>?_};let (rfl,z,v,rfl):=u _ _ _ _ c A;let w:xs.take (i+1)=xs.take i++[z]:=by rw [A2,v];rfl
  let B:(((xs.take i).filter pm).map val).length<=i:=by
   rw [f8];exact n8 (J8 _ _) (by rw [l7];omega)
  refine {rfl,h _ z _ c (g6 v) ?_};refine gO (λn=>?_) (λn=>?_)
  ·refine {_,rfl,g,∎,_,?_,rfl,d,?_,λb o e=>?_,aB}
   ·omega
   ·rw [w,F8,m9];simp [n]
   ·rw [aC (aD e l)];exact c _ _ e
  ·refine {xs.length-(i+1),∎,rfl,d,?_,c,g};rw [w,F8,m9];simp [n]
 let e:i=xs.length:=∎;subst e;rw [N8] at g;exact .inl {f _ c,k _ _ l c g}
end L2
namespace Ls
open PySem L2 PySem.W
def Pc.lent (c:Pc):Bool:=c.o.isSome
def Pc.late (i:Int) (c:Pc):Bool:=c.o.any λt=>decide (t.2.2<i)
def nZ (S:Pc->Bool) (cs:List Pc) (c:Pc):Prop:=c ∈ cs/\S c=true/\∀c' ∈ cs,S c'=true->¬ kJ c'.k c.k
inductive HW (cs:List Pc) (le i:Int) (H:Hp):V->Prop where
 | pc {c:Pc} {r:Addr}:(nZ Pc.free cs c\/(∀c ∈ cs,c.free=false)/\nZ (Pc.late i) cs c)->H r=some (.tup [.str "piece",.int c.n])->HW cs le i H (.ref r)
 | cut {c:Pc} {r:Addr}:(∀c ∈ cs,c.free=false)->(∀c ∈ cs,c.late i=false)->nZ Pc.lent cs c->2 * le<=c.h-c.m->H r=some (.tup [.str "cut",.int c.n,.int (c.h-(c.h-c.m) / 2)])->HW cs le i H (.ref r)
 | non:(∀c ∈ cs,c.free=false)->(∀c ∈ cs,c.late i=false)->(∀c,nZ Pc.lent cs c->c.h-c.m<2 * le)->HW cs le i H .non
def cT.trans {T:Addr} {H f d:Hp} (a:cT T H f) (b:cT T f d):cT T H d:=λc o n e=>b c o n (a c o n e)
def cT.t {T:Addr} {H H':Hp} {p:Pos} {q:Str} (tb:gD H T p q) (k:cT T H H'):iG H H':=by
 let (a,e,_):=tb;exact k.toT e
def sZ {H:Hp} {a:Addr} {zs:List (Pc × Addr)} (b:H a=some (.lst (zs.map λx=>V.ref x.2))):H a=some (.lst ((zs.map (·.2)).map V.ref)):=by rw [b,O8];rfl
def Ay {zs:List (Pc × Addr)} (h:(!zs.isEmpty)=true):zs.map (·.2)≠[]:=λz=>by rw [List.map_eq_nil_iff.mp z] at h;cases h
def iA {zs:List (Pc × Addr)} {i:Nat} {p:Addr} {c:Pc} (b:(zs.map (·.2))[i]?=some p) (e:(zs.map (·.1))[i]?=some c) (a:∀j d,(zs.map (·.1))[j]?=some d->¬ kJ d.k c.k/\(j<i->kJ c.k d.k)):
  (c,p) ∈ zs/\∀f ∈ zs,¬ kJ f.1.k c.k:=by
 rw [i7] at b e;cases hz:zs[i]? with
 | none=>rw [hz] at b;cases b
 | some z=>
  rw [hz] at b e;cases b;cases e;refine {g6 hz,λf g=>?_};let (j,h):=j9.mp g;exact(a j f.1 (by rw [i7,h];rfl)).1
def Ng {α:Type} {xs:List α} {p:α->Bool} (h:xs.filter p=[]):∀x ∈ xs,p x=false:=λx a=>by
 cases e:p x with
 | false=>rfl
 | true=>
  have:=v9.mpr {(a),e}
  rw [h] at this
  cases this
def oA {ps:List Addr} {cs:List Pc} (l:ps.length=cs.length) {c:Pc} (h:c ∈ cs):∃p,(c,p) ∈ cs.zip ps:=by
 let (k,a):=j9.mp h;let b:k<ps.length:=by have:=(c9.mp a).1;omega
 exact {ps[k],g6 (i:=k) (y6.mpr {a,c8 b})}
def oH {ps:List Addr} {cs:List Pc} {S:Pc->Bool} (l:ps.length=cs.length) {z:Pc × Addr} {zs:List (Pc × Addr)} (a:∀z,z ∈ zs↔z ∈ cs.zip ps/\S z.1=true) (e:z ∈ zs) (b:∀i ∈ zs,¬ kJ i.1.k z.1.k):nZ S cs z.1:=by
 let (h,f):=(a z).mp e;refine {(D8 h).1,f,λc g d=>?_};let (p,j):=oA l g;exact b (c,p) ((a _).mpr {(j),d})
def Dy {S:Pc->Bool} {cs:List Pc} {c c':Pc} (a:nZ S cs c) (b:nZ S cs c'):c.h-c.m=c'.h-c'.m:=by
 let e:=a.2.2 _ b.1 b.2.1;let d:=b.2.2 _ a.1 a.2.1;unfold kJ Pc.k at e d;simp only [not_or,not_and] at e d;omega
inductive Gx (CB CP T:Addr) (vs:List V) (H:Hp) (Q:VK) (E0_:XK):Prop|mk (b pw sh d:Addr) (sp ev le nn nt mo i:Int) (ps:List Addr) (cs:List Pc) (_:vs=[.ref b,.int i]) (_:fT CB CP H b pw sh d sp ev le nn nt mo ps cs) (_:cs.length<=1000) (_:mo<=i) (_:gD H T kB fF) (_:∀(v:V) (H':Hp),cT T H H'->gD H' T kB fF->HW cs le i H' v->Q v H')
def vH (CB CP T:Addr):Sp:=Gx CB CP T
def rO {C d:Addr} {k:Hp} {ps:List Addr} {cs:List Pc} {o:Obj} {js:List Nat} {σ:St} {tc:TT} {Q:VK} (b:k d=some (.dK (kC ps cs))) (f:Paired (gP C k) ps cs) (W:cs.length<=1000) (pm:Pc->Bool)
  (v:∀(G:Hp) (c:Pc) (p A:Addr) (s:V) (q:Bool->Hp->Prop),G p=some (.ins C A (pf c.n c.l c.h c.m s))->lU G s c.o->q (pm c) G->tc (some (.ref p)::(js.map λj=>(σ[j]?).join)) G q)
  (y:∀r G,k r=none->G d=some (.frz o (.dK (kC ps cs)))->aN k (aS G d (.dK (kC ps cs)))->(aS G d (.dK (kC ps cs))) r=some (.lst (((cs.zip ps).filter λx=>pm x.1).map λx=>V.ref x.2))->Q (.ref r) G):
  Dw js tc σ Q (CU d o (kC ps cs)) (aS k d (.frz o (.dK (kC ps cs)))):=by
 let S:ps.length=cs.length:=f.length;let O:(cs.zip ps).length=cs.length:=by rw [F9];omega
 refine Wz (cs.zip ps) (λx=>V.ref x.2) (λx=>pm x.1) ∎ (λG i a X=>{a _ _ aB,by rw [oF f];omega}) (λG a=>{a _ _ aB,by rw [oF f];omega}) (λG i x T a E=>?_) (λG z q a D L=>?_) λr G J a H=>?_
 ·let (rfl,e,I,rfl):=E;let (c,p,F,M,rfl):=zZ I;exact {rfl,(c,p),y6.mpr {(F),M},rfl}
 ·let (s,(A,g),t):=hZ f z D;refine v G z.1 z.2 A s q (a _ _ (by rw [aC (aI g b (by intro z;cases z))];exact g)) (t.move λq U e=>a _ _ (by rw [aC (aI e b (by intro z;cases z))];exact e)) L
 ·let (u,B):=Na b J;exact y r _ u (a _ _ aB) (rR b a) (by rw [aC B];exact H)
def vJ {e H:Hp} {js:List Nat} {d:TI} {tc:TT} {ix:Nat} {r:TS} {D:eO} {σ:St} (h:d σ H (Dw js tc σ (λx f=>∃a o b,f a=some (.frz o (.dK b))/\(∀o v,e a≠some (.frz o v))/\r D (σ.set ix (some x)) (aS f a (.dK b))))):Px (Vz e (Ht (tE 1 js d (cI 0) tc (iN 0)) (cI ix))) r D σ H:=h
def Ig {H:Hp} {js:List Nat} {a:TI} {tc:TT} {ix:Nat} {r:TS} {D:eO} {σ:St} (h:a σ H (Dw js tc σ (λx b=>r D (σ.set ix (some x)) b))):Px (Ht (tE 1 js a (cI 0) tc (iN 0)) (cI ix)) r D σ H:=h
def yI {K:Frag} {H:Hp} {a:Addr} {zs:List (Pc × Addr)} (e:H a=some (.lst (zs.map λx=>V.ref x.2))):BO K (.ref a) H (!zs.isEmpty):=.inl {_,cZ.of e,by cases zs <;> rfl}
def zP {zs:List (Pc × Addr)} (h:¬ (!zs.isEmpty)=true):zs=[]:=by
 cases zs with
 | nil=>rfl
 | cons a l=>exact absurd rfl h
section
variable {P:Program} {w:World} {K:Frag} {mg:Str->Option Value} {base:Heap} {N:Cn} {c:Nat->Addr}
def JI:(["piece","moment"]:List Str).Nodup:=⋯
def sC {f:Addr} {fd:FuncData} (F:rH K "choice" "Book.choice" gX f fd) (GM:eG P w K mg base cY N.CB "check_moment" 2 (tI N.CB)) (W:Wd P w K mg base N c):bM P w K mg base cY 5 f fd ["self","moment"] (vH N.CB N.CP N.T1):=by
 refine F.ok gW (λvs H Q E h=>?_) (λaj A ap s H vs Q E hr h=>?_)
 ·let (b,pw,sh,d,sp,ev,le,nn,nt,mo,i,J,y,rfl,_):=h;rfl
 ·intro X D;let (b,pw,sh,d,sp,ev,le,nn,nt,mo,i₀,J,y,rfl,hb,lc,an,tb,t):=h;let a8:Room 2 (A.deeper (PyProof.Rows.envOfC "Book.choice" (aG gX) s.heap.objs.size f aj)):=hr.mono (by decide);let aa:Room 1 (A.deeper (PyProof.Rows.envOfC "Book.choice" (aG gX) s.heap.objs.size f aj)):=hr.mono (by decide);refine {_,aE (cF (bD (pv 0) W.B.cl GM a8 aQ (aA (pv 1) aF)))
   (aE (Ci (tV (ix:=3) gW.nd rfl (j0 rfl) (NB:=["piece"]) (n:=1) (js:=[]) (g:=cI 0) (cl:=[]) rfl ⋯ ⋯ rfl
     (gB.of rfl bW (aW (λz=>nomatch z) (aW (λz=>nomatch z) bW)) rfl (λk j h=>absurd h (by simp)) bW)
     (tY (uA (bA (pv 0) rfl))) (λ_ s H fp pn=>aO (i:=0) FJ rfl (j0 rfl) (.inr rfl)) (λ_ s H fp pn=>oC (bX (cR (pv 0) W.P.cl (Su W) a8 aQ))) (λ_ s H fp pn=>pv 0)))
   (aE (bP (gY (pv 3) (λ_=>rfl)) (aH (bF (cD (aA eI (aA (bA (aV (gG W) hr aQ (aA (pv 3) aF)) rfl) aF))))) aZ)
   (aE (Ci (tV (ix:=4) gW.nd rfl (j0 rfl) (NB:=["piece"]) (n:=1) (js:=[]) (g:=cI 0) (cl:=[]) rfl ⋯ ⋯ rfl
     (gB.of rfl bW (aW (λz=>nomatch z) (aW (λz=>nomatch z) bW)) rfl (λk j h=>absurd h (by simp)) bW)
     (tY (uA (bA (pv 0) rfl))) (λ_ s H fp pn=>aO (i:=0) FJ rfl (j0 rfl) (.inr rfl)) (λ_ s H fp pn=>oC (bX (cR (pv 0) W.P.cl (lL W) aa aQ))) (λ_ s H fp pn=>pv 0)))
   (aE (tV (ix:=5) gW.nd rfl (j0 rfl) (NB:=["piece","moment"]) (n:=1) (js:=[1]) (g:=cI 0) (cl:=[("moment",s.heap.objs.size+1)]) rfl ⋯ ⋯ rfl
     (gB.of rfl (aW rfl bW) (aW (λz=>nomatch z) (aW (λz=>nomatch z) (aW (λ_=>rfl) bW))) rfl
      (λk j h=>match k,j,h with|0,_,rfl=>rfl|k+1,_,h=>absurd h (by simp)) (aW {.inl rfl,.inl rfl,rfl} bW))
     (jU (pv 4)) (λ_ s H fp pn=>aO (i:=0) JI rfl (j0 rfl) (.inr rfl)) (λ_ s H fp pn=>oC (bX (bD (pv 0) W.P.cl (Sk W) a8 aQ (aA (pv 1) aF)))) (λ_ s H fp pn=>pv 0))
   (aE (bP (gY (pv 5) (λ_=>rfl)) (aH (bF (cD (aA eI (aA (bA (aV (gG W) hr aQ (aA (pv 5) aF)) rfl) aF))))) aZ)
   (aE (bP (PW.pt (fX (gY (pv 4) (λ_=>rfl)) (eW (cN Wr (cR (aV (gG W) hr aQ (aA (pv 4) aF)) W.P.cl (uD W) aa aQ) (cE zF aY (bA (pv 0) rfl)) (bQ _)))))
    (aE (dX (i:=2) gW.nd rfl (j0 rfl) (aV (gG W) hr aQ (aA (pv 4) aF)))
    (aH (bF (cD (aA eI (aA (bA (pv 2) rfl) (aA (cE kP (bA (pv 2) rfl) (cE Rx (cR (pv 2) W.P.cl (uD W) aa aQ) aY)) aF))))))) aZ)
   (aH (bF iV)))))))),?_};let sl:sizeLine=16777216:=sizeLine_eq;let ((dx,T),I,a0):=id hb;let nf:∀{H:Hp},H d=some (.dK (kC J y))->∀(o:Obj) (v:HO),H d≠some (.frz o v):=λe o v z=>by rw [e] at z;cases z
  let lp:J.length=y.length:=a0.length;refine {_,rfl,b,dx,_,rfl,T,rfl,_,rfl,b,pw,sh,d,sp,ev,le,nn,nt,mo,i₀,rfl,{(dx),T},an,?_};dsimp only [Bh];refine vJ ?_;refine {_,rfl,b,N.CB,dx,_,_,rfl,T,W.B.cl,W.B.nB,rfl,.inr (.inr (.inl {rfl,.inl {_,I}})),d,_,rfl,rfl,I,λv nv=>?_};let M:aN H (aS H v (fW v d)):=aJ nv;let e1:(aS H v (fW v d)) v=some (fW v d):=aB;generalize aS H v (fW v d)=H1 at M e1 ⊢;refine {v,d,kC J y,rfl,e1,M _ _ I,λo=>?_};refine rO (M _ _ I) (dG (aN.toT M) a0) lc Pc.free (λG c p C lv q l hl hq=>?_) λla G0 na fz m hA=>?_
  ·refine {_,rfl,p,C,_,rfl,l,rfl,p,_,_,_,_,lv,rfl,{(C),l},_,rfl,?_};rw [hl.non];exact hq
  refine {d,o,_,fz,nf I,?_};generalize aS G0 d (.dK (kC J y))=G at m hA ⊢;let s2:=M.trans m;clear M m na e1 fz;let ak:=s2 _ _ T;let a3:=s2 _ _ I;let a9:=dG (aN.toT s2) a0;let ad:=tb.same s2;let ac:∀z ∈ y.zip J,gP N.CP G z.2 z.1:=hZ a9;refine {_,rfl,_,yI hA,gO (λY=>?_) (λY=>?_)}
  ·refine {_,rfl,la,_,_,rfl,sZ hA,gZ λz a=>ac z (v9.mp a).1,Ay Y,ad,λj p c H3 kt a1 l hc u=>?_};let (a,bz):=iA l hc u;let (lv,(C,S),_):=(ac _ (v9.mp a).1).sameT (cT.t ad kt);refine {p,N.CP,C,_,_,rfl,S,W.P.cl,W.P.nN,rfl,by show 2<=sizeLine;decide,λr nr=>?_};exact t _ _ ((cT.pre s2 kt).same (aJ nr)) (a1.same (aJ nr)) (.pc (.inl (oH lp (λz=>v9) a bz)) aB)
  let a4:∀c ∈ y,c.free=false:=λc hc=>by
   let (p,l):=oA lp hc;exact Ng (zP Y) _ l
  clear hA;dsimp only [Bh];refine vJ ?_;refine {_,rfl,b,N.CB,dx,_,_,rfl,ak,W.B.cl,W.B.nB,rfl,.inr (.inr (.inl {rfl,.inl {_,a3}})),d,_,rfl,rfl,a3,λv nv=>?_};let M:aN G (aS G v (fW v d)):=aJ nv;let e1:(aS G v (fW v d)) v=some (fW v d):=aB;generalize aS G v (fW v d)=H1 at M e1 ⊢;refine {v,d,kC J y,rfl,e1,M _ _ a3,λo=>?_};refine rO (M _ _ a3) (dG (aN.toT M) a9) lc Pc.lent (λG c p C lv q l hl hq=>?_) λll G0 na fz m hL=>?_
  ·refine {_,rfl,p,C,_,rfl,l,rfl,p,_,_,_,_,lv,rfl,{(C),l},_,rfl,?_};rw [hl.non];let e:(!c.o.isNone)=c.lent:=by unfold Pc.lent;cases c.o <;> rfl
   rw [e];exact hq
  refine {d,o,_,fz,nf I,?_};generalize aS G0 d (.dK (kC J y))=H2 at m hL ⊢;let s3:=s2.trans (M.trans m);clear M m na e1 fz ak a3 a9 ad ac s2;let ao:=s3 _ _ T;let ah:=dG (aN.toT s3) a0;let a1:=tb.same s3;let al:∀z ∈ y.zip J,gP N.CP H2 z.2 z.1:=hZ ah;refine Ig ?_;refine {_,rfl,ll,rfl,{_,cZ.of hL},?_};refine Wz ((y.zip J).filter λx=>Pc.lent x.1) (λx=>V.ref x.2) (λx=>Pc.late i₀ x.1) (n8 (J8 _ _) (by rw [F9];omega)) (λG i m hi=>?_) (λG m=>?_) (λG i x G' m hy=>?_) (λG z q m a hq=>?_) λlt G na m hT=>?_
  ·exact {_,_,cZ.of (m _ _ hL),by rw [i7,c8 hi];rfl}
  ·exact {_,cZ.of (m _ _ hL),by rw [f8];exact d7 _}
  ·let (rfl,hx):=hy;let hx:=hx _ (cZ.of (m _ _ hL));rw [i7] at hx;cases a:((y.zip J).filter λx=>Pc.lent x.1)[i]? with
   | none=>rw [a] at hx;cases hx
   | some z=>
    rw [a] at hx;cases hx;exact {(rfl),z,rfl,rfl}
  ·let (lv,(C,l),hl):=(al z (v9.mp a).1).sameT (aN.toT m);exact {_,rfl,z.2,C,_,rfl,l,rfl,_,rfl,z.2,_,_,_,_,i₀,lv,_,rfl,{(C),l},hl,_,rfl,hq}
  let s4:=s3.trans m;let ae:=m _ _ hL;clear hL m na al a1 ah ao s3;let as:=s4 _ _ T;let Z:=tb.same s4;let U:∀z ∈ y.zip J,gP N.CP G z.2 z.1:=hZ (dG (aN.toT s4) a0);let el:∀z,z ∈ ((y.zip J).filter λx=>Pc.lent x.1).filter (λx=>Pc.late i₀ x.1)↔z ∈ y.zip J/\Pc.late i₀ z.1=true:=λz=>by
   rw [v9,v9];refine {λh=>{(h.1.1),h.2},λh=>{{h.1,?_},h.2}};let h2:=h.2;unfold Pc.late at h2;unfold Pc.lent;cases e:z.1.o with
   | none=>rw [e] at h2;cases h2
   | some _=>rfl
  refine {_,rfl,_,yI hT,gO (λY=>?_) (λY=>?_)}
  ·refine {_,rfl,lt,_,_,rfl,sZ hT,gZ λz a=>U z ((el z).mp a).1,Ay Y,Z,λj p c H3 kt a1 l hc u=>?_};let (a,bz):=iA l hc u;let (lv,(C,S),_):=(U _ ((el _).mp a).1).sameT (cT.t Z kt);refine {p,N.CP,C,_,_,rfl,S,W.P.cl,W.P.nN,rfl,by show 2<=sizeLine;decide,λr nr=>?_};exact t _ _ ((cT.pre s4 kt).same (aJ nr)) (a1.same (aJ nr)) (.pc (.inr {a4,oH lp el a bz}) aB)
  let af:∀c ∈ y,c.late i₀=false:=λc hc=>by
   let (p,l):=oA lp hc;cases e:c.late i₀ with
   | false=>rfl
   | true=>have:=(el (c,p)).mpr {(l),e};rw [zP Y] at this;cases this
  clear hT el;refine {_,rfl,_,yI ae,gO (λY=>?_) (λY=>?_)}
  ·refine {_,rfl,ll,_,_,rfl,sZ ae,gZ λz a=>U z (v9.mp a).1,Ay Y,Z,λj p c H3 kt a7 l hc u=>?_};let (a,bz):=iA l hc u;let bc:=oH lp (λz=>v9) a bz;let a2:=cT.t Z kt;let (lv,(C,S),_):=(U _ (v9.mp a).1).sameT a2;refine {p,C,_,rfl,S,rfl,p,_,_,_,_,lv,rfl,{(C),S},_,rfl,b,N.CB,dx,_,_,rfl,a2.at as,W.B.cl,W.B.nL,rfl,_,_,rfl,rfl,.inl {by decide,by decide},_,_,rfl,rfl,?_};refine {_,rfl,gO (λhq=>?_) (λhq=>?_)}
   ·refine {_,rfl,ll,_,_,rfl,sZ (a2.at ae),gZ λz a=>(U z (v9.mp a).1).sameT a2,Ay Y,a7,λj' p' c' H6 ai ar aq O a6=>?_};let (ag,av):=iA aq O a6;let am:=oH lp (λz=>v9) ag av;let (au,(a5,L),_):=((U _ (v9.mp ag).1).sameT a2).sameT (cT.t a7 ai);refine {_,rfl,p',N.CP,a5,_,_,rfl,L,W.P.cl,W.P.nN,rfl,_,rfl,p',N.CP,a5,_,_,rfl,L,W.P.cl,W.P.nH,rfl,_,rfl,p',a5,_,rfl,L,rfl,p',_,_,_,_,au,rfl,{(a5),L},_,_,rfl,rfl,{by decide,by decide},_,_,rfl,rfl,by show 3<=sizeLine;decide,λr nr=>?_};let hq:=of_decide_eq_true hq;have:=Dy bc am;exact t _ _ ((cT.trans (cT.pre s4 kt) ai).same (aJ nr)) (ar.same (aJ nr)) (.cut a4 af am ∎ aB)
   ·refine t _ _ (cT.pre s4 kt) a7 (.non a4 af λc' O=>?_);have:=Dy bc O;let hq:=of_decide_eq_false (G7.mpr hq);omega
  ·refine bY ?_;refine t _ _ (λb o _ e=>s4 _ _ e) Z (.non a4 af λc' O=>?_);let (p,l):=oA lp O.1;have:=v9 (p:=λx:Pc × Addr=>Pc.lent x.1).mpr {(l),O.2.1};rw [zP Y] at this;cases this
def CV (cs:List Pc) (i:Int) (c:Pc):Prop:=nZ Pc.free cs c\/(∀c ∈ cs,c.free=false)/\nZ (Pc.late i) cs c
def CV.mem {cs:List Pc} {i:Int} {c:Pc} (h:CV cs i c):c ∈ cs:=by
 rcases h with h|⟨_,h⟩
 ·exact h.1
 ·exact h.1
inductive Ao (CB CP:Addr) (vs:List V) (H:Hp) (Q:VK) (E0_:XK):Prop|mk (b pw sh d:Addr) (sp ev le nn nt mo pl:Int) (ps:List Addr) (cs:List Pc) (k:Nat) (p:Addr) (c:Pc) (_:vs=[.ref b,.ref p,.int pl]) (_:fT CB CP H b pw sh d sp ev le nn nt mo ps cs) (_:ps[k]?=some p) (_:cs[k]?=some c) (_:(cs.map Pc.n).Nodup) (_:(∀c ∈ cs,c.n<nn)) (_:cs.length<1000) (_:∀(q:Addr) (H':Hp),H q=none->(∀a o,H a=some o->a≠b->a≠d->a≠p->H' a=some o)->fT CB CP H' b pw sh d sp ev le (nn+1) nt mo (ps++[q]) (cs.set k { c with h:=pl }++[⟨nn,pl,c.h,pl,none⟩])->Q (.ref q) H')
def Ek (CB CP:Addr):Sp:=Ao CB CP
def vL:aK ["self","piece","place","other"] ["self","piece","place"] (aG pE):={rfl,rfl,rfl,⋯,rfl,⋯,⋯}
def zM (W:Wd P w K mg base N c):eG P w K mg base cY N.CB "cut_off" 4 (Ek N.CB N.CP):=W.d62.of λ{f _} F=>by
 refine F.ok vL (λvs H Q E h=>?_) (λa5 A a7 s H vs Q E hr h=>?_)
 ·let (b,pw,sh,d,sp,ev,le,y,nt,mo,g,ps,C,k,p,c,rfl,_):=h
  rfl
 ·intro X D
  let (b,pw,sh,d,sp,ev,le,y,nt,mo,g,ps,C,k,p,c,rfl,hb,hp,hc,nd,lt,ln,t):=h
  let a4:Room 3 (A.deeper (PyProof.Rows.envOfC "Book.cut_off" (aG pE) s.heap.objs.size f a5)):=hr.mono (by decide)
  refine {_,aE (dX (i:=3) vL.nd rfl (j0 rfl) (bD (pv 0) W.B.cl (Lf W) a4 aQ (aA (pv 2) (aA (bA (pv 1) rfl) aF))))
   (aE (cA (pv 1) (pv 2) rfl) (aH (bF (pv 3)))),?_}
  let ((dx,M),a1,a8):=id hb
  let (c',Z,lv,(O,r),aa):=aM a8 hp
  rw [hc] at Z
  cases Z
  refine {_,rfl,b,dx,_,rfl,M,rfl,_,rfl,_,rfl,p,N.CP,O,_,_,rfl,r,W.P.cl,W.P.nH,rfl,b,pw,sh,d,sp,ev,le,y,nt,mo,g,c.h,ps,C,rfl,hb,lt,ln,λq H1 k1 nq a6=>?_}
  let T:p≠b:=aI r M (by intro z;injection z with _ _ z;injection z with z;injection z with z;exact absurd z ⋯)
  let I:p≠d:=aI r a1 (by intro z;cases z)
  let j:=k1 _ _ r T I
  refine {_,rfl,_,rfl,p,N.CP,O,_,rfl,j,W.P.cl,W.P.nH,(by show 5<1000;decide),?_}
  rw [Rs]
  let ((a3,L),G,v):=id a6
  let lk:=(c9.mp hc).1
  let CK:=(c9.mp hp).1
  let Y:(ps++[q])[k]?=some p:=by rw [p7 CK];exact hp
  let x:(C++[{(y),g,c.h,g,none}])[k]?=some c:=by rw [p7 lk];exact hc
  let es:(C++[({(y),g,c.h,g,none}:Pc)]).set k { c with h:=g }=C.set k { c with h:=g }++[{(y),g,c.h,g,none}]:=List.set_append_left _ _ lk
  let a0:((C++[({(y),g,c.h,g,none}:Pc)]).map Pc.n).Nodup:=by
   rw [m9,M9];refine {nd,by simp,λa ha b hb z=>?_};let (e,he,rfl):=p9.mp ha;simp only [k7,O3,l9] at hb;have:=lt e he;omega
  let J:∀a o,a≠p->H1 a=some o->(aS H1 p (.ins N.CP O (pf c.n c.l g c.m lv))) a=some o:=λa o n e=>by rw [aC n];exact e
  let tp:∀a ys,H1 a=some (.tup ys)->(aS H1 p (.ins N.CP O (pf c.n c.l g c.m lv))) a=some (.tup ys):=λa ys e=>J _ _ (aI e j (by intro z;cases z)) e;let (c2,U,ad,(ac,u),S):=aM v Y;rw [x] at U;cases U;rw [j] at u;cases u;let pn:=kO v a0 Y x (c':={ c with h:=g }) (λq' e' a9 ⟨a2,⟨dz,ha'⟩,hl'⟩=>{a2,{dz,J _ _ a9 ha'},hl'.move tp}) {lv,{(O),aB},S.move tp};refine {_,rfl,t q _ nq (λa o e n1 n2 n3=>J _ _ n3 (k1 _ _ e n1 n2)) {{a3,J _ _ T.symm L},?_,es ▸ pn}};rw [<- es,uO (c':={ c with h:=g }) x rfl];exact J _ _ I.symm G
def yB (p:Int->Prop) [DecidablePred p]:V->Bool
 | .int i=>decide (p i)
 | _=>false
def mE {v:V} (h:fJ v=true):∃i,v=.int i:=by
 cases v with
 | int i=>exact {(i),rfl}
 | _=>cases h
def Lu {p:Int->Prop} [DecidablePred p] {v:V} (h:fJ v=false):yB p v=false:=by
 cases v with
 | int i=>cases h
 | _=>rfl
inductive Uu (CB CM:Addr) (vs:List V) (H:Hp) (Q:VK) (E:XK):Prop|mk (b pw sh d:Addr) (sp ev le nn nt mo:Int) (v:V) (_:vs=[.ref b,v]) (_:Pj CB H b pw sh d sp ev le nn nt mo) (_:sX H v) (_:(yB (mo<=·) v=true->Q .non H)) (_:(yB (mo<=·) v=false->E (.ref CM) none H))
def Hw (CB CM:Addr):Sp:=Uu CB CM
def uE (W:Wd P w K mg base N c):eG P w K mg base (jK P w) N.CB "check_moment" 2 (Hw N.CB (c 1)):=W.d54.of λF=>by
 refine F.okE EO (λq H Q E h=>?_) (λl A e s H q Q E y h=>?_)
 ·let (b,o,g,d,x,t,u,z,m,p,v,rfl,_):=h
  rfl
 ·intro X D
  let (b,o,g,d,x,t,u,z,m,p,v,rfl,(r,k),j,n,f):=h
  refine {_,aH (bP (PW.pt (gE (bZ (bX (aV (dB W) y aQ (aA (pv 1) aF)))) (eQ (cN iF (pv 1) (bA (pv 0) rfl) (bQ _))))) (aH (fY rfl W.x1.ex rfl W.x1.mB dO (aA eI aF))) aZ),?_}
  refine {_,rfl,_,rfl,j,_,rfl,?_}
  cases hv:fJ v with
  | false=>exact cH (cH {by show 1<=sizeLine;decide,f (Lu hv)})
  | true=>
   let (i,rfl):=mE hv
   refine bY {_,rfl,_,rfl,b,N.CB,r,_,_,rfl,k,W.B.cl,W.B.nM,rfl,_,_,rfl,rfl,_,rfl,?_}
   refine gO (λa=>{by show 1<=sizeLine;decide,f (decide_eq_false ?_)}) λa=>n (decide_eq_true ?_)
   ·have:=of_decide_eq_true a
    omega
   ·have:=of_decide_eq_false (G7.mpr a)
    omega
inductive Oy (CB CP CM CN CL:Addr) (vs:List V) (H:Hp) (Q:VK) (E:XK):Prop|mk (b pw sh d:Addr) (sp ev le nn nt mo:Int) (ps:List Addr) (cs:List Pc) (v u:V) (_:vs=[.ref b,v,u]) (_:fT CB CP H b pw sh d sp ev le nn nt mo ps cs) (_:sX H v) (_:sX H u) (_:(yB (mo<=·) u=false->E (.ref CM) none H)) (_:(yB (mo<=·) u=true->yB (λx=>0<=x/\x<nt) v=false->E (.ref CN) none H)) (_:(yB (mo<=·) u=true->∀tk,v=.int tk->0<=tk->tk<nt->(∀c ∈ cs,c.has tk=false)->∀H',aN H H'->E (.ref CL) none H')) (_:(yB (mo<=·) u=true->∀tk,v=.int tk->0<=tk->tk<nt->∀(k:Nat) (p:Addr) (c:Pc),ps[k]?=some p->cs[k]?=some c->c.has tk=true->(∀j e,cs[j]?=some e->j<k->e.has tk=false)->∀H',aN H H'->Q (.ref p) H'))
def Bm (CB CP CM CN CL:Addr):Sp:=Oy CB CP CM CN CL
theorem wZ {α:Type} (p:α->Bool):∀l:List α,(∀x ∈ l,p x=false)\/∃(k:Nat) (x:α),l[k]?=some x/\p x=true/\∀j e,l[j]?=some e->j<k->p e=false
 | []=>.inl λx h=>by cases h
 | a::l=>by
  cases e:p a with
  | true=>exact .inr {0,a,rfl,e,λj _ _ h=>absurd h (B8 _)}
  | false=>
   rcases wZ p l with h|⟨k,x,g,d,i⟩
   ·exact .inl λx f=>(g7.mp f).elim (λz=>by rw [z];exact e) (h x)
   ·refine .inr {k+1,x,g,d,λj y b m=>?_}
    cases j with
    | zero=>cases b;exact e
    | succ j=>exact i j y b ∎
def wI (W:Wd P w K mg base N c):eG P w K mg base (jK P w) N.CB "held_piece" 3 (Bm N.CB N.CP (c 1) (c 2) (c 3)):=W.d55.of λF=>by
 refine F.okE Iq (λvs H Q E h=>?_) (λa4 A a2 s H vs Q E hr h=>?_)
 ·let (b,pw,sh,d,sp,ev,le,nn,nt,mo,C,l,v,u,rfl,_):=h
  rfl
 ·intro X D
  let (b,pw,sh,d,sp,ev,le,nn,nt,mo,C,l,v,u,rfl,hb,kv,ku,q1,q2,q3,q4):=h
  refine {_,aE (cF (bD (pv 0) W.B.cl (uE W) hr (eS (E':=E) λ_ _ _ z=>z) (aA (pv 2) aF)))
   (aE (bP (PW.pt (gE (bZ (bX (aV (dB W) hr aQ (aA (pv 1) aF)))) (eQ (bZ (iT fP iF aY (pv 1) (bA (pv 0) rfl)))))) (aH (fY rfl W.x2.ex rfl W.x2.mB dO (aA eI aF))) aZ)
   (aE (Kg (eD M8 rfl (tY (uA (bA (pv 0) rfl))) (aO (i:=3) Iq.nd rfl (j0 rfl))
    (aH (bP (bX (bD (pv 3) W.P.cl (Ss W) hr aQ (aA (pv 1) aF))) (aH (bF (pv 3))) aZ)))) (aH (fY rfl W.x3.ex rfl W.x3.mB dO (aA eI aF))))),?_}
  let ((dx,t),r,Z):=id hb
  let nf:∀(o:Obj) (v:HO),H d≠some (.frz o v):=λo v z=>by rw [r] at z;cases z
  refine {_,rfl,b,dx,_,rfl,t,rfl,_,rfl,b,pw,sh,d,sp,ev,le,nn,nt,mo,u,rfl,{(dx),t},ku,λY=>?_,q1}
  refine {_,rfl,_,rfl,kv,_,rfl,?_}
  let f:1<=sizeLine:=by decide
  cases hv:fJ v with
  | false=>exact cH (cH {f,q2 Y (Lu hv)})
  | true=>
  let (y,rfl):=mE hv
  refine bY ?_
  by_cases t0:0<=y
  rotate_left
  ·refine {_,rfl,_,_,rfl,rfl,_,rfl,gA (decide_eq_false t0) {_,rfl,cH {f,q2 Y (decide_eq_false λz=>t0 z.1)}}}
  refine {_,rfl,_,_,rfl,rfl,_,rfl,eU (decide_eq_true t0) {_,rfl,b,N.CB,dx,_,_,rfl,t,W.B.cl,W.B.nT,rfl,_,_,rfl,rfl,_,rfl,?_}}
  by_cases t1:y<nt
  rotate_left
  ·rw [decide_eq_false t1]
   exact cH {f,q2 Y (decide_eq_false λz=>t1 z.2)}
  rw [decide_eq_true t1]
  refine bY ?_
  refine {_,rfl,b,N.CB,dx,_,_,rfl,t,W.B.cl,W.B.nB,rfl,.inr (.inr (.inl {rfl,.inl {_,r}})),d,_,rfl,rfl,r,λv nv=>?_}
  let s1:aN H (aS H v (fW v d)):=aJ nv
  let e1:(aS H v (fW v d)) v=some (fW v d):=aB
  generalize aS H v (fW v d)=H1 at s1 e1 ⊢
  let p:=s1 _ _ r
  let a3:=dG (aN.toT s1) Z
  refine {v,d,kC C l,rfl,e1,p,λo=>?_}
  let fz:(aS H1 d (.frz o (.dK (kC C l)))) d=some (.frz o (.dK (kC C l))):=aB
  let kp:∀a u,H1 a=some u->a≠d->(aS H1 d (.frz o (.dK (kC C l)))) a=some u:=λa u e n=>by rw [aC n];exact e
  let bk:aN H (aS (aS H1 d (.frz o (.dK (kC C l)))) d (.dK (kC C l))):=s1.trans (rR p (aN.refl _))
  generalize aS H1 d (.frz o (.dK (kC C l)))=H2 at fz kp bk ⊢
  obtain⟨m,hm,g,S⟩:∃m,m<=l.length/\(∀j e,l[j]?=some e->j<m->e.has y=false)/\∀c,l[m]?=some c->c.has y=true:=by
   rcases wZ (λc:Pc=>c.has y) l with h|⟨k,c,I,h2,h3⟩
   ·exact⟨l.length,d7 _,λj e he _=>h e (g6 he),λc M=>by have:=(c9.mp M).1;omega⟩
   ·exact {k,A7 (c9.mp I).1,h3,λL M=>by rw [I] at M;cases M;exact h2}
  refine Nc (a:=d) (o:=o) (kvs:=kC C l) (λi σ G=>i<=m/\G=H2/\∃x,σ=[some (.ref b),some (.int y),some u,x]) {i8 _,rfl,_,rfl} (λi σ G _ h=>by rw [h.2.1];exact fz) ?_ ?_
  ·rintro i e σ G he ⟨a0,rfl,x,rfl⟩;let (L,p',I,h2,rfl):=zZ he;let (a5,U,lv,(dp,O),a1):=aM a3 h2;rw [I] at U;cases U;let J:=kp _ _ O (aI O p (by intro z;cases z));let T:lU G lv L.o:=a1.move λq ys h=>kp _ _ h (aI h p (by intro z;cases z));refine lP ?_;refine {_,rfl,p',dp,_,rfl,J,rfl,_,rfl,p',_,_,_,_,y,lv,L.o,rfl,{(dp),J},T,_,rfl,?_};by_cases z:i=m
   ·subst z;exact eU (S L I) {_,rfl,d,o,_,fz,nf,q4 Y y rfl t0 t1 i p' L h2 I (S L I) g _ bk}
   ·exact gA (g i L I ∎) { ∎,rfl,_,rfl}
  ·rintro σ G ⟨a0,rfl,x,rfl⟩;rw [oF Z] at a0;refine {d,o,_,fz,nf,f,q3 Y y rfl t0 t1 (λc M=>?_) _ bk};let (j,hj):=j9.mp M;exact g j c hj (by have:=(c9.mp hj).1;omega)
end
end Ls
namespace L2
open PySem PySem.W
section
variable {P:Program} {w:World} {K:Frag} {mg:Str->Option Value} {base:Heap} {N:Cn} {c:Nat->Addr} {CX:nG} {k:Nat} {f:Addr} {fd:FuncData} {ps:List Str} {sp sp':Sp}
def bM.lift (F:bM P w K mg base cY k f fd ps sp):bM P w K mg base CX k f fd ps sp:=
 ⟨F.len,λA a s H b d j Q E l i g r h=>C0 (F.run A a s H b d j Q E l i g r h) λx m q=>by
  cases x with
  | ok fl=>cases fl <;> exact q
  | error e=>exact q.elim⟩
def bM.both (a:bM P w K mg base CX k f fd ps sp) (b:bM P w K mg base CX k f fd ps sp'):bM P w K mg base CX k f fd ps (λg H Q E=>sp g H Q E\/sp' g H Q E):=
 {λg H Q E h=>h.elim (a.len g H Q E) (b.len g H Q E),λA d s H e i g Q E m l j r h=>h.elim (a.run A d s H e i g Q E m l j r) (b.run A d s H e i g Q E m l j r)}
end
end L2
namespace Ls
open PySem L2 PySem.W
inductive Ap (CB CM:Addr) (vs:List V) (H:Hp) (Q0_:VK) (E:XK):Prop|mk (b pw sh d:Addr) (sp ev le nn nt mo:Int) (v:V) (_:vs=[.ref b,v]) (_:Pj CB H b pw sh d sp ev le nn nt mo) (_:sX H v) (_:yB (mo<=·) v=false) (_:E (.ref CM) none H)
def rW (CB CM:Addr):Sp:=Ap CB CM
section
variable {P:Program} {w:World} {K:Frag} {mg:Str->Option Value} {base:Heap} {N:Cn} {c:Nat->Addr}
def zN {f:Addr} {fd:FuncData} (F:rH K "choice" "Book.choice" gX f fd) (W:Wd P w K mg base N c):bM P w K mg base (jK P w) 3 f fd ["self","moment"] (rW N.CB (c 1)):=by
 refine F.okE gW (λx H Q E h=>?_) (λt A a s H x Q E C h=>?_)
 ·let (b,l,g,d,sp,n,o,p,j,m,v,rfl,_):=h;rfl
 ·intro X D;let (b,l,g,d,sp,n,o,p,j,m,v,rfl,i,r,u,q):=h;refine {_,aE (cF (bD (pv 0) W.B.cl (uE W) C (eS (E':=E) λ_ _ _ z=>z) (aA (pv 1) aF))) cQ,?_};let (y,e):=id i;exact {_,rfl,b,y,_,rfl,e,rfl,_,rfl,b,l,g,d,sp,n,o,p,j,m,v,rfl,i,r,λz=>absurd (u.symm.trans z) (by decide),λ_=>q}
def iM {H H':Hp} {T:Addr} {pos:Pos} {q:Str} (t:gD H T pos q) (k1:∀b,H T=some (.tbl b)->H' T=some (.tbl b)) (k2:∀a f,H a=some (.ext f)->H' a=some (.ext f)):gD H' T pos q:=by
 let (b,e,i,g):=t;refine {b,k1 _ e,i,?_};rcases g with z|⟨d,z,h⟩
 ·exact .inl z
 ·exact .inr {d,z,k2 _ _ h}
def FT (c:Nat):Bool:=(!decide ((⟨#[c]⟩:Str).cps.toList<("a":Str).cps.toList)) && !decide (("z":Str).cps.toList<(⟨#[c]⟩:Str).cps.toList)
def HY (x:Str):Bool:=decide (1<=x.length) && decide (x.length<=8) && x.cps.toList.all FT
def CW {x:Str} (h:HY x=true) (a:x.cps.all (·<128)=true):eN x:=by
 unfold HY at h;simp only [z8,decide_eq_true_eq,F0] at h;refine {h.1.1,h.1.2,a,λi c b=>?_};let z:=h.2 c (by
  have:x.cps.toList[i]?=some c:=by simpa using b
  exact j9.mpr {(i),this});unfold FT at z;rw [z8] at z;exact z
def rG (cs:List Pc) (le i:Int):Prop:=(∀c ∈ cs,c.free=false)/\(∀c ∈ cs,c.late i=false)/\∀c,nZ Pc.lent cs c->c.h-c.m<2 * le
inductive Ou (CB CP CM T:Addr) (vs:List V) (H:Hp) (Q:VK) (E:XK):Prop|mk (b pw sh d:Addr) (sp ev le nn nt mo i:Int) (x:Str) (ps:List Addr) (cs:List Pc) (_:vs=[.ref b,.str x,.int i]) (_:fT CB CP H b pw sh d sp ev le nn nt mo ps cs) (_:cs.length<1000) (_:(cs.map Pc.n).Nodup) (_:∀c ∈ cs,c.n<nn) (_:eN x) (_:gD H T kB fF)
 (_:i<mo->∀H',aN H H'->E (.ref CM) none H')
 (_:mo<=i->rG cs le i->∀H',cT T H H'->gD H' T kB fF->Q .non H')
 (_:mo<=i->∀(k:Nat) (p:Addr) (c:Pc) (r:Addr) (H':Hp),ps[k]?=some p->cs[k]?=some c->CV cs i c->(∀a o,H a=some o->a≠b->a≠p->a≠T->H' a=some o)->gD H' T kB fF ->
   fT CB CP H' b pw sh d sp ev le nn (nt+1) i ps (cs.set k { c with o:=some (nt,x,i+sp) })->H' r=some (.tup [.int nt,.int c.n,.int c.m,.int c.h,.int (i+sp)])->Q (.ref r) H')
 (_:mo<=i->∀(k:Nat) (p:Addr) (c:Pc) (q r:Addr) (pl:Int) (H':Hp),(∀c ∈ cs,c.free=false)->(∀c ∈ cs,c.late i=false)->ps[k]?=some p->cs[k]?=some c->nZ Pc.lent cs c->2 * le<=c.h-c.m->pl=c.h-(c.h-c.m) / 2->(∀a o,H a=some o->a≠b->a≠d->a≠p->a≠T->H' a=some o)->gD H' T kB fF->H q=none ->
   fT CB CP H' b pw sh d sp ev le (nn+1) (nt+1) i (ps++[q]) (cs.set k { c with h:=pl }++[⟨nn,pl,c.h,pl,some (nt,x,i+sp)⟩])->H' r=some (.tup [.int nt,.int nn,.int pl,.int c.h,.int (i+sp)])->Q (.ref r) H')
def tJ (CB CP CM T:Addr):Sp:=Ou CB CP CM T
def Sy {cs:List Pc} {k:Nat} {c:Pc} {pl:Int} (a:cs[k]?=some c):(cs.set k { c with h:=pl }).map Pc.n=cs.map Pc.n:=by
 rw [List.map_set];refine J0 λi=>?_;by_cases z:k=i
 ·subst z;rw [B4 (by rw [f8];exact(c9.mp a).1),i7,a];rfl
 ·rw [w5 z]
def FB {n l h m:Int} {e:V} {pw sh d:Addr} {sp b a nn nt mo:Int}:¬ (pf n l h m e).length=(bf pw sh d sp b a nn nt mo).length:=by show ¬ 5=9;decide
def Fk {f j g:Addr} {cdv:Value} {A:Around} {outer:List Env} {s:Shared} {H:Hp} {E:XK} (F:Bl K mg j) (TP:Pl K mg g):
  ∃t,qS (jC (jK P w) P w K mg base ["self","worker","moment","chosen","piece","token","until"] "Book.lend" (aG tO) f cdv A outer s H E) ((bH tO).drop 5) t /\
   ∀(D:eO) (b pw sh d p:Addr) (sp L J nn nt mo i:Int) (x:Str) (ps:List Addr) (cs:List Pc) (k:Nat) (c:Pc) (o3 o5 o6:Option V) (B:Hp),fT j g B b pw sh d sp L J nn nt mo ps cs->ps[k]?=some p->cs[k]?=some c->(cs.map Pc.n).Nodup ->
    (∀r H',(∀a o,B a=some o->a≠b->a≠p->H' a=some o)->fT j g H' b pw sh d sp L J nn (nt+1) i ps (cs.set k { c with o:=some (nt,x,i+sp) })->H' r=some (.tup [.int nt,.int c.n,.int c.m,.int c.h,.int (i+sp)])->D.rt (.ref r) H') ->
    t D [some (.ref b),some (.str x),some (.int i),o3,some (.ref p),o5,o6] B:=by
 refine {_,aE (dX (i:=5) mI.nd rfl (j0 rfl) (bA (pv 0) rfl))
   (aE (dX (i:=6) mI.nd rfl (j0 rfl) (cE eK (pv 2) (bA (pv 0) rfl)))
   (aE (cA (pv 4) (cD (aA (pv 5) (aA (pv 1) (aA (pv 6) aF)))) rfl)
   (aE (cA (pv 0) (cE eK (pv 5) aY) rfl)
   (aE (cA (pv 0) (pv 2) rfl)
   (aH (bF (cD (aA (pv 5) (aA (bA (pv 4) rfl) (aA (bA (pv 4) rfl) (aA (bA (pv 4) rfl) (aA (pv 6) aF)))))))))))),?_};intro D b pw sh d p sp L J nn nt mo i x ps cs k c o3 o5 o6 B hb U hk nd t;let ((v,u),O,W):=id hb;let (c',a0,lv,(y,M),a4):=aM W U;rw [hk] at a0;cases a0;refine {_,rfl,b,j,v,_,_,rfl,u,F.cl,F.nT,rfl,_,rfl,_,rfl,b,j,v,_,_,rfl,u,F.cl,F.nS,rfl,_,_,rfl,rfl,_,rfl,_,rfl,_,rfl,by show 3<=sizeLine;decide,λq nq=>?_};let Q:aN B (aS B q (.tup [.int nt,.str x,.int (i+sp)])):=aJ nq;let e3:(aS B q (.tup [.int nt,.str x,.int (i+sp)])) q=some (.tup [.int nt,.str x,.int (i+sp)]):=aB;generalize aS B q (.tup [.int nt,.str x,.int (i+sp)])=S at Q e3 ⊢;let I:=Q _ _ M;let C:=Q _ _ u;let X:∀{p' c2 a1 n l h m} {lv:V},B p'=some (.ins c2 a1 (pf n l h m lv))->p'≠b:=λz=>aI z u (by intro z;injection z with _ _ z;exact absurd (congrArg List.length z) FB);let G:=X M;refine {_,rfl,p,g,y,_,rfl,I,TP.cl,TP.nD,(by show 5<1000;decide),?_};rw [tZ];refine {_,rfl,_,_,rfl,rfl,_,rfl,b,j,v,_,rfl,(by rw [aC G.symm];exact C),F.cl,F.nT,(by show 9<1000;decide),?_};rw [Od];refine {_,rfl,_,rfl,b,j,v,_,rfl,aB,F.cl,F.nM,(by show 9<1000;decide),?_};rw [bO,sW];let k5:∀a o,S a=some o->a≠p->a≠b->(aS (aS S p (.ins g y (pf c.n c.l c.h c.m (.ref q)))) b (.ins j v (bf pw sh d sp L J nn (nt+1) i))) a=some o:=λa o e T Z=>by
  rw [aC Z,aC T];exact e
 let p5:(aS (aS S p (.ins g y (pf c.n c.l c.h c.m (.ref q)))) b (.ins j v (bf pw sh d sp L J nn (nt+1) i))) p=some (.ins g y (pf c.n c.l c.h c.m (.ref q))):=by rw [aC G,aB]
 let b5:(aS (aS S p (.ins g y (pf c.n c.l c.h c.m (.ref q)))) b (.ins j v (bf pw sh d sp L J nn (nt+1) i))) b=some (.ins j v (bf pw sh d sp L J nn (nt+1) i)):=aB;generalize aS (aS S p (.ins g y (pf c.n c.l c.h c.m (.ref q)))) b (.ins j v (bf pw sh d sp L J nn (nt+1) i))=H5 at k5 p5 b5 ⊢;refine {_,rfl,_,rfl,p,g,y,_,_,rfl,p5,TP.cl,TP.nN,rfl,_,rfl,p,g,y,_,_,rfl,p5,TP.cl,TP.nM,rfl,_,rfl,p,g,y,_,_,rfl,p5,TP.cl,TP.nH,rfl,_,rfl,by show 5<=sizeLine;decide,λr nr=>?_};let s6:∀a o,S a=some o->a≠p->a≠b->(aS H5 r (.tup [.int nt,.int c.n,.int c.m,.int c.h,.int (i+sp)])) a=some o:=λa o e T Z=>aJ nr _ _ (k5 _ _ e T Z);let tp:∀a Y,S a=some (.tup Y)->(aS H5 r (.tup [.int nt,.int c.n,.int c.m,.int c.h,.int (i+sp)])) a=some (.tup Y):=λa Y e=>s6 _ _ e (aI e I (by intro z;cases z)) (aI e C (by intro z;cases z));refine t r _ (λa o e T Z=>s6 _ _ (Q _ _ e) Z T) {{v,aJ nr _ _ b5},?_,?_} aB
 ·rw [uO (c':={ c with o:=some (nt,x,i+sp) }) hk rfl];exact s6 _ _ (Q _ _ O) (aI O M (by intro z;cases z)) (aI O u (by intro z;cases z))
 ·exact kO W nd U hk (λq' e' a3 ⟨a2,⟨dz,ha'⟩,hl'⟩=>{a2,{dz,s6 _ _ (Q _ _ ha') a3 (X ha')},hl'.move λa Y z=>tp a Y (Q _ _ z)}) {.ref q,{y,aJ nr _ _ p5},tp _ _ e3}
def Li (GC:eG P w K mg base (jK P w) N.CB "choice" 5 (λvs H Q E=>vH N.CB N.CP N.T1 vs H Q E\/rW N.CB (c 1) vs H Q E)) (W:Wd P w K mg base N c):eG P w K mg base (jK P w) N.CB "lend" 6 (tJ N.CB N.CP (c 1) N.T1):=W.d45.of λ{f _} F=>by
 refine F.okE mI (λvs H Q E h=>?_) (λcdv A outer s H vs Q E hr h=>?_)
 ·let (b,T,U,d,Y,ev,le,I,S,L,i,x,J,G,rfl,_):=h
  rfl
 intro X D
 let (b,T,U,d,Y,ev,le,I,S,L,i,x,J,G,rfl,hb,lc,nd,lt,wx,tb,qM,qN,qP,qC):=h
 let (tT,pT,hT):=Fk (P:=P) (w:=w) (base:=base) (f:=f) (cdv:=cdv) (A:=A) (outer:=outer) (s:=s) (H:=H) (E:=E) W.B W.P
 refine {_,aE (cF (aV (wJ W) hr aQ (aA (pv 1) aF)))
   (aE (dX (i:=3) mI.nd rfl (j0 rfl) (bD (pv 0) W.B.cl GC hr (eS (E':=E) λ_ _ _ z=>z) (aA (pv 2) aF)))
   (aE (bP (cN zG (pv 3) iV (bQ _)) (aH (bF iV)) aZ)
   (aE (dX (i:=4) mI.nd rfl (j0 rfl) (bD (pv 0) W.B.cl (Cy W) hr aQ (aA (dN dJ (pv 3) aY (λ_ _=>rfl)) aF)))
   (aE (bP (cN sB (dN dJ (pv 3) aY (λ_ _=>rfl)) eI (bQ _)) (aH (dX (i:=4) mI.nd rfl (j0 rfl) (bD (pv 0) W.B.cl (zM W) hr aQ (aA (pv 4) (aA (dN dJ (pv 3) aY (λ_ _=>rfl)) aF))))) aZ)
   pT)))),?_}
 refine {_,rfl,x,rfl,wx,λH1 s1=>?_}
 let a2:=hb.sameT (aN.toT s1)
 let (dx,Z):=a2.ob
 refine {_,rfl,b,dx,_,rfl,Z,rfl,_,rfl,?_}
 by_cases hi:L<=i
 rotate_left
 ·exact .inr {b,T,U,d,Y,ev,le,I,S,L,.int i,rfl,{(dx),Z},.kn (.int _),decide_eq_false hi,qM ∎ _ s1}
 refine .inl {b,T,U,d,Y,ev,le,I,S,L,i,J,G,rfl,a2,∎,hi,tb.same s1,λv H2 kt O ch=>?_}
 let st:iG H1 H2:=by
  let (qs,e,_):=tb.same s1;exact kt.toT e
 let C:=a2.sameT st;let ((a3,u),a6,a4):=id C;let a5:∀c ∈ G,∃k p dp lv,G[k]?=some c/\J[k]?=some p/\H2 p=some (.ins N.CP dp (pf c.n c.l c.h c.m lv)):=λc hc=>by
  let (k,y):=j9.mp hc;let hl:k<J.length:=by have:=a4.length;have:=(c9.mp y).1;omega
  let (c',a7,lv,(dp,g),ac):=aM a4 (c8 hl);rw [y] at a7;cases a7;exact {k,_,dp,lv,y,c8 hl,g}
 let M:∀a o,H a=some o->a≠N.T1->H2 a=some o:=λa o e n=>kt _ _ n (s1 _ _ e);cases ch with
 | non h1 h2 h3=>exact {_,rfl,rfl,_,rfl,cH (qN hi {(h1),h2,h3} H2 (λa o n e=>M a o e n) O)}
 | @pc c r0 bc e2=>
  let bc:CV G i c:=bc;let (k,p,dp,lv,y,t,g):=a5 c bc.mem;refine {_,rfl,rfl,_,rfl,bY {_,rfl,b,a3,_,rfl,u,rfl,_,rfl,r0,_,_,_,rfl,rfl,bN.of e2,bV (j:=1) rfl,b,T,U,d,Y,ev,le,I,S,L,J,G,k,p,c,rfl,C,t,y,nd,_,rfl,r0,_,_,_,rfl,rfl,bN.of e2,bV (j:=0) rfl,rfl,_,rfl,gA ⋯ ?_}};refine hT _ b T U d p Y ev le I S L i x J G k c _ _ _ H2 C t y nd λr H' kp bk a1=>qP hi k p c r H' t y bc (λa o e n1 n2 n3=>kp _ _ (M a o e n3) n1 n2) (iM O (λqs e=>kp _ _ e (aI e u (by intro z;cases z)) (aI e g (by intro z;cases z))) λa f e=>kp _ _ e (aI e u (by intro z;cases z)) (aI e g (by intro z;cases z))) bk a1
 | @cut c r0 h1 h2 bc hl e2=>
  let (k,p,dp,lv,y,t,g):=a5 c bc.1;refine {_,rfl,rfl,_,rfl,bY {_,rfl,b,a3,_,rfl,u,rfl,_,rfl,r0,_,_,_,rfl,rfl,bN.of e2,bV (j:=1) rfl,b,T,U,d,Y,ev,le,I,S,L,J,G,k,p,c,rfl,C,t,y,nd,_,rfl,r0,_,_,_,rfl,rfl,bN.of e2,bV (j:=0) rfl,rfl,_,rfl,eU ⋯ ?_}};refine {_,rfl,b,a3,_,rfl,u,rfl,_,rfl,_,rfl,r0,_,_,_,rfl,rfl,bN.of e2,bV (j:=2) rfl,b,T,U,d,Y,ev,le,I,S,L,_,J,G,k,p,c,rfl,C,t,y,nd,lt,lc,λq H3 nq kc a8=>?_};let lX:(G.set k { c with h:=c.h-(c.h-c.m) / 2 }).length=J.length:=by rw [L1];exact a4.length.symm
  let a9:((G.set k { c with h:=c.h-(c.h-c.m) / 2 }++[({I,c.h-(c.h-c.m) / 2,c.h,c.h-(c.h-c.m) / 2,none}:Pc)]).map Pc.n).Nodup:=by
   rw [m9,Sy y,M9];refine {nd,by simp,λa ha b hb z=>?_};let (e,he,rfl):=p9.mp ha;simp only [k7,O3,l9] at hb;have:=lt e he;omega
  refine hT _ b T U d q Y ev le (I+1) S L i x _ _ J.length {I,c.h-(c.h-c.m) / 2,c.h,c.h-(c.h-c.m) / 2,none} _ _ _ H3 a8 (by simp) (by rw [<- lX];simp) a9 λr H' kp bk a1=>?_;rw [List.set_append_right _ _ ∎,lX,Nat.sub_self] at bk;let a0:∀a o,H2 a=some o->a≠b->a≠d->a≠p->H' a=some o:=λa o e n1 n2 n3=>kp _ _ (kc _ _ e n1 n2 n3) n1 (λz=>by rw [z,nq] at e;cases e);let aa:H q=none:=by
   cases e:H q with
   | none=>rfl
   | some o=>
    by_cases z:q=N.T1
    ·let (_,e',_):=O;rw [<- z,nq] at e';cases e'
    ·rw [M _ _ e z] at nq;cases nq
  exact qC hi k p c q r _ H' h1 h2 t y bc hl rfl (λa o e n1 n2 n3 n4=>a0 _ _ (M a o e n4) n1 n2 n3) (iM O (λqs e=>a0 _ _ e (aI e u (by intro z;cases z)) (aI e a6 (by intro z;cases z)) (aI e g (by intro z;cases z))) λa f e=>a0 _ _ e (aI e u (by intro z;cases z)) (aI e a6 (by intro z;cases z)) (aI e g (by intro z;cases z))) aa bk a1
inductive Ak (CB CP CM CN CL CT:Addr) (vs:List V) (H:Hp) (E:XK):Prop|mk (b pw sh d:Addr) (sp ev le nn nt mo:Int) (ps:List Addr) (cs:List Pc) (v pl ns u:V) (_:vs=[.ref b,v,pl,ns,u]) (_:fT CB CP H b pw sh d sp ev le nn nt mo ps cs) (_:sX H v) (_:sX H u) (_:sX H pl) (_:(yB (mo<=·) u=false->E (.ref CM) none H)) (_:(yB (mo<=·) u=true->yB (λx=>0<=x/\x<nt) v=false->E (.ref CN) none H)) (_:(yB (mo<=·) u=true->∀tk,v=.int tk->0<=tk->tk<nt->(∀c ∈ cs,c.has tk=false)->∀H',aN H H'->E (.ref CL) none H')) (_:(yB (mo<=·) u=true->∀tk,v=.int tk->0<=tk->tk<nt->∀(k:Nat) (p:Addr) (c:Pc),ps[k]?=some p->cs[k]?=some c->c.has tk=true->(∀j e,cs[j]?=some e->j<k->e.has tk=false)->yB (λx=>c.l<=x/\x<=c.m) pl=false/\∀H',aN H H'->E (.ref CT) none H'))
def jR (CB CP CM CN CL CT:Addr):Sp:=λvs H _ E=>Ak CB CP CM CN CL CT vs H E
def zH (W:Wd P w K mg base N c):eG P w K mg base (jK P w) N.CB "piece_to_tell" 4 (jR N.CB N.CP (c 1) (c 2) (c 3) (c 4)):=W.d56.of λ{f _} F=>by
 refine F.okE gU (λvs H Q E h=>?_) (λy A G s H vs Q E Z h=>?_)
 ·let (b,M,T,d,Y,ev,le,S,L,O,ps,cs,v,pl,ns,u,rfl,_):=h
  rfl
 ·intro X D
  let (b,M,T,d,Y,ev,le,S,L,O,ps,cs,v,pl,ns,u,rfl,I,kv,ku,kp,q1,q2,q3,q4):=h
  let j:Room 1 (A.deeper (PyProof.Rows.envOfC "Book.piece_to_tell" (aG pB) s.heap.objs.size f y)):=Z.mono (by decide)
  refine {_,aE (dX (i:=5) gU.nd rfl (j0 rfl) (bD (pv 0) W.B.cl (wI W) Z (eS (E':=E) λ_ _ _ z=>z) (aA (pv 1) (aA (pv 4) aF))))
   (aE (bP (PW.pt (gE (bZ (bX (aV (dB W) j aQ (aA (pv 2) aF)))) (eQ (bZ (iT fP fP (bA (pv 5) rfl) (pv 2) (bA (pv 5) rfl)))))) (aH (fY rfl W.x4.ex rfl W.x4.mB dO (aA eI aF))) aZ) cQ),?_}
  let (dx,r):=I.ob
  let a:1<=sizeLine:=by decide
  refine {_,rfl,b,dx,_,rfl,r,rfl,_,rfl,_,rfl,b,M,T,d,Y,ev,le,S,L,O,ps,cs,v,u,rfl,I,kv,ku,q1,q2,q3,λhu tk hv t0 t1 k p c hp U hh hf H1 n=>?_}
  let (no,q):=q4 hu tk hv t0 t1 k p c hp U hh hf
  let q:=q H1 n
  let C:=I.sameT (aN.toT n)
  let (c',g,lv,(t,e),a0):=aM C.pc hp
  rw [U] at g
  cases g
  refine {_,rfl,_,rfl,kp.same n,_,rfl,?_}
  cases hw:fJ pl with
  | false=>exact cH (cH {(a),q})
  | true=>
  let (x,rfl):=mE hw
  refine bY ?_
  by_cases o:c.l<=x
  rotate_left
  ·exact {_,rfl,p,N.CP,t,_,_,rfl,e,W.P.cl,W.P.nL,rfl,_,rfl,_,_,rfl,rfl,_,rfl,gA (decide_eq_false o) {_,rfl,cH {(a),q}}}
  refine {_,rfl,p,N.CP,t,_,_,rfl,e,W.P.cl,W.P.nL,rfl,_,rfl,_,_,rfl,rfl,_,rfl,eU (decide_eq_true o) {_,rfl,p,N.CP,t,_,_,rfl,e,W.P.cl,W.P.nM,rfl,_,_,rfl,rfl,_,rfl,?_}}
  by_cases J:x<=c.m
  ·exact absurd (decide_eq_true (p:=c.l<=x/\x<=c.m) {(o),J}) (by have z:decide (c.l<=x/\x<=c.m)=false:=no;rw [z];decide)
  ·rw [decide_eq_false J]
   exact cH {(a),q}
def zJ {f:Addr} {m:FuncData} {sp:Sp} {n:Nat} (F:rH K "tell" "Book.tell" pC f m) (t:∀e H Q y E,sp e H Q E->sp e H y E) (a:∀e H Q E,sp e H Q E->∃(b pw sh d:Addr) (sp g j nn nt mo:Int) (v pl ns u:V),e=[.ref b,v,pl,ns,u]/\Pj N.CB H b pw sh d sp g j nn nt mo) (q:eG P w K mg base (jK P w) N.CB "piece_to_tell" n sp) (W:Wd P w K mg base N c):bM P w K mg base (jK P w) (n+1) f m ["self","token","place","numbers","moment"] sp:=by
 refine F.okE tM (λe H Q E h=>?_) (λp A k s H e Q E x h=>?_)
 ·let (b,pw,sh,d,sp,g,j,nn,nt,mo,v,pl,ns,u,rfl,_):=a _ _ _ _ h;rfl
 ·intro X D;let (b,pw,sh,d,o,g,j,nn,nt,mo,v,pl,ns,u,rfl,(r,l)):=a _ _ _ _ h;refine {_,aE (dX (i:=5) tM.nd rfl (j0 rfl) (bD (pv 0) W.B.cl q x (eS (E':=E) λ_ _ _ z=>z) (aA (pv 1) (aA (pv 2) (aA (pv 3) (aA (pv 4) aF)))))) cQ,?_};exact {_,rfl,b,r,_,rfl,l,rfl,_,rfl,_,rfl,_,rfl,_,rfl,t _ _ _ _ _ h}
def Kx {f:Addr} {a:FuncData} (F:rH K "tell" "Book.tell" pC f a) (W:Wd P w K mg base N c):bM P w K mg base (jK P w) 5 f a ["self","token","place","numbers","moment"] (jR N.CB N.CP (c 1) (c 2) (c 3) (c 4)):=
 zJ F (λ_ _ _ _ _ h=>h) (λr H Q E h=>by
  let (b,k,e,d,o,m,n,q,j,l,s,t,v,i,p,u,rfl,g,_):=h
  exact {(b),k,e,d,o,m,n,q,j,l,v,i,p,u,rfl,g.ob}) (zH W) W
inductive Am (CB CS CP CT CO:Addr) (vs:List V) (H:Hp) (Q:VK) (E:XK):Prop|mk (b pw sh d pw' d' nr:Addr) (sp ev le nn nt mo tk i pl:Int) (ps:List Addr) (cs:List Pc) (k:Nat) (p:Addr) (c:Pc) (ws:Lm.Ps) (kvs:List (cC × V)) (ns:List Int) (_:vs=[.ref b,.int tk,.int pl,.ref nr,.int i]) (_:fT CB CP H b pw sh d sp ev le nn nt mo ps cs) (_:cO CS H sh pw' d' ws kvs) (_:mo<=i) (_:0<=tk) (_:tk<nt) (_:ps[k]?=some p) (_:cs[k]?=some c) (_:c.has tk=true) (_:(∀j e,cs[j]?=some e->j<k->e.has tk=false)) (_:H nr=some (.tup (ns.map V.int))) (_:ns.length<=1000) (_:c.l<=pl) (_:pl<=c.m) (_:-(2 ^ 61)<=pl) (_:pl<=2 ^ 61) (_:(∀(j:Nat) n,ns[j]?=some n->pl+(j:Int)<c.m->∃x,cV kvs (Sum.inl (pl+(j:Int)):cC)=some (.int x))) (_:(c.m+ev<pl+ns.length->∀H',aN H H'->E (.ref CT) none H')) (_:(pl+ns.length<=c.m+ev->(∃(j:Nat) (n x:Int),ns[j]?=some n/\pl+(j:Int)<c.m/\cV kvs (Sum.inl (pl+(j:Int)):cC)=some (.int x)/\n≠x)->∀H',aN H H'->E (.ref CO) none H')) (_:(pl+ns.length<=c.m+ev->(∀(j:Nat) n,ns[j]?=some n->pl+(j:Int)<c.m->cV kvs (Sum.inl (pl+(j:Int)):cC)=some (.int n))->∀H',aN H H'->Q (.ref p) H'))
def rV (CB CS CP CT CO:Addr):Sp:=Am CB CS CP CT CO
def zI (GH:eG P w K mg base cY N.CB "held_piece" 3 (yM N.CB N.CP)) (W:Wd P w K mg base N c):eG P w K mg base (jK P w) N.CB "piece_to_tell" 4 (rV N.CB N.CS N.CP (c 4) (c 5)):=W.d56.of λF=>by
 refine F.okE gU (λvs H Q E h=>?_) (λa7 A a2 s H vs Q E hr h=>?_)
 ·let (b,pw,sh,d,a0,d',O,sp,ev,le,nn,nt,mo,tk,i,f,ps,cs,k,p,c,ws,o,t,rfl,_):=h
  rfl
 ·intro X D
  let (b,pw,sh,d,a0,d',O,sp,ev,le,nn,nt,mo,tk,i,f,ps,cs,k,p,c,ws,o,t,rfl,hb,hs,hi,t0,t1,hp,r,ht,a4,hn,ln,p1,p2,p4,p5,kn,qT,qO,qR):=h
  let sl:sizeLine=16777216:=sizeLine_eq
  let ((dx,L),a8,a3):=id hb
  let (c',T,lv,(dp,J),a5):=aM a3 hp
  rw [r] at T
  cases T
  refine Wp.ex {_,aE (dX (i:=5) gU.nd rfl (j0 rfl) (bD (pv 0) W.B.cl GH hr aQ (aA (pv 1) (aA (pv 4) aF)))) aU,?_}
  refine {_,rfl,b,dx,_,rfl,L,rfl,_,rfl,_,rfl,b,pw,sh,d,sp,ev,le,nn,nt,mo,tk,i,ps,cs,k,p,c,rfl,hb,hi,t0,t1,hp,r,ht,a4,λH1 s1=>?_}
  let I:=s1 _ _ J
  refine {_,aE (bP (PW.pt (gE (bZ (bX (aV (dB W) hr aQ (aA (pv 2) aF)))) (eQ (bZ (iT fP fP (bA (pv 5) rfl) (pv 2) (bA (pv 5) rfl)))))) cQ aZ) aU,?_}
  refine {_,rfl,_,rfl,.kn (.int _),_,rfl,bY ?_}
  refine {_,rfl,p,N.CP,dp,_,_,rfl,I,W.P.cl,W.P.nL,rfl,_,rfl,_,_,rfl,rfl,_,rfl,eU (decide_eq_true p1) {_,rfl,p,N.CP,dp,_,_,rfl,I,W.P.cl,W.P.nM,rfl,_,_,rfl,rfl,_,rfl,gA (by rw [decide_eq_true p2];rfl) ?_}}
  refine {_,aE (bP (bZ (bX (aV (pK W) hr aQ (aA (pv 3) aF)))) cQ aZ) aU,?_}
  refine {_,rfl,O,t,rfl,s1 _ _ hn,ln,λH2 s2=>{_,rfl,bY ?_}}
  let C:=s1.trans s2
  let a1:=C _ _ J
  let Y:=C _ _ L
  refine {_,aE (bP (cN Kv (cE eK (pv 2) (bB bU (by rfl) W.G.len PySem.boot_len (aA (pv 3) aF))) (cE eK (bA (pv 5) rfl) (bA (pv 0) rfl)) (bQ _)) (aH (fY rfl W.x4.ex rfl W.x4.mB dO (aA eI aF))) aZ) aU,?_}
  refine {_,rfl,_,rfl,O,_,rfl,.inr (bN.of (C _ _ hn)),_,_,rfl,rfl,_,rfl,p,N.CP,dp,_,_,rfl,a1,W.P.cl,W.P.nM,rfl,_,rfl,b,N.CB,dx,_,_,rfl,Y,W.B.cl,W.B.nE,rfl,_,_,rfl,rfl,_,_,rfl,rfl,_,rfl,?_}
  rw [f8]
  refine gO (λr=>?_) λr=>?_
  ·let r:=of_decide_eq_true r
   exact {by show 1<=sizeLine;decide,qT ∎ _ C}
  let p3:f+t.length<=c.m+ev:=by
   have:¬ (c.m+ev<f+(t.length:Int)):=λz=>r (decide_eq_true z);omega
  refine {_,aE (eD M8 rfl (Cp (by rfl) W.G.enum sO (aA (pv 3) aF) (tX (pv 2) yZ)) (dY (n:=2) rfl (aX (aO (i:=6) gU.nd rfl (j0 rfl)) (aX (aO (i:=7) gU.nd rfl (j0 rfl)) dA))) aU) aU,?_};refine {_,rfl,_,rfl,O,f,rfl,rfl,Dp p4 p5,{_,bN.of (C _ _ hn)},wW (K:=K) (a:=O) (d:=f) (xs:=t.map V.int) (λj σ G=>aN H2 G/\(∀(g:Nat) n,g<j->t[g]?=some n->f+(g:Int)<c.m->cV o (Sum.inl (f+(g:Int)):cC)=some (.int n))/\∃u v,σ=[some (.ref b),some (.int tk),some (.int f),some (.ref O),some (.int i),some (.ref p),u,v]) {aN.refl _,λg n h=>absurd h (B8 _),_,_,rfl} (λj σ G _ h=>bN.of (h.1 _ _ (C _ _ hn))) ?_ ?_}
  ·rintro j y σ G q hj ⟨Z,al,u,v,rfl⟩ nq;let s3:aN G (aS G q (.tup [.int (f+(j:Int)),y])):=aJ nq;let e3:(aS G q (.tup [.int (f+(j:Int)),y])) q=some (.tup [.int (f+(j:Int)),y]):=aB;generalize aS G q (.tup [.int (f+(j:Int)),y])=G3 at s3 e3 ⊢;let t3:=C.trans (Z.trans s3);obtain⟨n,M,rfl⟩:∃n,t[j]?=some n/\y=.int n:=by
    rw [i7] at hj;cases z:t[j]? with
    | none=>rw [z] at hj;cases hj
    | some n=>rw [z] at hj;exact {n,rfl,(Option.some.inj hj).symm}
   let up:(f+(j:Int)<c.m->cV o (Sum.inl (f+(j:Int)):cC)=some (.int n))->∀(g:Nat) n,g<j+1->t[g]?=some n->f+(g:Int)<c.m->cV o (Sum.inl (f+(g:Int)):cC)=some (.int n):=λh g n' a6 e l=>by
    by_cases z:g<j
    ·exact al g n' z e l
    ·have:g=j:=∎;subst this;rw [M] at e;cases e;exact h l
   refine {q,_,rfl,bN.of e3,rfl,_,_,rfl,_,_,rfl,rfl,?_};refine {_,aH (bP (PW.pt (fX (cN iF (pv 6) (bA (pv 5) rfl) (bQ _)) (eW (cN Cv (pv 7) (bD (bA (pv 0) rfl) W.S.cl (AA W) hr aQ (aA (pv 6) aF)) (bQ _))))) (aH (fY rfl W.x5.ex rfl W.x5.mB dO (aA eI aF))) aZ),?_};refine {_,rfl,_,rfl,p,N.CP,dp,_,_,rfl,t3 _ _ J,W.P.cl,W.P.nM,rfl,_,_,rfl,rfl,_,rfl,?_};refine gO (λr=>?_) λr=>bY {Z.trans s3,up λz=>absurd (decide_eq_true z) r,_,_,rfl};let U:f+(j:Int)<c.m:=by simpa using r
   let S3:=hs.same t3;let (dz,hz):=S3.ob;let (x,hx):=kn j n M U;refine {_,rfl,_,rfl,b,N.CB,dx,_,_,rfl,t3 _ _ L,W.B.cl,W.B.nH,rfl,sh,dz,_,rfl,hz,jX _ _ ⋯ ⋯,_,rfl,sh,a0,d',ws,o,.int (f+(j:Int)),rfl,S3,.kn (.int _),(λz=>nomatch z),λi' e=>?_};cases e;rw [hx];refine {rfl,_,rfl,?_};by_cases z:n=x
   ·subst z;exact FW rfl {Z.trans s3,up λ_=>hx,_,_,rfl}
   ·refine eU ?_ {by show 1<=sizeLine;decide,qO p3 {(j),n,x,M,U,hx,z} _ t3};show (!decide (V.int n=V.int x))=true;rw [decide_eq_false λy=>z (V.int.inj y)];rfl
  ·rintro σ G ⟨Z,al,u,v,rfl⟩;refine {_,aH (bF (pv 5)),?_};exact {_,rfl,qR p3 (λj n e l=>al j n (by rw [f8];exact(c9.mp e).1) e l) _ (C.trans Z)}
end
end Ls
namespace L2
open PySem PySem.W
def bM.calm {P:Program} {w:World} {K:Frag} {mg:Str->Option Value} {base:Heap} {k:Nat} {f:Addr} {fd:FuncData} {ps:List Str} {sp:Sp} (F:bM P w K mg base (jK P w) k f fd ps sp):bM P w K mg base cY k f fd ps (λd H Q _=>sp d H Q E0):=
 ⟨λd H Q E h=>F.len d H Q E0 h,λA a s H b g d Q E l j i r h=>C0 (F.run A a s H b g d Q E0 l j i r h) λx m q=>by
  cases x with
  | ok fl=>cases fl <;> exact q
  | error e=>
   let (_,_,_,_,_,_,_,_,_,z):=q
   exact z.elim⟩
end L2
namespace Ls
open PySem L2 PySem.W
section
variable {P:Program} {w:World} {K:Frag} {mg:Str->Option Value} {base:Heap} {N:Cn} {c:Nat->Addr} {f CB CS CP CM CN CL CT CO:Addr} {fd:FuncData} {k:Nat} {xs:List Str}
def lM {p:Int->Prop} [DecidablePred p] {i:Int} {A:Prop} (h:p i) (z:yB p (.int i)=false):A:=absurd h (of_decide_eq_false z)
def Lw (G:bM P w K mg base (jK P w) k f fd xs (Hw CB CM)):bM P w K mg base cY k f fd xs (tI CB):=G.calm.imp λs H Q E h=>by
 let (b,j,a,d,o,m,n,r,g,l,i,rfl,e,p,q):=h
 exact {b,j,a,d,o,m,n,r,g,l,.int i,rfl,e,.kn (.int _),λ_=>q,λz=>lM p z}
def Tj (G:bM P w K mg base (jK P w) k f fd xs (Bm CB CP CM CN CL)):bM P w K mg base cY k f fd xs (yM CB CP):=G.calm.imp λvs H Q E h=>by
 let (b,y,C,d,D,U,I,B,s,A,F,i,X,Y,j,p,c,rfl,O,Z,J,S,hp,t,l,m,q):=h
 refine {b,y,C,d,D,U,I,B,s,A,X,Y,.int F,.int i,rfl,O,.kn (.int _),.kn (.int _),λz=>lM Z z,λ_ z=>lM (p:=λx=>0<=x/\x<s) {(J),S} z,λ_ r e _ _ L=>?_,λ_ r e _ _ u p' M a n g o T v=>?_}
 ·cases e
  rw [L c (g6 t)] at l
  cases l
 ·cases e
  rcases N0 j u with z|z|z
  ·rw [o j c t z] at l
   cases l
  ·subst z
   rw [hp] at a
   cases a
   exact q T v
  ·rw [m u M n z] at g
   cases g
def Eh (G:bM P w K mg base (jK P w) k f fd xs (rV CB CS CP CT CO)):bM P w K mg base cY k f fd xs (vG CB CS CP):=G.calm.imp λvs H Q E h=>by
 let (b,s,B,d,g,U,L,F,ev,S,u,r,t,M,i,pl,ps,cs,j,p,c,O,m,T,rfl,hb,C,hi,X,t1,hp,D,ht,a,I,Z,y,A,p3,Y,p5,o,q):=h
 refine {b,s,B,d,g,U,L,F,ev,S,u,r,t,M,i,pl,ps,cs,j,p,c,O,m,T,rfl,hb,C,hi,X,t1,hp,D,ht,a,I,Z,y,A,Y,p5,λj n e l=>{n,o j n e l},λz=>absurd z ∎,?_,λ_ _=>q}
 rintro _ ⟨j,n,x,e,l,v,J⟩
 rw [o j n e l] at v
 cases v
 exact absurd rfl J
end
section
variable {P:Program} {w:World} {K:Frag} {mg:Str->Option Value} {base:Heap} {N:Cn} {c:Nat->Addr} (W:Wd P w K mg base N c)
include W
def wH:eG P w K mg base cY N.CB "check_moment" 2 (tI N.CB):=(uE W).to Lw
def Sq:eG P w K mg base cY N.CB "held_piece" 3 (yM N.CB N.CP):=(wI W).to Tj
def Lh:eG P w K mg base (jK P w) N.CB "lend" 6 (tJ N.CB N.CP (c 1) N.T1):=Li (W.d44.of λF=>(bM.lift (sC F (wH W) W)).both ((zN F W).mono (by decide))) W
def Ez:eG P w K mg base (jK P w) N.CB "tell" 5 (λa H Q E=>yK N.CB N.CS N.CP a H Q E\/jR N.CB N.CP (c 1) (c 2) (c 3) (c 4) a H Q E):=W.d46.of λF=>(bM.lift (Sb F ((zI (Sq W) W).to Eh) W)).both (Kx F W)
end
inductive Vh (K:Frag) (vs:List V) (H:Hp) (Q:VK) (E0_:XK):Prop|mk (a:Addr) (ns:List Int) (k:Nat) (_:vs=[.ref a,.int k]) (_:cZ K H a (ns.map V.int)) (_:ns.length<=63) (_:∀c,Q (.int c) H)
def Yo (K:Frag):Sp:=Vh K
def qF:Int:=10 ^ 18+9
inductive Pa (vs:List V) (H:Hp) (Q:VK) (E0_:XK):Prop|mk (c:Int) (m:Nat) (_:vs=[.int c,.int m]) (_:m<=50) (_:∀(l:Addr) (xs:List Int) (H':Hp),aN H H'->xs.length=m->(∀x ∈ xs,0<=x/\x<qF)->H' l=some (.lst (xs.map V.int))->Q (.ref l) H')
def Qn:Sp:=Pa
section
variable {P:Program} {w:World} {K:Frag} {mg:Str->Option Value} {base:Heap} {N:Cn} {c:Nat->Addr}
def Zf:aK ["_law_script","_law_k"] ["_law_script","_law_k"] (aG Wj):={rfl,rfl,rfl,⋯,rfl,⋯,⋯}
def uG (W:Wd P w K mg base N c):jJ P w K mg base cY "_law_cell_at" 1 (Yo K):=W.d13.of λF=>by
 refine F.ok Zf (λi H Q E h=>?_) (λg A d s H i Q E m h=>?_)
 ·let (a,b,k,rfl,_):=h
  rfl
 ·intro X D
  let (a,b,k,rfl,e,n,q):=h
  refine {_,aE (bP (cN iF (pv 1) (bB bU (by rfl) W.G.len PySem.boot_len (aA (pv 0) aF)) (bQ _)) (aH (bF (dN jV (pv 0) (pv 1) (λ_ _=>rfl)))) aZ)
   (aH (bF aY)),?_}
  refine {_,rfl,_,rfl,a,_,rfl,.inl e,_,_,rfl,rfl,_,rfl,?_}
  refine gO (λf=>?_) (λf=>q 0)
  let l:k<b.length:=by
   have:=of_decide_eq_true f;rw [f8] at this;omega
  refine {_,rfl,_,rfl,a,_,_,_,rfl,rfl,e,bV (j:=k) (v:=V.int b[k]) (by rw [i7,c8 l];rfl),q _}
def Bw:aK ["_law_cell","_law_many","_law_found","_law_rest","_law_number","_law_k"] ["_law_cell","_law_many"] (aG tP):={rfl,rfl,rfl,⋯,rfl,⋯,⋯}
def pL (W:Wd P w K mg base N c):jJ P w K mg base cY "_law_draws" 1 Qn:=W.d14.of λ{f _} F=>by
 refine F.ok Bw (λvs H Q E h=>?_) (λa4 A Y s H vs Q E hr h=>?_)
 ·let (c,m,rfl,_):=h
  rfl
 ·intro X D
  let (c,m,rfl,hm,q):=h
  let nd:=Bw.nd
  let G1:=W.G.len
  let S:(0:Int)<10 ^ (15:Int).toNat/\(10:Int) ^ (15:Int).toNat<2 ^ 64:=by decide
  let Z:=S.1
  let a2:(0:Int)<10 ^ (18:Int).toNat+9:=by decide
  let d:(10:Int) ^ (18:Int).toNat+9=qF:=by decide
  let k:(10:Int) ^ (15:Int).toNat=1000000000000000:=by decide
  let O:qF=1000000000000000009:=by decide
  refine Wp.ex (mD (n:=2) nd rfl lT (i8 _) λl H1 hl s1 e1=>?_)
  let B:∀{U:Hp} {o:HO},aN H U->aN H (aS U l o):=λ{U o} e b u z=>by
   rw [aC (aD z hl)]
   exact e b u z
  let sz:∀{n:Nat},n<=1000->n<sizeLine:=λh=>gR h
  show 3
  let k3:∀r:Int,0<=r->Wp (jC cY P w K mg base ["_law_cell","_law_many","_law_found","_law_rest","_law_number","_law_k"] "_law_draws" (aG tP) f a4 A Y s H E).nox ((bH tP).drop 3) {λ_ H'=>Q .non H',Q,λ_ _=>False,λ_ _=>False} [some (.int c),some (.int m),some (.ref l),some (.int r),none,none] H1:=λr hr=>by
   refine oP v4 (λt σ U=>∃(L:List Int) (r:Int),t=m-L.length/\σ=[some (.int c),some (.int m),some (.ref l),some (.int r),none,none]/\U l=some (.lst (L.map V.int))/\aN H U/\L.length<=m/\(∀x ∈ L,0<=x/\x<qF)/\0<=r) _
    {[],r,rfl,rfl,e1,s1,i8 _,(λx hx=>absurd hx (by simp)),hr} λt σ U h=>?_
   let (L,r,rfl,rfl,hL,hs,hy,hb,a8):=h
   by_cases h1:1<r/\L.length<m
   ·refine .inl {?_,λD' T=>?_}
    ·apply Tv.is;apply kF;symm;intro _;symm
     rw [f8,decide_eq_true h1.1,decide_eq_true ∎]
     rfl
    ·apply rK;symm;symm;exact hL;(rw [f8];exact sz ∎);rotate_left;rfl;exact kG PySem.F.plainAttrs_list PySem.F.slot_list_append PySem.F.type_list_append cU aR (aA aR aF)
     show 3
     refine cJ (T.nx _ _ {m-(L.length+1),∎,L++[r % 10 ^ (15:Int).toNat],_,by rw [i6];rfl,rfl,by rw [aB,m9];rfl,B hs,by rw [i6];exact h1.2,λx hx=>?_,?_})
     ·rcases j1.mp hx with hx|hx
      ·exact hb x hx
      ·have:x=r % 10 ^ (15:Int).toNat:=by simpa using hx
       rw [this,k,O]
       omega
     ·rw [k]
      omega
   refine .inr {?_,?_}
   ·apply Tv.is;apply kF;symm;intro _;symm
    rw [f8,Bool.and_eq_false_iff]
    by_cases h2:1<r
    ·exact .inr (decide_eq_false ∎)
    ·exact .inl (decide_eq_false h2)
   show 4
   refine Hc (n:=5) (j:=(m:Int)+3) v4 W.G.range nd rfl (by symm) ∎ (λi σ H3=>∃(g:List Int) (a:Int) (v:Option V) (r:Int),σ=[some (.int c),some (.int m),some (.ref l),some (.int r),some (.int a),v]/\H3 l=some (.lst (g.map V.int))/\aN H H3/\g.length<=50+i/\i<=g.length+3/\(∀x ∈ g,0<=x/\x<qF)/\0<=a/\a<qF+48271)
    {L,_,none,_,rfl,hL,hs,∎,∎,hb,by rw [d,O];omega,by rw [d,O];omega} (λi σ H3 D' hi h T=>?_) λσ H3 h=>?_
   ·let (g,a,v,r2,rfl,I,C,a0,a6,J,a1,M):=h
    let cm:yA a a:=.inl {by rw [O] at M;omega,by rw [O] at M;omega}
    let nn:∀z:Int,0<=z % (10 ^ (18:Int).toNat+9)/\z % (10 ^ (18:Int).toNat+9)<qF:=λz=>by
     rw [d,O]
     omega
    let nx:=nn (a * a+48271 * a+(0+(i:Int)))
    show 4
    apply uV;symm
    ·intro h3
     let a5:∀y:Int,yA ((a * a+48271 * a+(0+(i:Int))) % (10 ^ (18:Int).toNat+9)) y:=λy=>.inl ⟨∎,by have:=nx.2;rw [O] at this;omega⟩
     let a7:=a5 ((a * a+48271 * a+(0+(i:Int))) % (10 ^ (18:Int).toNat+9) / 1009+69621)
     apply rK;symm;symm;exact I;(rw [f8];exact sz ∎);rotate_left;rfl;exact kG PySem.F.plainAttrs_list PySem.F.slot_list_append PySem.F.type_list_append cU aR (aA aR aF)
     refine cJ (cJ (T.nx _ _ {g++[_],_,_,_,rfl,by rw [aB,m9];rfl,B C,by rw [i6];show g.length+1<=_;omega,by rw [i6];show _<=g.length+1+3;omega,λx hx=>?_,nx.1,∎}))
     rcases j1.mp hx with hx|hx
     ·exact J x hx
     ·have:=l9.mp hx
      rw [this]
      exact nn _
    ·intro h3
     let a9:¬ (2:Int)<0+(i:Int):=by simpa using h3
     exact cJ (cJ (T.nx _ _ {g,_,_,_,rfl,I,C,∎,∎,J,nx.1,∎}))
   ·let (g,a,v,r2,rfl,I,C,a0,a6,J,a1,M):=h
    refine fV {_,iU Bo (pv 2) tW (hV (pv 1)),?_}
    refine {_,rfl,_,rfl,_,rfl,l,_,rfl,cZ.of I,λp hp=>?_}
    let a3:m<=g.length:=∎
    refine q p (g.take m) _ (λb o z=>by rw [aC (aD (C b o z) hp)];exact C b o z) (by rw [l7];omega) (λx hx=>J x (y4 hx)) ?_
    rw [aB]
    have:jD (g.map V.int) none (some (m:Int))=(g.take m).map V.int:=by
     unfold jD;rw [HT.sIx_none,HT.sIx_nat,f8,E7,List.map_take,x0 a3,Nat.sub_zero]
    rw [this]
  apply uV;symm
  ·intro h;let h:=of_decide_eq_true h;show 3;exact cJ (k3 _ ∎)
  ·exact λ_=>cJ (k3 0 (g9 0))
def jH.same {H H':Hp} {v:V} {p:Int × Int} (e:aN H H') (h:jH H v p):jH H' v p:=by
 let (b,z,q):=h;exact {b,z,e _ _ q}
structure kY (ps:List (Int × Int)):Prop where
 lt:∀(k:Nat) (l h:Int),ps[k]?=some (l,h)->l<h
 up:∀(k:Nat) (l h l' h':Int),ps[k]?=some (l,h)->ps[k+1]?=some (l',h')->h<=l'
 lo:∀(k:Nat) (l h:Int),ps[k]?=some (l,h)->-1000000000000000000<l/\h<1000000000000000000/\h-l<=30
 few:ps.length<=4
def uT (H:Hp) (p:Addr) (ps:List (Int × Int)):Prop:=∃xs,H p=some (.tup xs)/\Paired (jH H) xs ps/\kY ps
theorem uT.same {H H':Hp} {p:Addr} {ps:List (Int × Int)} (e:aN H H') (h:uT H p ps):uT H' p ps:=by
 let (d,b,a,f):=h;exact {d,e _ _ b,aL (λ_ _=>jH.same e) a,f}
inductive Uv (vs:List V) (H:Hp) (Q:VK) (E0_:XK):Prop|mk (c:Int) (_:vs=[.int c]) (_:∀(p:Addr) (ps:List (Int × Int)) (H':Hp),aN H H'->uT H' p ps->Q (.ref p) H')
def Yd:Sp:=Uv
def qX {ns:List Int} {i:Int} (b:0<=i) (d:i<ns.length):∃z,z ∈ ns/\kX (ns.map V.int) i=some (.int z):=by
 let (k,rfl):=F1 b;let a:k<ns.length:=∎;exact {ns[k],List.getElem_mem a,bV (by rw [i7,c8 a];rfl)}
def vZ {ns:List Int} {k:Nat} (a:k<ns.length):kX (ns.map V.int) (k:Int)=some (.int ns[k]):=bV (by rw [i7,c8 a];rfl)
def kY.nil:kY []:={λk l h z=>by simp at z,λk l h b a z=>by simp at z,λk l h z=>by simp at z,i8 _}
def kY.snoc {ps:List (Int × Int)} {g l h:Int} (r:kY ps) (f:∀(k:Nat) (a b:Int),ps[k]?=some (a,b)->b<=g) (s:g<=l) (h2:l<h) (p:-1000000000000000000<l/\h<1000000000000000000/\h-l<=30) (t:ps.length<4):kY (ps++[(l,h)]):=by
 let d:∀(k:Nat) (a b:Int),(ps++[(l,h)])[k]?=some (a,b)->ps[k]?=some (a,b)\/(k=ps.length/\a=l/\b=h):=λk a b z=>by
  rcases N0 k ps.length with c|c|c
  ·exact .inl (by rwa [p7 c] at z)
  ·subst c;simp at z;exact .inr {(rfl),z.1.symm,z.2.symm}
  ·rw [w8 (by rw [i6,B0];omega)] at z;cases z
 refine {λk a b z=>?_,λk a b n m z o=>?_,λk a b z=>?_,by rw [i6,B0];omega}
 ·rcases d k a b z with z|⟨_,rfl,rfl⟩
  ·exact r.lt k a b z
  ·exact h2
 ·rcases d (k+1) n m o with j|⟨e,rfl,rfl⟩
  ·let u:k+1<ps.length:=(c9.mp j).1;rcases d k a b z with i|⟨e,_,_⟩
   ·exact r.up k a b n m i j
   ·omega
  ·rcases d k a b z with i|⟨q,_,_⟩
   ·have:=f k a b i;omega
   ·omega
 ·rcases d k a b z with z|⟨_,rfl,rfl⟩
  ·exact r.lo k a b z
  ·exact p
def Il:aK ["_law_cell","_law_xs","_law_low","_law_found","_law_k","_law_high"] ["_law_cell"] (aG Wh):={rfl,rfl,rfl,⋯,rfl,⋯,⋯}
def Sf (W:Wd P w K mg base N c):jJ P w K mg base cY "_law_work" 2 Yd:=W.d15.of λF=>by
 refine F.ok Il (λvs H Q E h=>?_) (λa7 A a2 s H vs Q E hr h=>?_)
 ·let (c,rfl,_):=h
  rfl
 ·intro X D
  let (c,rfl,q):=h
  let L:=Il.nd
  let a1:(10:Int) ^ (17:Int).toNat=100000000000000000:=by decide
  refine Wp.ex (cL (n:=1) L rfl (eM (vs:=[.int c,.int 10]) (pL W) hr aQ (by symm) {c,10,rfl,by decide,λlx e H1 s1 hx a9 Y=>?_}))
  let Z:∀k:Nat,(hk:k<10)->kX (e.map V.int) (k:Int)=some (.int (e[k]'∎)):=λk hk=>vZ ∎
  let p0:kX (e.map V.int) 0=some (.int e[0]):=Z 0 (by decide)
  let p1:kX (e.map V.int) 1=some (.int e[1]):=Z 1 (by decide)
  let (z0,m0,e0):=qX (ns:=[0,-7,5,10 ^ (17:Int).toNat,3-10 ^ (17:Int).toNat,-1]) (i:=e[0] % 6) (y9 _ (by decide)) (y7 _ (by decide))
  refine cL (n:=2) L rfl (eL (vs:=[.int 0,.int (-7),.int 5,.int (10 ^ (17:Int).toNat),.int (3-10 ^ (17:Int).toNat),.int (-1)]) (by symm) (by show 6<=1000;decide) (λH' I=>?_) e0 λH2 U=>?_)
  ·have:=I _ _ Y
   symm
  let b0:-100000000000000000<=z0/\z0<=100000000000000000:=by
   rw [a1] at m0;simp only [g7,N9,or_false] at m0;omega
  refine mD (n:=3) L rfl lT (i8 _) λO H3 hf s3 ef=>?_;let a5:lx≠O:=aD (U _ _ Y) hf;let Hf:H O=none:=s1.free (U.free hf);let (z1,m1,e1):=qX (ns:=[1,2,3,4,1,0]) (i:=e[1] % 6) (y9 _ (by decide)) (y7 _ (by decide));let b1:0<=z1/\z1<=4:=(by decide:∀z ∈ ([1,2,3,4,1,0]:List Int),0<=z/\z<=4) z1 m1;refine mC (n:=4) v4 W.G.range L rfl (eL (vs:=[.int 1,.int 2,.int 3,.int 4,.int 1,.int 0]) (by symm) (by show 6<=1000;decide) (λH' I=>?_) e1 λH4 s4=>{z1,λi σ M=>∃(d:Int) (vs:List V) (l:List (Int × Int)) (u v:Option V),σ=[some (.int c),some (.ref lx),some (.int d),some (.ref O),u,v]/\M lx=some (.lst (e.map V.int))/\aN H M/\M O=some (.lst vs)/\Paired (jH M) vs l/\kY l/\l.length=i /\
   (∀(k:Nat) (a b:Int),l[k]?=some (a,b)->b<=d)/\-100000000000000000<=d/\d<=100000000000000000+40 * (i:Int),rfl,∎,{z0,[],[],none,none,rfl,s4 _ _ (s3 _ _ (U _ _ Y)),s1.trans (U.trans (s3.trans s4)),s4 _ _ ef,.nil,kY.nil,rfl,(λk a b z=>by simp at z),b0.1,∎},λi σ M D' hi h T=>?_,λσ M h=>?_})
  ·have:=I _ _ (s3 _ _ (U _ _ Y));symm
  ·let (d,vs,l,u,v,rfl,y,s5,J,pr,g,C,f,a3,a0):=h;let a8:i<4:=∎;let (j,m2,e2):=qX (ns:=[0,0,1,3]) (i:=e[2+2 * i] % 4) (y9 _ (by decide)) (y7 _ (by decide));let b2:0<=j/\j<=3:=(by decide:∀z ∈ ([0,0,1,3]:List Int),0<=z/\z<=3) j m2;let p2:kX (e.map V.int) ((2:Int)+2 * (0+(i:Int)))=some (.int e[2+2 * i]):=by rw [show (2:Int)+2 * (0+(i:Int))=((2+2 * i:Nat):Int) by omega];exact Z _ ∎
   let p3:kX (e.map V.int) ((3:Int)+2 * (0+(i:Int)))=some (.int e[3+2 * i]):=by rw [show (3:Int)+2 * (0+(i:Int))=((3+2 * i:Nat):Int) by omega];exact Z _ ∎
   refine cL (n:=2) L rfl (Nh (Vl.ex (v:=.int d) (by symm) {d,rfl,eL (vs:=[.int 0,.int 0,.int 1,.int 3]) (by symm) (by show 4<=1000;decide) (λH' I=>?_) e2 λH6 t1=>{j,rfl,?_}}))
   ·have:=I _ _ y;symm
   let a4:=t1 _ _ y;let (B,m3,e3):=qX (ns:=[3,9,9,30]) (i:=e[2+2 * i] / 4 % 4) (y9 _ (by decide)) (y7 _ (by decide));let b3:3<=B/\B<=30:=(by decide:∀z ∈ ([3,9,9,30]:List Int),3<=z/\z<=30) B m3;let r0:0<=e[3+2 * i] % B/\e[3+2 * i] % B<30:=⟨y9 _ ∎,by have:=y7 e[3+2 * i] (show (0:Int)<B by omega);omega⟩;refine cL (n:=5) L rfl (Nh (Vl.ex (v:=.int (d+j+1)) (by symm) {_,rfl,BB (i:=e[3+2 * i]) (by symm) (eL (vs:=[.int 3,.int 9,.int 9,.int 30]) (by symm) (by show 4<=1000;decide) (λH' I=>?_) e3 λH7 t2=>{B,rfl,∎,_,rfl,?_})}))
   ·have:=I _ _ a4;symm
   let m:=t1.trans t2;generalize e[3+2 * i] % B=r at r0 ⊢;let a6:vs.length<=4:=by rw [pr.length];exact g.few
   let S:=m _ _ J;refine jM (vs:=[.int (d+j),.int (d+j+1+r)]) (by symm) (by symm) S ∎ (by show 2<=1000;decide) (λt H8 nt k8 l8 t8=>?_) rfl (kG PySem.F.plainAttrs_list PySem.F.slot_list_append PySem.F.type_list_append cU aR (aA (cD dD) aF));show 2;refine cJ (T.nx _ _ {d+j+1+r,vs++[.ref t],l++[(d+j,d+j+1+r)],_,_,rfl,k8 _ _ (m _ _ y) a5,λb o z=>k8 _ _ (m _ _ (s5 b o z)) (aD z Hf),l8,?_,g.snoc f ∎ ∎ { ∎,∎,∎} ∎,?_,λk a b z=>?_,∎,∎})
   ·refine Paired.snoc (aL (λx p hp=>?_) pr) {(t),rfl,t8};let (b,z,hb):=hp;let hb:=m _ _ hb;exact {b,z,k8 _ _ hb (aI hb S (by intro w;cases w))}
   ·rw [i6,C];rfl
   ·rcases N0 k l.length with cc|cc|cc
    ·rw [p7 cc] at z;have:=f k a b z;omega
    ·subst cc;simp at z;omega
    ·rw [w8 (by rw [i6,B0];omega)] at z;cases z
  ·let (d,vs,l,u,v,rfl,y,s5,J,pr,g,C,f,a3,a0):=h;refine fV {_,dW cX (by rfl) W.G.tuple fM (aA (pv 3) aF),?_};refine {_,rfl,O,vs,rfl,.inl {cZ.of J,λp hp=>?_}};exact q p l _ (s5.trans (aJ hp)) {vs,aB,aL (λ_ _=>jH.same (aJ hp)) pr,g}
def Oh {H:Hp} {l:Addr} (n:H l=none) (o:HO):∃a,aS H l o=a/\aN H a/\a l=some o:={_,rfl,aJ n,aB}
inductive BW (vs:List V) (H:Hp) (Q:VK) (E0_:XK):Prop|mk (c:Int) (_:vs=[.int c]) (_:∀(p:Addr) (sp ev le:Int) (H':Hp),aN H H'->H' p=some (.tup [.int sp,.int ev,.int le])->1<=sp->sp<=5->1<=ev->ev<=4->ev<=le->le<=7->Q (.ref p) H')
def EJ:Sp:=BW
def iI (x:Int):Int:=x * x % 13-6
inductive Ur (vs:List V) (H:Hp) (Q:VK) (E0_:XK):Prop|mk (x:Int) (_:vs=[.int x]) (_:-2000000000000000000<=x) (_:x<=2000000000000000000) (_:Q (.int (iI x)) H)
def Yb:Sp:=Ur
def Iu:aK ["_law_cell","_law_xs","_law_every"] ["_law_cell"] (aG vR):={rfl,rfl,rfl,⋯,rfl,⋯,⋯}
def AD (W:Wd P w K mg base N c):jJ P w K mg base cY "_law_bounds" 2 EJ:=W.d16.of λF=>by
 refine F.ok Iu (λm H Q E h=>?_) (λr A b s H m Q E p h=>?_)
 ·let (c,rfl,_):=h
  rfl
 ·intro X D
  let (c,rfl,q):=h
  refine {_,aE (dX (i:=1) Iu.nd rfl (j0 rfl) (aV (pL W) p aQ (aA (pv 0) (aA aY aF))))
   (aE (dX (i:=2) Iu.nd rfl (j0 rfl) (cE eK aY (cE iW (dN jV (pv 1) aY (λ_ _=>rfl)) aY)))
   (aH (bF (cD (aA (cE eK aY (cE iW (dN jV (pv 1) aY (λ_ _=>rfl)) aY)) (aA (pv 2) (aA (cE eK (pv 2) (cE iW (dN jV (pv 1) aY (λ_ _=>rfl)) aY)) aF))))))),?_}
  refine {_,rfl,c,3,rfl,by decide,λe a C l G x d=>?_}
  have g:kX (a.map V.int) ((0:Nat):Int)=some (.int a[0]):=vZ (k:=0) ∎
  have u:kX (a.map V.int) ((1:Nat):Int)=some (.int a[1]):=vZ (k:=1) ∎
  have f:kX (a.map V.int) ((2:Nat):Int)=some (.int a[2]):=vZ (k:=2) ∎
  have y:=y9 a[0] (show (5:Int)≠0 by decide)
  have n:=y7 a[0] (show (0:Int)<5 by decide)
  have B:=y9 a[1] (show (4:Int)≠0 by decide)
  have v:=y7 a[1] (show (0:Int)<4 by decide)
  have z:=y9 a[2] (show (4:Int)≠0 by decide)
  have o:=y7 a[2] (show (0:Int)<4 by decide)
  refine {_,rfl,e,_,_,_,rfl,rfl,cZ.of d,u,_,_,rfl,rfl,(by show (0:Int)<4;decide),_,_,rfl,rfl,?_}
  refine {_,rfl,e,_,_,_,rfl,rfl,cZ.of d,g,_,_,rfl,rfl,(by show (0:Int)<5;decide),_,_,rfl,rfl,_,rfl,_,rfl,_,rfl,e,_,_,_,rfl,rfl,cZ.of d,f,_,_,rfl,rfl,(by show (0:Int)<4;decide),_,_,rfl,rfl,by show 3<=sizeLine;decide,λt j=>?_}
  exact q t _ _ _ _ (l.trans (aJ j)) aB ∎ ∎ ∎ ∎ ∎ ∎
def Yv:aK ["_law_place"] ["_law_place"] (aG Cc):={rfl,rfl,rfl,⋯,rfl,⋯,⋯}
def Db (W:Wd P w K mg base N c):jJ P w K mg base cY "_law_result" 1 Yb:=W.d19.of λF=>by
 refine F.ok Yv (λd H Q E h=>?_) (λb A a s H d Q E g h=>?_)
 ·let (x,rfl,_):=h
  rfl
 ·intro X D
  let (x,rfl,f,e,q):=h
  refine {_,aH (bF (cE kP (cE iW (cE zF (pv 0) (pv 0)) aY) aY)),?_}
  refine {_,rfl,_,rfl,_,_,rfl,rfl,?_,_,_,rfl,rfl,(by show (0:Int)<13;decide),_,_,rfl,rfl,q}
  exact .inl { ∎,∎}
structure S8 where
 nn:Int
 nt:Int
 mo:Int
 cs:List Pc
 kv:List (cC × V)
 ns:List Int
 vf:Int->Int
structure Wg (ws:Lm.Ps):Prop where
 sh:Lm.Sh ws
 bd:∀x,Lm.mem ws x->-(2 ^ 60)<=x/\x<2 ^ 60
 sz:∀l:List Int,l.Nodup->(∀x ∈ l,Lm.mem ws x)->l.length<128
 ln:ws.length<=10
structure Iv (ws:Lm.Ps) (sp:Int) (s:S8):Prop where
 lm:∀c ∈ s.cs,c.l<=c.m/\c.m<=c.h/\c.l<c.h
 ap:s.cs.Pairwise (λc e=>c.h<=e.l\/e.h<=c.l)
 cv:∀x,Lm.mem ws x↔∃c ∈ s.cs,c.l<=x/\x<c.h
 op:∀c ∈ s.cs,∀t,c.o=some t->0<=t.1/\t.1<s.nt/\c.m<c.h/\t.2.2<=s.mo+sp/\PyData.strOk t.2.1=true
 tk:s.cs.Pairwise (λc e=>∀t u,c.o=some t->e.o=some u->t.1≠u.1)
 nx:∀x,x ∈ s.ns↔∃c ∈ s.cs,c.l<=x/\x<c.m
 nm:(s.cs.map Pc.n).Nodup
 nl:∀c ∈ s.cs,0<=c.n/\c.n<s.nn
 hd:Holds s.vf s.kv s.ns
 n0:0<=s.nt
theorem qD {α:Type}:∀{l:List α} {k:Nat} {c:α},l[k]?=some c->l.Perm (c::l.eraseIdx k)
 | x::l,0,c,h=>by cases h;exact List.Perm.refl _
 | x::l,k+1,c,h=>((qD (l:=l) (k:=k) (by simpa using h)).cons x).trans (List.Perm.swap ..)
theorem lG {α:Type}:∀{l:List α} {k:Nat} {c c':α},l[k]?=some c->(l.set k c').Perm (c'::l.eraseIdx k)
 | x::l,0,c,c',h=>List.Perm.refl _
 | x::l,k+1,c,c',h=>((lG (l:=l) (k:=k) (c':=c') (by simpa using h)).cons x).trans (List.Perm.swap ..)
section
variable {ws:Lm.Ps} {sp:Int} {s:S8}
def Iv.perm {e:List Pc} (h:Iv ws sp s) (p:s.cs.Perm e):Iv ws sp { s with cs:=e } where
 lm:=λc d=>h.lm c (p.mem_iff.mpr d)
 ap:=(p.pairwise_iff (λ{a b} z=>z.symm)).mp h.ap
 cv:=λx=>(h.cv x).trans {λ⟨c,d,z⟩=>{c,p.mem_iff.mp d,z},λ⟨c,d,z⟩=>{c,p.mem_iff.mpr d,z}}
 op:=λc d=>h.op c (p.mem_iff.mpr d)
 tk:=(p.pairwise_iff (λ{a b} z t u g f=>(z u t f g).symm)).mp h.tk
 nx:=λx=>(h.nx x).trans {λ⟨c,d,z⟩=>{c,p.mem_iff.mp d,z},λ⟨c,d,z⟩=>{c,p.mem_iff.mpr d,z}}
 nm:=((p.map Pc.n).nodup_iff).mp h.nm
 nl:=λc d=>h.nl c (p.mem_iff.mpr d)
 hd:=h.hd
 n0:=h.n0
def Iv.re {c c':Pc} {R:List Pc} {nt' mo':Int} {kv':List (cC × V)} {ns':List Int} {vf':Int->Int} (h:Iv ws sp { s with cs:=c::R }) (e1:c'.n=c.n) (a:c'.l=c.l) (b:c'.h=c.h) (F:c.m<=c'.m) (E:c'.m<=c.h)
  (A:∀u,c'.o=some u->0<=u.1/\u.1<nt'/\c'.m<c'.h/\u.2.2<=mo' + sp/\PyData.strOk u.2.1=true) (t:∀u,c'.o=some u->(∃v,c.o=some v/\v.1=u.1)\/s.nt<=u.1) (D:s.nt<=nt') (I:s.mo<=mo')
  (f:∀x,x ∈ ns'↔x ∈ s.ns\/(c.m<=x/\x<c'.m)) (d:Holds vf' kv' ns'):Iv ws sp { s with nt:=nt',mo:=mo',cs:=c'::R,kv:=kv',ns:=ns',vf:=vf' }:=by
 let j:=v6.mp h.ap;let k:=v6.mp h.tk;let i:=h.nm;simp only [k7] at i;let G:=h.lm c (g8 ..);refine {λx hx=>?_,v6.mpr {λx hx=>?_,j.2},λx=>(h.cv x).trans ?_,λx hx u e=>?_,v6.mpr {λx hx u v B p=>?_,k.2},λx=>?_,?_,λx hx=>?_,d,?_}
 ·rcases g7.mp hx with rfl|hx
  ·exact { ∎,∎,∎}
  ·exact h.lm x (d0 _ hx)
 ·have:=j.1 x hx;rw [a,b];exact this
 ·constructor
  ·rintro⟨y,hy,z⟩;rcases g7.mp hy with rfl|hy
   ·exact {c',g8 ..,by rw [a,b];exact z}
   ·exact {y,d0 _ hy,z}
  ·rintro⟨y,hy,z⟩;rcases g7.mp hy with rfl|hy
   ·exact {c,g8 ..,by rw [<- a,<- b];exact z}
   ·exact {y,d0 _ hy,z}
 ·rcases g7.mp hx with rfl|hx
  ·exact A u e
  ·have:=h.op x (d0 _ hx) u e;let C:u.1<s.nt:=this.2.1;let H:u.2.2<=s.mo+sp:=this.2.2.2.1;exact {this.1,by show u.1<nt';omega,this.2.2.1,by show u.2.2<=mo' + sp;omega,this.2.2.2.2}
 ·let g:=(h.op x (d0 _ hx) v p).2.1;let g:v.1<s.nt:=g;rcases t u B with ⟨w,r,e⟩|e
  ·rw [<- e];exact k.1 x hx w v r p
  ·omega
 ·rw [show x ∈ ({ s with nt:=nt',mo:=mo',cs:=c'::R,kv:=kv',ns:=ns',vf:=vf' }:S8).ns↔_ from f x,show x ∈ s.ns↔_ from h.nx x];constructor
  ·rintro(⟨y,hy,z⟩|z)
   ·rcases g7.mp hy with rfl|hy
    ·exact {c',g8 ..,∎,∎}
    ·exact {y,d0 _ hy,z}
   ·exact {c',g8 ..,∎,∎}
  ·rintro⟨y,hy,z⟩;rcases g7.mp hy with rfl|hy
   ·by_cases q:x<c.m
    ·exact .inl {c,g8 ..,∎,q}
    ·exact .inr { ∎,z.2}
   ·exact .inl {y,d0 _ hy,z}
 ·show (c'.n::R.map Pc.n).Nodup;rw [e1];exact i
 ·rcases g7.mp hx with rfl|hx
  ·rw [e1];exact h.nl c (g8 ..)
  ·exact h.nl x (d0 _ hx)
 ·have:=h.n0;show 0<=nt';have:0<=s.nt:=this;omega
def Iv.cut {c:Pc} {R:List Pc} {nt' mo' pl:Int} {o:Option (Int × Str × Int)} (h:Iv ws sp { s with cs:=c::R }) (k:c.m<pl) (p:pl<c.h) (b:0<=s.nn)
  (f:∀u,o=some u->s.nt<=u.1/\u.1<nt'/\u.2.2<=mo' + sp/\PyData.strOk u.2.1=true) (C:s.nt<=nt') (I:s.mo<=mo'):Iv ws sp { s with nn:=s.nn+1,nt:=nt',mo:=mo',cs:={(s.nn),pl,c.h,pl,o}::{ c with h:=pl }::R }:=by
 let d:=v6.mp h.ap;let g:=v6.mp h.tk;let r:(c.n::R.map Pc.n).Nodup:=h.nm;let w:=h.lm c (g8 ..);let A:=h.nl c (g8 ..);let F:0<=s.nt:=h.n0;refine {λx hx=>?_,v6.mpr {λx hx=>?_,v6.mpr {λx hx=>?_,d.2}},λx=>(h.cv x).trans ?_,λx hx u e=>?_,v6.mpr {λx hx u v t i=>?_,v6.mpr {λx hx=>g.1 x hx,g.2}},λx=>(h.nx x).trans ?_,?_,λx hx=>?_,h.hd,?_}
 ·rcases g7.mp hx with rfl|hx
  ·exact {by show pl<=pl;omega,by show pl<=c.h;omega,by show pl<c.h;omega}
  rcases g7.mp hx with rfl|hx
  ·exact {w.1,by show c.m<=pl;omega,by show c.l<pl;omega}
  ·exact h.lm x (d0 _ hx)
 ·rcases g7.mp hx with rfl|hx
  ·exact .inr (by show pl<=pl;omega)
  ·have:=d.1 x hx;show c.h<=x.l\/x.h<=pl;omega
 ·have:=d.1 x hx;show pl<=x.l\/x.h<=c.l;omega
 ·constructor
  ·rintro⟨y,hy,z⟩;rcases g7.mp hy with rfl|hy
   ·by_cases q:x<pl
    ·exact {_,d0 _ (g8 ..),z.1,q}
    ·exact {_,g8 ..,by show pl<=x;omega,z.2}
   ·exact {y,d0 _ (d0 _ hy),z}
  ·rintro⟨y,hy,z⟩;rcases g7.mp hy with rfl|hy
   ·let B:pl<=x:=z.1;exact {c,g8 ..,∎,z.2}
   rcases g7.mp hy with rfl|hy
   ·let E:x<pl:=z.2;exact {c,g8 ..,z.1,∎}
   ·exact {y,d0 _ hy,z}
 ·let a:∀y ∈ c::R,y.o=some u->0<=u.1/\u.1<nt'/\y.m<y.h/\u.2.2<=mo' + sp/\PyData.strOk u.2.1=true:=λy hy e=>by
   have:=h.op y hy u e;let j:u.1<s.nt:=this.2.1;let H:u.2.2<=s.mo+sp:=this.2.2.2.1;exact {this.1,∎,this.2.2.1,∎,this.2.2.2.2}
  rcases g7.mp hx with rfl|hx
  ·have:=f u e;exact { ∎,this.2.1,p,this.2.2}
  rcases g7.mp hx with rfl|hx
  ·have:=a c (g8 ..) e;exact {(this.1),this.2.1,k,this.2.2.2}
  ·exact a x (d0 _ hx) e
 ·let G:=(f u t).1;let D:v.1<s.nt:=by
   rcases g7.mp hx with rfl|hx
   ·exact(h.op c (g8 ..) v i).2.1
   ·exact(h.op x (d0 _ hx) v i).2.1
  omega
 ·constructor
  ·rintro⟨y,hy,z⟩;rcases g7.mp hy with rfl|hy
   ·exact {_,d0 _ (g8 ..),z}
   ·exact {y,d0 _ (d0 _ hy),z}
  ·rintro⟨y,hy,z⟩;rcases g7.mp hy with rfl|hy
   ·exact absurd z (by show ¬ (pl<=x/\x<pl);omega)
   rcases g7.mp hy with rfl|hy
   ·exact {c,g8 ..,z}
   ·exact {y,d0 _ hy,z}
 ·show (s.nn::c.n::R.map Pc.n).Nodup;refine x9.mpr {λz=>?_,r};let (y,hy,e):=p9.mp (show s.nn ∈ (c::R).map Pc.n from z);have:=(h.nl y hy).2;have:y.n<s.nn:=this;omega
 ·rcases g7.mp hx with rfl|hx
  ·exact {b,by show s.nn<s.nn+1;omega}
  let a:∀y ∈ c::R,0<=y.n/\y.n<s.nn+1:=λy hy=>by
   have:=h.nl y hy;let j:y.n<s.nn:=this.2;exact {this.1,∎}
  rcases g7.mp hx with rfl|hx
  ·exact a c (g8 ..)
  ·exact a x (d0 _ hx)
 ·show 0<=nt';omega
end
section
variable {ws:Lm.Ps} {sp:Int} {s:S8}
def Iv.cons {k:Nat} {c:Pc} (h:Iv ws sp s) (a:s.cs[k]?=some c):Iv ws sp { s with cs:=c::s.cs.eraseIdx k }:=h.perm (qD a)
def AG {c:Pc} (h:Iv ws sp s) (a:c ∈ s.cs):0<=s.nn:=by have:=h.nl c a;omega
def Iv.lendK {k:Nat} {c:Pc} {w:Str} {i:Int} (h:Iv ws sp s) (a:s.cs[k]?=some c) (op:c.m<c.h) (hi:s.mo<=i) (b:PyData.strOk w=true):
  Iv ws sp { s with nt:=s.nt+1,mo:=i,cs:=s.cs.set k { c with o:=some (s.nt,w,i+sp) } }:=by
 let g:=(h.cons a).re (c':={ c with o:=some (s.nt,w,i+sp) }) (nt':=s.nt+1) (mo':=i) rfl rfl rfl (g9 _) (x8 op) (λu e=>by cases e;exact {h.n0,by show s.nt<s.nt+1;omega,op,g9 _,b}) (λu e=>by cases e;exact .inr (g9 _)) ∎ hi
  (λx=>{.inl,λz=>z.elim id λz=>absurd z (by show ¬ (c.m<=x/\x<c.m);omega)}) h.hd
 exact g.perm (lG a).symm
def Iv.cutK {k:Nat} {c:Pc} {nt' mo' pl:Int} {o:Option (Int × Str × Int)} (h:Iv ws sp s) (a:s.cs[k]?=some c) (e:c.m<pl) (i:pl<c.h)
  (f:∀u,o=some u->s.nt<=u.1/\u.1<nt'/\u.2.2<=mo' + sp/\PyData.strOk u.2.1=true) (d:s.nt<=nt') (b:s.mo<=mo'):Iv ws sp { s with nn:=s.nn+1,nt:=nt',mo:=mo',cs:=s.cs.set k { c with h:=pl }++[{(s.nn),pl,c.h,pl,o}] }:=by
 let g:=(h.cons a).cut e i (AG h (g6 a)) f d b;exact g.perm (((lG a).symm.cons _).trans (List.perm_append_comm (l₁:=[_])))
theorem Be {kv:List (cC × V)} {m:Int} {fr:List Int} (a:∀j:Nat,j<fr.length->cV kv (Sum.inl (m+(j:Int)):cC)=none):∀i,i<=fr.length->∀x:Int,cV (kv++jB m fr i) (Sum.inl x:cC)=if m<=x/\x<m+(i:Int) then some (.int (fr.getD (x-m).toNat 0)) else cV kv (Sum.inl x:cC)
 | 0,_,x=>by rw [if_neg ∎];show cV (kv++[]) _=_;rw [C5]
 | i+1,hi,x=>by
  rw [sN,<- q8,rP _ _ _ _ (xD (a i ∎))]
  by_cases z:x=m+(i:Int)
  ·subst z
   rw [if_pos rfl,if_pos ∎,show (m+(i:Int)-m).toNat=i by omega]
  ·rw [if_neg λy=>z (Sum.inl.inj y),Be a i ∎ x]
   by_cases q:m<=x/\x<m+(i:Int)
   ·rw [if_pos q,if_pos ∎]
   ·rw [if_neg q,if_neg ∎]
def AY (vf:Int->Int) (m:Int) (fr:List Int):Int->Int:=λx=>if m<=x/\x<m+(fr.length:Int) then fr.getD (x-m).toNat 0 else vf x
def fQ (m:Int) (n:Nat):List Int:=(List.range n).map λ(k:Nat)=>m+(k:Int)
def dP {m x:Int} {n:Nat}:x ∈ fQ m n↔m<=x/\x<m+(n:Int):=by
 unfold fQ;rw [p9];constructor
 ·rintro⟨k,a,rfl⟩;have:=C3.mp a;omega
 ·intro h;exact {(x-m).toNat,C3.mpr ∎,∎}
def kQ (m:Int) (n:Nat):(fQ m n).Nodup:=List.Pairwise.map _ (λa b z e=>z ∎) List.nodup_range
def zV {vf:Int->Int} {kv:List (cC × V)} {ns:List Int} {m:Int} {fr:List Int} (h:Holds vf kv ns) (c:∀j:Nat,j<fr.length->m+(j:Int) ∉ ns) (f:(ns++fQ m fr.length).length<128) (k:-(2 ^ 61)<=m) (l:m+(fr.length:Int)<=2 ^ 61):
  Holds (AY vf m fr) (kv++jB m fr fr.length) (ns++fQ m fr.length):=by
 let g:∀x,x ∉ ns->cV kv (Sum.inl x:cC)=none:=λx hx=>jN.mpr λe d z=>hx (by
  have:(Sum.inl x:cC) ∈ kv.map (·.1):=p9.mpr {(e),d,z}
  rw [h.key] at this
  let (y,a,q):=p9.mp this
  cases q
  exact a);let b:∀x,x ∈ fQ m fr.length->x ∉ ns:=λx hx=>by
  have:=dP.mp hx;let e:x=m+((x-m).toNat:Int):=∎;rw [e];exact c _ ∎
 refine {?_,?_,f,λx hx=>?_,λx hx=>?_}
 ·rw [m9,m9,h.key];congr 1;unfold jB fQ;rw [O8,O8];rfl
 ·rw [M9];exact {h.nd,kQ _ _,λx hx y a z=>by subst z;exact b x a hx}
 ·rw [Be (λj i=>g _ (c j i)) _ (d7 _)];unfold AY;by_cases q:m<=x/\x<m+(fr.length:Int)
  ·rw [if_pos q,if_pos q]
  ·rw [if_neg q,if_neg q];rcases j1.mp hx with hx|hx
   ·exact h.val x hx
   ·exact absurd (dP.mp hx) q
 ·rcases j1.mp hx with hx|hx
  ·exact h.lo x hx
  ·have:=dP.mp hx;omega
def Iv.fresh {k:Nat} {c:Pc} (h:Iv ws sp s) (a:s.cs[k]?=some c) {x:Int} (d:c.m<=x) (h2:x<c.h):x ∉ s.ns:=λz=>by
 let (y,hy,f,e):=((h.cons a).nx x).mp z
 have g:=h.lm c (g6 a)
 have b:=v6.mp (h.cons a).ap
 rcases g7.mp hy with rfl|hy
 ·omega
 ·have:=b.1 y hy
  have:=(h.cons a).lm y (d0 _ hy)
  omega
theorem Iv.told {k:Nat} {c:Pc} {fr:List Int} {i:Int} (g:Wg ws) (h:Iv ws sp s) (f:s.cs[k]?=some c) (B:c.m+(fr.length:Int)<=c.h) (hi:s.mo<=i):
  Iv ws sp { s with mo:=i,cs:=s.cs.set k (c.told fr.length (i+sp)),kv:=s.kv++jB c.m fr fr.length,ns:=s.ns++fQ c.m fr.length,vf:=AY s.vf c.m fr }:=by
 let p:=g6 f;let E:=h.lm c p;let a:∀x,c.l<=x->x<c.h->Lm.mem ws x:=λx r w=>(h.cv x).mpr {(c),p,r,w};let q:∀x ∈ s.ns,Lm.mem ws x:=λx hx=>by
  let (y,n,r,w):=(h.nx x).mp hx;have:=h.lm y n;exact(h.cv x).mpr {y,n,r,∎}
 let C:∀j:Nat,j<fr.length->c.m+(j:Int) ∉ s.ns:=λj I=>h.fresh f ∎ ∎;let D:(s.ns++fQ c.m fr.length).Nodup:=by
  rw [M9];refine {h.hd.nd,kQ _ _,λx hx y n z=>?_};subst z;have:=dP.mp n;exact h.fresh f ∎ ∎ hx
 let G:=g.sz _ D λx hx=>by
  rcases j1.mp hx with hx|hx
  ·exact q x hx
  ·have:=dP.mp hx;exact a x ∎ ∎
 let F:=g.bd c.l (a _ (g9 _) E.2.2);let H:=g.bd (c.h-1) (a _ ∎ ∎);let d:∀u,(c.told fr.length (i+sp)).o=some u->c.m+(fr.length:Int)<c.h/\∃v,c.o=some v/\u=(v.1,v.2.1,i+sp):=λu e=>by
  let e:(if c.m+(fr.length:Int)=c.h then none else c.o.map λt=>(t.1,t.2.1,i+sp))=some u:=e;by_cases z:c.m+(fr.length:Int)=c.h
  ·rw [if_pos z] at e;cases e
  rw [if_neg z] at e;cases b:c.o with
  | none=>rw [b] at e;cases e
  | some v=>
   rw [b] at e;exact { ∎,v,rfl,(Option.some.inj e).symm}
 let A:=(h.cons f).re (c':=c.told fr.length (i+sp)) (nt':=s.nt) (mo':=i) (ns':=s.ns++fQ c.m fr.length) (kv':=s.kv++jB c.m fr fr.length) (vf':=AY s.vf c.m fr) rfl rfl rfl (by show c.m<=c.m+(fr.length:Int);omega) B (λu e=>by
   let (l,v,b,rfl):=d u e
   have:=h.op c p v b
   exact {this.1,this.2.1,l,g9 _,this.2.2.2.2}) (λu e=>by
   let (l,v,b,rfl):=d u e
   exact .inl {(v),b,rfl}) (g9 _) hi
  (λx=>by rw [j1,dP];rfl) (zV h.hd C ∎ ∎ ∎)
 exact A.perm (lG f).symm
def dR {c:Pc} {tk:Int} (h:c.has tk=true):∃u,c.o=some u/\u.1=tk:=by
 unfold Pc.has at h;cases e:c.o with
 | none=>rw [e] at h;cases h
 | some u=>rw [e] at h;exact {u,rfl,of_decide_eq_true h}
def Iv.oneTk {i j:Nat} {x y:Pc} {tk:Int} (h:Iv ws sp s) (o:s.cs[i]?=some x) (m:s.cs[j]?=some y) (n:x.has tk=true) (l:y.has tk=true):i=j:=by
 let (u,c,k):=dR n;let (v,d,b):=dR l;let (e,a):=c9.mp o;let (g,f):=c9.mp m;rcases N0 i j with z|z|z
 ·have:=w9.mp h.tk i j e g z;rw [a,f] at this;exact absurd (k.trans b.symm) (this u v c d)
 ·exact z
 ·have:=w9.mp h.tk j i g e z;rw [a,f] at this;exact absurd (b.trans k.symm) (this v u d c)
def Iv.oneTk' {k:Nat} {c:Pc} {tk:Int} (h:Iv ws sp s) (b:s.cs[k]?=some c) (d:c.has tk=true) (j:Nat) (e:Pc) (a:s.cs[j]?=some e) (f:j<k):e.has tk=false:=G7.mpr λz=>by
 have:=h.oneTk b a d z
 omega
theorem Hz:∀{ws:Lm.Ps} {q r:Int × Int},Lm.Sh ws->q ∈ ws->r ∈ ws->q=r\/q.2<r.1\/r.2<q.1
 | s::ws,q,r,w,hq,hr=>by
  rcases g7.mp hq with rfl|hq' <;> rcases g7.mp hr with rfl|hr'
  ·exact .inl rfl
  ·exact .inr (.inl (w.2.1 r hr'))
  ·exact .inr (.inr (w.2.1 q hq'))
  ·exact Hz w.2.2 hq' hr'
def EL {ws:Lm.Ps} {l h:Int} (w:Lm.Sh ws) (f:l<h) (c:∀x,l<=x->x<h->Lm.mem ws x):∃q ∈ ws,q.1<=l/\h<=q.2:=by
 let (q,a,d,i):=c l (g9 _) f;refine {q,a,d,K3.mp λz=>?_};let (r,b,j,g):=c q.2 ∎ z;have:=Lm.Sh.lt w q a;have:=Lm.Sh.lt w r b;rcases Hz w a b with e|e|e
 ·subst e;omega
 ·omega
 ·omega
def Iv.inw {c:Pc} (g:Wg ws) (h:Iv ws sp s) (a:c ∈ s.cs):∃q ∈ ws,q.1<=c.l/\c.h<=q.2:=
 EL g.sh (h.lm c a).2.2 λx b d=>(h.cv x).mpr {(c),a,b,d}
def Iv.bnd {c:Pc} (g:Wg ws) (h:Iv ws sp s) (a:c ∈ s.cs):-(2 ^ 60)<=c.l/\c.h<=2 ^ 60:=by
 let b:=h.lm c a;let d:=g.bd c.l ((h.cv _).mpr {c,a,g9 _,b.2.2});let e:=g.bd (c.h-1) ((h.cv _).mpr {c,a,∎,∎});omega
def Holds.noV {vf:Int->Int} {kv:List (cC × V)} {ns:List Int} (h:Holds vf kv ns) {x:Int} (c:x ∉ ns):cV kv (Sum.inl x:cC)=none:=jN.mpr λe a z=>c (by
  have:(Sum.inl x:cC) ∈ kv.map (·.1):=p9.mpr {(e),a,z}
  rw [h.key] at this
  let (y,b,q):=p9.mp this
  cases q
  exact b)
def Iv.kvl (h:Iv ws sp s):s.kv.length<128:=by
 have:=h.hd.len;let e:=congrArg List.length h.hd.key;rw [f8,f8] at e;omega
def Iv.low {c:Pc} {i:Int} (h:Iv ws sp s) (e:CV s.cs i c):c ∈ s.cs/\c.m<c.h:=by
 rcases e with b|⟨_,b⟩
 ·have:=h.lm c b.1;let f:=b.2.1;unfold Pc.free at f;rw [z8,D2] at f;have:=of_decide_eq_false f.2;exact {b.1,∎}
 ·let f:=b.2.1;unfold Pc.late at f;cases e:c.o with
  | none=>rw [e] at f;cases f
  | some u=>exact {b.1,(h.op c b.1 u e).2.2.1}
end
structure Ad where
 b:Addr
 pw:Addr
 sh:Addr
 d:Addr
 pw':Addr
 d':Addr
 ps:List Addr
structure Bv (CB CS CP T1 T2:Addr) (sp ev le:Int) (ws:Lm.Ps) (H:Hp) (A:Ad) (s:S8):Prop where
 bk:fT CB CP H A.b A.pw A.sh A.d sp ev le s.nn s.nt s.mo A.ps s.cs
 st:cO CS H A.sh A.pw' A.d' ws s.kv
 t1:gD H T1 kB fF
 t2:gD H T2 uC fO
 dd:A.d≠A.d'
 tt:T1≠T2
def LP:HO->Bool
 | .tup _=>true
 | .lst _=>true
 | _=>false
def Ph (d d':Addr) (H H':Hp):Prop:=∀a o,H a=some o->(LP o=true\/(∃kv,o=.dK kv)/\a≠d/\a≠d')->H' a=some o
theorem Ph.tup {d d':Addr} {H H':Hp} {a:Addr} {xs:List V} (x:Ph d d' H H') (e:H a=some (.tup xs)):H' a=some (.tup xs):=x _ _ e (.inl rfl)
def cG.kpl {d d':Addr} {H H':Hp} (k:Ph d d' H H') {xs:List V} {ps:Lm.Ps} (h:cG H xs ps):cG H' xs ps:=aL (λ_ _ ⟨b,e,x⟩=>{b,e,k.tup x}) h
theorem bS.kpl {d d':Addr} {H H':Hp} (k:Ph d d' H H') {p:Addr} {ps:Lm.Ps} (h:bS H p ps):bS H' p ps:=by
 let (c,b,a):=h;exact {c,k.tup b,cG.kpl k a}
def wY {pw d:Addr}:(qA pw d).length=2:=rfl
def BA {pw d pw' sh d':Addr} {sp ev le nn nt mo:Int}:¬ (qA pw d).length=(bf pw' sh d' sp ev le nn nt mo).length:=by rw [wY];show ¬ 2=9;decide
def AZ {pw d:Addr} {n l h m:Int} {a:V}:¬ (qA pw d).length=(pf n l h m a).length:=by rw [wY];show ¬ 2=5;decide
section
variable {CB CS CP T1 T2:Addr} {sp ev le:Int} {ws:Lm.Ps} {H H':Hp} {A:Ad} {s:S8}
theorem Bv.same (e:aN H H') (h:Bv CB CS CP T1 T2 sp ev le ws H A s):Bv CB CS CP T1 T2 sp ev le ws H' A s:=
 {h.bk.sameT (aN.toT e),h.st.same e,h.t1.same e,h.t2.same e,h.dd,h.tt}
def Bv.step {k:Nat} {p:Addr} (h:Bv CB CS CP T1 T2 sp ev le ws H A s) (y:A.ps[k]?=some p) (fr:∀a o,H a=some o->a≠A.b->a≠A.d->a≠p->a≠T1->a≠A.d'->H' a=some o):
  Ph A.d A.d' H H'/\gD H' T2 uC fO/\bS H' A.pw' ws/\∃t,H' A.sh=some (.ins CS t (qA A.pw' A.d')):=by
 let ((t,n),m,q):=h.bk;let ((w,l),x,i):=h.st;let (c,D,C,(B,g),v):=aM q y;let (u,j,_):=h.t1;let r:Ph A.d A.d' H H':=λa o e k=>by
  refine fr a o e (λz=>?_) (λz=>?_) (λz=>?_) (λz=>?_) (λz=>?_) <;> subst z
  ·rw [n] at e;cases e;rcases k with k|⟨⟨_,k⟩,_⟩ <;> cases k
  ·rw [m] at e;cases e;rcases k with k|⟨_,k,_⟩
   ·cases k
   ·exact k rfl
  ·rw [g] at e;cases e;rcases k with k|⟨⟨_,k⟩,_⟩ <;> cases k
  ·rw [j] at e;cases e;rcases k with k|⟨⟨_,k⟩,_⟩ <;> cases k
  ·rw [i] at e;cases e;rcases k with k|⟨_,_,k⟩
   ·cases k
   ·exact k rfl
 refine {r,iM h.t2 (λu e=>fr _ _ e (aI e n (by intro z;cases z)) (aI e m (by intro z;cases z)) (aI e g (by intro z;cases z)) h.tt.symm (aI e i (by intro z;cases z)))
  (λa f e=>fr _ _ e (aI e n (by intro z;cases z)) (aI e m (by intro z;cases z)) (aI e g (by intro z;cases z)) (aI e j (by intro z;cases z)) (aI e i (by intro z;cases z))),bS.kpl r x,w,?_};exact fr _ _ l (aI l n (by intro z;injection z with _ _ z;exact absurd (congrArg List.length z) BA)) (aI l m (by intro z;cases z)) (aI l g (by intro z;injection z with _ _ z;exact absurd (congrArg List.length z) AZ)) (aI l j (by intro z;cases z)) (aI l i (by intro z;cases z))
def Bv.stepS {k:Nat} {p:Addr} (h:Bv CB CS CP T1 T2 sp ev le ws H A s) (l:A.ps[k]?=some p) (fr:∀a o,H a=some o->a≠A.b->a≠A.d->a≠p->a≠T1->H' a=some o):
  Ph A.d A.d' H H'/\gD H' T2 uC fO/\cO CS H' A.sh A.pw' A.d' ws s.kv:=by
 let ((I,x),E,j):=h.bk;let ((C,D),K,f):=h.st;let (c,G,F,(J,g),n):=aM j l;let (B,i,_):=h.t1;let (t,y,v,u):=h.step l λa o e m w r q _=>fr a o e m w r q;exact {t,y,u,v,fr _ _ f (aI f x (by intro z;cases z)) h.dd.symm (aI f g (by intro z;cases z)) (aI f i (by intro z;cases z))}
def Bv.stepT {k:Nat} {p:Addr} (h:Bv CB CS CP T1 T2 sp ev le ws H A s) (q:A.ps[k]?=some p) (fr:∀a o,H a=some o->a≠A.b->a≠A.d->a≠p->a≠A.d'->H' a=some o):gD H' T1 kB fF:=by
 let ((w,l),m,j):=h.bk;let (_,_,i):=h.st;let (c,v,u,(t,g),n):=aM j q;exact iM h.t1 (λr e=>fr _ _ e (aI e l (by intro z;cases z)) (aI e m (by intro z;cases z)) (aI e g (by intro z;cases z)) (aI e i (by intro z;cases z)))
  (λa f e=>fr _ _ e (aI e l (by intro z;cases z)) (aI e m (by intro z;cases z)) (aI e g (by intro z;cases z)) (aI e i (by intro z;cases z)))
def Bv.keepT {T:Addr} (h:Bv CB CS CP T1 T2 sp ev le ws H A s) (i:cT T H H') (g:T=T1/\gD H' T1 kB fF\/T=T2/\gD H' T2 uC fO):Bv CB CS CP T1 T2 sp ev le ws H' A s/\Ph A.d A.d' H H':=by
 let (w,r,_):=h.t1;let (x,p,_):=h.t2;let b:∃l,H T=some (.tbl l):=by rcases g with ⟨rfl,_⟩|⟨rfl,_⟩ <;> exact {_,by assumption}
 let (l,b):=b;let c:=i.toT b;let m:Ph A.d A.d' H H':=λa o e k=>c.at e λn z=>by subst z;rcases k with k|⟨⟨_,k⟩,_⟩ <;> cases k
 let ((q,u),v,j):=h.st;refine {{h.bk.sameT c,{{q,c.at u},bS.kpl m v,c.at j},?_,?_,h.dd,h.tt},m}
 ·rcases g with ⟨_,t⟩|⟨rfl,_⟩
  ·exact t
  ·exact iM h.t1 (λn e=>i _ _ h.tt e) λa f e=>c.at e
 ·rcases g with ⟨rfl,_⟩|⟨_,t⟩
  ·exact iM h.t2 (λn e=>i _ _ h.tt.symm e) λa f e=>c.at e
  ·exact t
end
structure Pm where
 sp:Int
 ev:Int
 le:Int
 ws:Lm.Ps
structure Go (N:Cn) (M:Pm) (H:Hp) (A:Ad) (s:S8):Prop where
 bv:Bv N.CB N.CS N.CP N.T1 N.T2 M.sp M.ev M.le M.ws H A s
 iv:Iv M.ws M.sp s
 wg:Wg M.ws
 l1:1<=M.le
 e1:1<=M.ev
theorem Go.same {N:Cn} {M:Pm} {H H':Hp} {A:Ad} {s:S8} (e:aN H H') (g:Go N M H A s):Go N M H' A s:={g.bv.same e,g.iv,g.wg,g.l1,g.e1}
def Go.few {N:Cn} {M:Pm} {H:Hp} {A:Ad} {s:S8} (g:Go N M H A s):s.cs.length<128:=by
 let h:=g.wg.sz (s.cs.map Pc.l) (List.nodup_iff_pairwise_ne.mpr (List.pairwise_map.mpr (g.iv.ap.imp_of_mem λ{c e} a d z y=>?_))) λx b=>?_
 ·rwa [f8] at h
 ·have:=g.iv.lm c a;have:=g.iv.lm e d;let y:c.l=e.l:=y;omega
 ·let (c,a,rfl):=p9.mp b;exact(g.iv.cv _).mpr {c,a,g9 _,(g.iv.lm c a).2.2}
def Ce {n d:Nat} {x:Int} (h:0<=x):HT.sIx n d (some x)=min x.toNat n:=by
 let e:=HT.sIx_nat n d x.toNat
 rwa [Int.toNat_of_nonneg h] at e
def uL {ns:List Int} {lo hi:Int} (a:0<=lo) (h2:lo<=hi):fS ns (some lo) (some hi)=(ns.drop lo.toNat).take (hi-lo).toNat:=by
 unfold fS;rw [Ce a,Ce ∎];apply J0;intro i;rw [Q0,Q0,o9,o9];by_cases z:lo.toNat<=ns.length
 ·rw [x0 z];by_cases y:i<min hi.toNat ns.length-lo.toNat
  ·rw [if_pos y,if_pos ∎]
  ·rw [if_neg y];by_cases x:i<(hi-lo).toNat
   ·rw [if_pos x,w8 ∎]
   ·rw [if_neg x]
 ·rw [if_neg ∎];split
  ·rw [w8 ∎]
  ·rfl
def Tl {ns:List Int} {lo hi:Int} (a:0<=lo) (h2:lo<=hi):((fS ns (some lo) (some hi)).length:Int)<=hi-lo:=by
 rw [uL a h2,l7];omega
inductive Dd where
 | lend (x:Str) (i:Int)
 | tell (tk pl i:Int) (ns:List Int)
inductive To where
 | non
 | lent (t n m h u:Int)
 | told (m h:Int) (u:V)
inductive Oj (H:Hp):V->To->Prop where
 | non:Oj H .non .non
 | lent {r:Addr} {t n m h u:Int} (_:H r=some (.tup [.int t,.int n,.int m,.int h,.int u])):Oj H (.ref r) (.lent t n m h u)
 | told {r:Addr} {m h:Int} {u:V} (_:H r=some (.tup [.int m,.int h,u])):Oj H (.ref r) (.told m h u)
inductive Sc (M:Pm) (s:S8):Dd->To->S8->Prop where
 | lendN {x:Str} {i:Int} (_:s.mo<=i) (_:rG s.cs M.le i):Sc M s (.lend x i) .non s
 | lendP {x:Str} {i:Int} {k:Nat} {c:Pc} (_:s.mo<=i) (_:s.cs[k]?=some c) (_:CV s.cs i c):Sc M s (.lend x i) (.lent s.nt c.n c.m c.h (i+M.sp)) { s with nt:=s.nt+1,mo:=i,cs:=s.cs.set k { c with o:=some (s.nt,x,i+M.sp) } }
 | lendC {x:Str} {i pl:Int} {k:Nat} {c:Pc} (_:s.mo<=i) (_:∀c ∈ s.cs,c.free=false) (_:∀c ∈ s.cs,c.late i=false) (_:s.cs[k]?=some c) (_:nZ Pc.lent s.cs c) (_:2 * M.le<=c.h-c.m) (_:pl=c.h-(c.h-c.m) / 2):Sc M s (.lend x i) (.lent s.nt s.nn pl c.h (i+M.sp)) { s with nn:=s.nn+1,nt:=s.nt+1,mo:=i,cs:=s.cs.set k { c with h:=pl }++[⟨s.nn,pl,c.h,pl,some (s.nt,x,i+M.sp)⟩] }
 | tell {tk pl i:Int} {ns fr:List Int} {k:Nat} {c:Pc} (_:s.mo<=i) (_:s.cs[k]?=some c) (_:c.has tk=true) (_:c.l<=pl) (_:pl<=c.m) (_:pl+ns.length<=c.m+M.ev) (_:∀(j:Nat) n,ns[j]?=some n->pl+(j:Int)<c.m->n=s.vf (pl+(j:Int))) (_:fr=fS ns (some (c.m-pl)) (some (c.h-pl))):
   Sc M s (.tell tk pl i ns) (.told (c.m+(fr.length:Int)) c.h (if c.m+(fr.length:Int)=c.h then .non else .int (i+M.sp))) { s with mo:=i,cs:=s.cs.set k (c.told fr.length (i+M.sp)),kv:=s.kv++jB c.m fr fr.length,ns:=s.ns++fQ c.m fr.length,vf:=AY s.vf c.m fr }
def Fo (N:Cn) (A:Ad) (H H':Hp):Prop:=∀a o,H a=some o->a≠A.b->a≠A.d->a≠A.d'->a ∉ A.ps->a≠N.T1->a≠N.T2->H' a=some o
inductive GY (N:Cn) (vs:List V) (H:Hp) (Q:VK) (E:XK):Prop|mk (M:Pm) (A:Ad) (s:S8) (x:Str) (i:Int) (_:vs=[.ref A.b,.str x,.int i]) (_:Go N M H A s) (_:s.mo<=i) (_:eN x) (_:PyData.strOk x=true)
 (_:∀v ps' o s' H',Ph A.d A.d' H H'->Fo N A H H'->(∀r ∈ ps',r ∈ A.ps\/H r=none)->Go N M H' { A with ps:=ps' } s'->Sc M s (.lend x i) o s'->Oj H' v o->Q v H')
def EH (N:Cn):Sp:=GY N
inductive GV (N:Cn) (CL:Addr) (vs:List V) (H:Hp) (Q:VK) (E:XK):Prop|mk (M:Pm) (A:Ad) (s:S8) (tk pl i:Int) (nr:Addr) (ns:List Int) (_:vs=[.ref A.b,.int tk,.int pl,.ref nr,.int i]) (_:Go N M H A s) (_:s.mo<=i) (_:0<=tk) (_:tk<s.nt) (_:H nr=some (.tup (ns.map V.int))) (_:ns.length<=M.ev) (_:M.ev<=1000) (_:∀c ∈ s.cs,c.has tk=true->c.m=pl)
 (_:(∀c ∈ s.cs,c.has tk=false)->∀H',aN H H'->E (.ref CL) none H')
 (_:∀v o s' H',Ph A.d A.d' H H'->Fo N A H H'->Go N M H' A s'->Sc M s (.tell tk pl i ns) o s'->Oj H' v o->Q v H')
def ED (N:Cn) (CL:Addr):Sp:=GV N CL
def LF (cs:List Pc) (tk:Int):(∀c ∈ cs,c.has tk=false)\/∃(k:Nat) (c:Pc),cs[k]?=some c/\c.has tk=true:=by
 by_cases z:∃c ∈ cs,c.has tk=true
 ·let (c,a,e):=z;let (k,b,d):=r9 a;exact .inr {k,c,by rw [<- d];exact c8 b,e}
 ·exact .inl λc a=>G7.mpr λe=>z {(c),a,e}
section
variable {f:Addr} {fd:FuncData}
def BE {ps:List Str} (G:bM P w K mg base (jK P w) 6 f fd ps (tJ N.CB N.CP (c 1) N.T1)):bM P w K mg base (jK P w) 6 f fd ps (EH N):=by
 refine G.imp λvs H Q E h=>?_;let (M,A,s,x,i,rfl,g,mi,wx,sx,q):=h;let hl:=g.few;refine {A.b,A.pw,A.sh,A.d,M.sp,M.ev,M.le,s.nn,s.nt,s.mo,i,x,A.ps,s.cs,rfl,g.bv.bk,∎,g.iv.nm,λc l=>(g.iv.nl c l).2,wx,g.bv.t1,λlo _ _=>absurd mi ∎,λm no F Z v=>?_,λm k p J r F I l Y D v L j=>?_,λm k p J q' r T F nf nl I l be h2 S D v nq L j=>?_}
 ·let (b',B):=g.bv.keepT Z (.inl {(rfl),v});exact q .non A.ps .non s F B (λa o e _ _ _ _ n _=>Z a o n e) (λr j=>.inl j) {(b'),g.iv,g.wg,g.l1,g.e1} (.lendN m no) .non
 ·let X:=g6 I;let (B,U,O):=g.bv.stepS I λa o e t _ C y=>D a o e t C y;exact q _ A.ps _ { s with nt:=s.nt+1,mo:=i,cs:=s.cs.set k { J with o:=some (s.nt,x,i+M.sp) } } F B (λa o e t _ _ C y _=>D a o e t (λz=>C (z ▸ X)) y) (λr j=>.inl j) {{(L),O,v,U,g.bv.dd,g.bv.tt},(g.iv.lendK l (g.iv.low Y).2 m sx),g.wg,g.l1,g.e1} (.lendP m l Y) (.lent j)
 ·let X:=g6 I;let (B,U,O):=g.bv.stepS I D;let l1:=g.l1;refine q _ (A.ps++[q']) _ { s with nn:=s.nn+1,nt:=s.nt+1,mo:=i,cs:=s.cs.set k { J with h:=T }++[{s.nn,T,J.h,T,some (s.nt,x,i+M.sp)}] } F B (λa o e t n2 _ C y _=>D a o e t n2 (λz=>C (z ▸ X)) y) (λr j=>(j1.mp j).imp_right λz=>by rw [l9.mp z];exact nq) {{(L),O,v,U,g.bv.dd,g.bv.tt},g.iv.cutK l ∎ ∎ (λu e=>?_) ∎ m,g.wg,g.l1,g.e1} (.lendC m nf nl l be h2 S) (.lent j);cases e;exact {g9 _,by show s.nt<s.nt+1;omega,g9 _,sx}
def BD {ps:List Str} (G:bM P w K mg base (jK P w) 5 f fd ps (λJ H Q E=>yK N.CB N.CS N.CP J H Q E\/jR N.CB N.CP (c 1) (c 2) (c 3) (c 4) J H Q E)):bM P w K mg base (jK P w) 5 f fd ps (ED N (c 3)):=by
 refine G.imp λJ H Q E h=>?_;let (M,A,s,L,pl,i,U,ns,rfl,g,hi,X,F,hn,le,e9,hm,hE,q):=h;rcases LF s.cs L with Y|⟨k,t,v,y⟩
 ·refine .inr {A.b,A.pw,A.sh,A.d,M.sp,M.ev,M.le,s.nn,s.nt,s.mo,A.ps,s.cs,.int L,.int pl,.ref U,.int i,rfl,g.bv.bk,.kn (.int _),.kn (.int _),.kn (.int _),λz=>lM hi z,λ_ z=>lM (p:=λx=>0<=x/\x<s.nt) {(X),F} z,λ_ _ _ _ _ _ T s'=>hE Y T s',λ_ a0 e _ _ k p t _ v y _=>?_};cases e;rw [Y t (g6 v)] at y;cases y
 let C:=g6 v;let em:=hm t C y;subst em;let (u,eo,eu):=dR y;let op:=g.iv.op t C u eo;obtain⟨p,I⟩:∃p,A.ps[k]?=some p:=by
  have:=g.bv.bk.pc.length;have:=(c9.mp v).1;exact {A.ps[k],c8 ∎}
 let bd:=g.iv.bnd g.wg C;let Z:=g.iv.lm t C;let al:∀(j:Nat) n,ns[j]?=some n->t.m+(j:Int)<t.m->n=s.vf (t.m+(j:Int)):=λj n _ l=>absurd l ∎;let fl:=Tl (ns:=ns) (lo:=t.m-t.m) (hi:=t.h-t.m) ∎ ∎;let (wq,O,w1,w2):=g.iv.inw g.wg C;let lw:=g.wg.ln;let lk:=g.iv.kvl;refine .inl {A.b,A.pw,A.sh,A.d,A.pw',A.d',U,M.sp,M.ev,M.le,s.nn,s.nt,s.mo,L,i,t.m,A.ps,s.cs,k,p,t,M.ws,s.kv,ns,rfl,g.bv.bk,g.bv.st,hi,X,F,I,v,y,λj e hj l=>g.iv.oneTk' v y j e hj l,hn,∎,Z.1,g9 _,∎,∎,∎,λj n e l=>absurd l ∎,g.iv.nm,g.bv.dd,∎,∎,{ ∎,∎,{wq,O,∎,∎},λj hj=>g.iv.hd.noV (g.iv.fresh v ∎ ∎)},λr T fr bk st hr=>?_};let (kp,t2,_,_):=g.bv.step I λa o e B _ D _ S=>fr a o e B D S;let F:=g.bv.stepT I λa o e B _ D S=>fr a o e B D S;let iv:=g.iv.told (fr:=fS ns (some (t.m-t.m)) (some (t.h-t.m))) (i:=i) g.wg v ∎ hi;let mp:=g6 I;exact q _ _ _ T kp (λa o e B _ n2 D _ _=>fr a o e B (λz=>D (z ▸ mp)) n2) {{(bk),st,F,t2,g.bv.dd,g.bv.tt},iv,g.wg,g.l1,g.e1} (.tell hi v y Z.1 (g9 _) ∎ al rfl) (.told hr)
end
section
variable (W:Wd P w K mg base N c)
include W
def Lq:eG P w K mg base (jK P w) N.CB "lend" 6 (EH N):=(Lh W).to BE
def Lp:eG P w K mg base (jK P w) N.CB "tell" 5 (ED N (c 3)):=(Ez W).to BD
end
structure Rn where
 x:Str
 pc:Int
 sil:Addr
 ps:Int
 sl:Bool
 tk:V
 ma:Int
 en:Int
 un:Addr
abbrev rf (r:Rn):List (Str × V):=[("worker",.str r.x),("pace",.int r.pc),("silences",.ref r.sil),("passed",.int r.ps),("silent",.bl r.sl),("token",r.tk),("mark",.int r.ma),("end",.int r.en),("untold",.ref r.un)]
structure Co where
 bk:Addr
 dv:V
 l:Int
 dn:Int
 ov:Int
 ln:Addr
 na:Int
abbrev cf (c:Co):List (Str × V):=[("book",.ref c.bk),("doing",c.dv),("left",.int c.l),("done",.int c.dn),("over",.int c.ov),("lines",.ref c.ln),("none_at",.int c.na)]
inductive Um (C:Addr) (vs:List V) (H:Hp) (Q:VK) (E0_:XK):Prop|mk (p dx:Addr) (r:Rn) (t:V) (m e:Int) (_:vs=[.ref p,t,.int m,.int e]) (_:H p=some (.ins C dx (rf r))) (_:Q .non (aS H p (.ins C dx (rf { r with tk:=t,ma:=m,en:=e }))))
def Xz (C:Addr):Sp:=Um C
inductive Op (C:Addr) (vs:List V) (H:Hp) (Q:VK) (E0_:XK):Prop|mk (p dx q:Addr) (x:Str) (pc:Int) (a:Lm.Ps) (_:vs=[.ref p,.str x,.int pc,.ref q]) (_:H p=some (.ins C dx [])) (_:bS H q a) (_:Lm.Wk a) (_:a.length<=1000)
 (_:∀(sil un:Addr) (b:Lm.Ps) (H':Hp),(∀b o,H b=some o->b≠p->H' b=some o)->bS H' sil b->Lm.Sh b->(∀x,Lm.mem b x↔Lm.mem a x)->H' un=some (.tup [])->H' p=some (.ins C dx (rf ⟨x,pc,sil,0,false,.non,0,0,un⟩))->Q .non H')
def Qe (C:Addr):Sp:=Op C
structure Cm (a:Lm.Ps) (t p0 ps:Int) (sl:Bool):Prop where
 z0:0<=ps
 up:p0<=ps
 le:ps<=a.length
 hi:∀q,a[ps.toNat]?=some q->t<q.2
 sl:sl=true↔∃q,a[ps.toNat]?=some q/\q.1<=t
inductive Vg (C:Addr) (vs:List V) (H:Hp) (Q:VK) (E0_:XK):Prop|mk (p dx:Addr) (r:Rn) (t:Int) (a:Lm.Ps) (_:vs=[.ref p,.int t]) (_:H p=some (.ins C dx (rf r))) (_:bS H r.sil a) (_:0<=r.ps) (_:r.ps<=a.length) (_:∀(ps:Int) (sl:Bool),Cm a t r.ps ps sl->Q .non (aS H p (.ins C dx (rf { r with ps:=ps,sl:=sl }))))
def Yn (C:Addr):Sp:=Vg C
inductive Pd (C:Addr) (vs:List V) (H:Hp) (Q:VK) (E0_:XK):Prop|mk (p dx bk:Addr) (dv:V) (l:Int) (_:vs=[.ref p,.ref bk,dv,.int l]) (_:H p=some (.ins C dx [])) (_:∀(ln:Addr) (H':Hp),H ln=none->(∀b o,H b=some o->b≠p->H' b=some o)->H' ln=some (.lst [])->H' p=some (.ins C dx (cf ⟨bk,dv,l,0,0,ln,0⟩))->Q .non H')
def Qp (C:Addr):Sp:=Pd C
def Ys:aK ["self","token","mark","end"] ["self","token","mark","end"] (aG Jc):={rfl,rfl,rfl,⋯,rfl,⋯,⋯}
def Cz (W:Wd P w K mg base N c):eG P w K mg base cY N.CR "take" 1 (Xz N.CR):=W.d65.of λF=>by
 refine F.ok Ys (λf H Q E h=>?_) (λb A a s H f Q E i h=>?_)
 ·let (p,g,r,t,m,e,rfl,_):=h
  rfl
 ·intro X D
  let (p,g,r,t,m,e,rfl,d,q):=h
  refine Wp.ex (dF (p:=p) (v:=t) (by symm) (by symm) d W.R.cl W.R.nT (by show 9<1000;decide) ?_)
  refine dF (p:=p) (v:=.int m) (by symm) (by symm) aB W.R.cl W.R.nM (by show 9<1000;decide) ?_
  refine dF (p:=p) (v:=.int e) (by symm) (by symm) aB W.R.cl W.R.nE (by show 9<1000;decide) (cJ ?_)
  rw [bO,bO]
  exact q
def Qw:aK ["self","worker","pace","silences"] ["self","worker","pace","silences"] (aG Jd):={rfl,rfl,rfl,⋯,rfl,⋯,⋯}
def La (W:Wd P w K mg base N c):eG P w K mg base cY N.CR "__init__" 6 (Qe N.CR):=W.d63.of λF=>by
 refine F.ok Qw (λvs H Q E h=>?_) (λU A L s H vs Q E hr h=>?_)
 ·let (p,d,q,x,g,a,rfl,_):=h
  rfl
 ·intro X D
  let (p,d,q,x,g,a,rfl,T,ha,wa,Z,k):=h
  refine Wp.ex (dF (p:=p) (v:=.str x) (by symm) (by symm) T W.R.cl W.R.nW (by show 0<1000;decide) ?_)
  refine dF (p:=p) (v:=.int g) (by symm) (by symm) aB W.R.cl W.R.nP (by show 1<1000;decide) ?_
  rw [bO]
  let B:∀b o,H b=some o->b≠p->(aS H p (.ins N.CR d [("worker",.str x),("pace",.int g)])) b=some o:=λb o e n=>by rw [aC n];exact e
  let M:(aS H p (.ins N.CR d [("worker",.str x),("pace",.int g)])) p=_:=aB
  let t:bS (aS H p (.ins N.CR d [("worker",.str x),("pace",.int g)])) q a:=by
   let (S,m,O):=ha;let u:∀{b:Addr} {l:List V},H b=some (.tup l)->b≠p:=λ{b l} e z=>by rw [z,T] at e;cases e
   exact {S,B _ _ m (u m),aL (λv q ⟨b,z1,z2⟩=>{b,z1,B _ _ z2 (u z2)}) O}
  show Wp X _ D _ (aS H p (.ins N.CR d [("worker",.str x),("pace",.int g)]));generalize aS H p (.ins N.CR d [("worker",.str x),("pace",.int g)])=H2 at M B t ⊢;refine {_,aE (cA (pv 0) (aV (Ky W) hr aQ (aA (pv 3) aF)) rfl) aU,?_};refine {_,rfl,q,a,rfl,t,wa,Z,λr b C G Y J I _=>?_};refine {_,rfl,p,N.CR,d,_,rfl,G _ _ M,W.R.cl,W.R.nS,(by show 2<1000;decide),?_};refine dF (p:=p) (v:=.int 0) (by symm) (by symm) aB W.R.cl W.R.nA (by show 3<1000;decide) ?_;refine dF (p:=p) (v:=.bl false) (by symm) {λ_ q=>{_,lK,q}} aB W.R.cl W.R.nQ (by show 4<1000;decide) ?_;refine dF (p:=p) (v:=.non) (by symm) (by symm) aB W.R.cl W.R.nT (by show 5<1000;decide) ?_;refine dF (p:=p) (v:=.int 0) (by symm) (by symm) aB W.R.cl W.R.nM (by show 6<1000;decide) ?_;refine dF (p:=p) (v:=.int 0) (by symm) (by symm) aB W.R.cl W.R.nE (by show 7<1000;decide) ?_;rw [bO,bO,bO,bO,bO];refine {_,aH (cA (pv 0) (cD aF) rfl),i8 _,λj f=>?_};let y:p≠j:=λz=>by rw [z,aB] at f;cases f
  let nu:∀{b:Addr} {o:HO},C b=some o->b≠p->b≠j:=λ{b o} e n z=>by
   rw [<- z,aC n,e] at f;cases f
  refine {_,rfl,p,N.CR,d,_,rfl,by rw [aC y,aB],W.R.cl,W.R.nU,(by show 8<1000;decide),?_};let i:∀b o,C b=some o->b≠p->(aS (aS (aS C p (.ins N.CR d (rf {x,g,r,0,false,.non,0,0,j} |>.take 8))) j (.tup [])) p (.ins N.CR d (rf {x,g,r,0,false,.non,0,0,j}))) b=some o:=λb o e n=>by rw [aC n,aC (nu e n),aC n];exact e
  let u:∀{b:Addr} {l:List V},C b=some (.tup l)->b≠p:=λ{b l} e z=>by rw [z,G _ _ M] at e;cases e
  let (S,m,O):=Y;exact k r j b _ (λb o e n=>i b o (G _ _ (B _ _ e n)) n) {S,i _ _ m (u m),aL (λv q ⟨b,z1,z2⟩=>{b,z1,i _ _ z2 (u z2)}) O} J I (by rw [aC y.symm,aB]) aB
def Hk {H:Hp} {p:Addr} {o:HO} (h:H p=some o):aS H p o=H:=funext λb=>by
 by_cases z:b=p
 ·rw [z,aB,h]
 ·rw [aC z]
def Ze:aK ["self","tick"] ["self","tick"] (aG Je):={rfl,rfl,rfl,⋯,rfl,⋯,⋯}
def Sv (W:Wd P w K mg base N c):eG P w K mg base cY N.CR "come_to" 1 (Yn N.CR):=W.d64.of λF=>by
 refine F.ok Ze (λvs H Q E h=>?_) (λa0 A I s H vs Q E hr h=>?_)
 ·let (p,f,r,t,a,rfl,_):=h
  rfl
 ·intro X D
  let (p,f,r,t,a,rfl,Y,(g,Z,x2),z0,z1,q):=h
  let lx:=x2.length
  let C:=W.R.cl
  let nA:=W.R.nA
  let nS:=W.R.nS
  let GL:=W.G.len
  let nt:∀{b:Addr} {i:List V},H b=some (.tup i)->b≠p:=λ{b i} e z=>by rw [z,Y] at e;cases e
  let L:∀ps:Int,0<=ps->ps<a.length->∃b n o,kX g ps=some (.ref b)/\H b=some (.tup [.int n,.int o])/\a[ps.toNat]?=some (n,o):=λps x O=>by
   let (j,rfl):=F1 x
   let hj:j<g.length:=∎
   let (y,hy,b,e,B):=aM x2 (c8 hj)
   exact {b,y.1,y.2,by rw [<- e];exact bV (c8 hj),B,hy}
  refine Wp.ex (oP v4 (λm σ G=>∃ps:Int,m=a.length-ps.toNat/\0<=ps/\r.ps<=ps/\ps<=a.length/\σ=[some (.ref p),some (.int t)]/\G=aS H p (.ins N.CR f (rf { r with ps:=ps }))) _ {r.ps,rfl,z0,g9 _,z1,rfl,(Hk Y).symm} λm σ G h=>?_)
  let (ps,rfl,x,hu,O,rfl,rfl):=h
  let k:(aS H p (.ins N.CR f (rf { r with ps:=ps }))) p=some (.ins N.CR f (rf { r with ps:=ps })):=aB
  let xG:(aS H p (.ins N.CR f (rf { r with ps:=ps }))) r.sil=some (.tup g):=by rw [aC (nt Z)];exact Z
  let q:∀sl,(∀q,a[ps.toNat]?=some q->t<q.2)->(sl=true↔∃q,a[ps.toNat]?=some q/\q.1<=t)->Q .non (aS (aS H p (.ins N.CR f (rf { r with ps:=ps }))) p (.ins N.CR f (rf { r with ps:=ps,sl:=sl }))):=λsl y1 y2=>by rw [bO];exact q ps sl {(x),hu,O,y1,y2}
  let up:aS (aS H p (.ins N.CR f (rf { r with ps:=ps }))) p (.ins N.CR f (rf { r with ps:=ps+1 }))=_:=bO
  let U:∀{b:Addr} {i:List V},H b=some (.tup i)->(aS H p (.ins N.CR f (rf { r with ps:=ps }))) b=some (.tup i):=λ{b i} e=>by rw [aC (nt e)];exact e
  generalize aS H p (.ins N.CR f (rf { r with ps:=ps }))=G at k xG q up U ⊢
  by_cases c1:ps<a.length
  ·let (b,n,o,a1,B,J):=L ps x c1
   let B:=U B
   let u:decide (ps<(g.length:Int))=true:=decide_eq_true ∎
   by_cases M:o<=t
   ·refine .inl {?_,λD' T=>?_}
    ·apply Tv.is;apply kF;symm;intro _;symm
     rw [u,decide_eq_true M]
     rfl
    ·refine {_,aE (fU (pv 0) aY pX) aU,?_}
     exact {_,rfl,p,N.CR,f,_,_,rfl,k,C,nA,rfl,_,_,rfl,rfl,f,_,k,(by show 9<1000;decide),cJ (T.nx _ _ {a.length-(ps+1).toNat,∎,ps+1,rfl,∎,∎,∎,rfl,up})}
   ·refine .inr {?_,?_}
    ·apply Tv.is;apply kF;symm;intro _;symm
     rw [decide_eq_false M,M0]
    ·refine {_,aH (cA (pv 0) (eJ (dU iF aR aR (bQ _)) (fL (dU fP aR (pv 1) (bQ _)))) rfl),?_}
     refine Vl.to (v:=.int ps) (by symm) _ (Vl.to (v:=.int g.length) (by symm) _ {_,_,rfl,rfl,_,rfl,eU u (Vl.to (v:=.int n) (by symm) _ {_,rfl,_,_,rfl,rfl,_,rfl,p,N.CR,f,_,rfl,k,C,W.R.nQ,(by show 9<1000;decide),q (decide (n<=t)) (λy e=>by rw [J] at e;cases e;show t<o;omega) {λz=>{_,J,of_decide_eq_true z},λ⟨y,e,l⟩=>by rw [J] at e;cases e;exact decide_eq_true l}})})
  ·let u:decide (ps<(g.length:Int))=false:=decide_eq_false ∎
   let S:a[ps.toNat]?=none:=w8 ∎
   refine .inr {?_,?_}
   ·apply Tv.is;apply kF (d:=false);symm;intro z;exact absurd (show ps<(g.length:Int) from of_decide_eq_true z) ∎
    rw [M0]
   ·refine {_,aH (cA (pv 0) (eJ (dU iF aR aR (bQ _)) (fL (dU fP aR (pv 1) (bQ _)))) rfl),?_}
    refine Vl.to (v:=.int ps) (by symm) _ (Vl.to (v:=.int g.length) (by symm) _ {_,_,rfl,rfl,_,rfl,gA u {_,rfl,p,N.CR,f,_,rfl,k,C,W.R.nQ,(by show 9<1000;decide),q false (λy e=>by rw [S] at e;cases e) {(λz=>nomatch z),λ⟨y,e,_⟩=>by rw [S] at e;cases e}}})
def Rb:aK ["self","book","doing","left"] ["self","book","doing","left"] (aG Jt):={rfl,rfl,rfl,⋯,rfl,⋯,⋯}
def Lr (W:Wd P w K mg base N c):eG P w K mg base cY N.CC "__init__" 1 (Qp N.CC):=W.d66.of λF=>by
 refine F.ok Rb (λu H Q E h=>?_) (λr A g s H u Q E x h=>?_)
 ·let (p,q,j,i,l,rfl,_):=h
  rfl
 ·intro X D
  let (p,q,j,i,l,rfl,t,k):=h
  refine Wp.ex (dF (p:=p) (v:=.ref j) (by symm) (by symm) t W.Q.cl W.Q.nB (by show 0<1000;decide) ?_)
  refine dF (p:=p) (v:=i) (by symm) (by symm) aB W.Q.cl W.Q.nD (by show 1<1000;decide) ?_
  refine dF (p:=p) (v:=.int l) (by symm) (by symm) aB W.Q.cl W.Q.nL (by show 2<1000;decide) ?_
  refine dF (p:=p) (v:=.int 0) (by symm) (by symm) aB W.Q.cl W.Q.nN (by show 3<1000;decide) ?_
  refine dF (p:=p) (v:=.int 0) (by symm) (by symm) aB W.Q.cl W.Q.nO (by show 4<1000;decide) ?_
  rw [bO,bO,bO,bO]
  refine {_,aE (cA (pv 0) (pH aF) rfl) aU,i8 _,λf a=>?_}
  let d:p≠f:=λz=>by rw [z,aB] at a;cases a
  let m:H f=none:=by rwa [aC d.symm] at a
  refine {_,rfl,p,N.CC,q,_,rfl,by rw [aC d,aB],W.Q.cl,W.Q.nI,(by show 5<1000;decide),?_}
  refine dF (p:=p) (v:=.int 0) (by symm) (by symm) aB W.Q.cl W.Q.nX (by show 6<1000;decide) (cJ ?_)
  rw [bO]
  refine k f _ m (λb o e n=>?_) ?_ aB
  ·rw [aC n,aC (aD e m),aC n]
   exact e
  ·rw [aC d.symm,aB]
end
end Ls
namespace L2
open PySem PySem.Spec PyProof.Rows PySem.W
section
variable {X:Cx}
def Gq (m:X.calm=true):gC X (.builtin "min") (λd H Q=>∃i j k,d=[.int i,.int j,.int k]/\Q (.int (if j<i then(if k<j then k else j) else if k<i then k else i)) H):=by
 intro e s σ H d f Q I r h;let (i,j,k,rfl,q):=h;obtain⟨z,c,rfl,⟨v,rfl⟩,g⟩:∃u c,f=u::c/\bK (.int i) u/\bG [.int j,.int k] c:=by
  cases r with
  | cons r1 r2=>exact {_,_,rfl,r1,r2}
 let (o,p,rfl,(y,rfl),(t,rfl)):=Hj g;refine min_three_ints (I.ok.hd m) λn w l=>{_,H,I.kept l,?_,q};by_cases b:j<i
 ·by_cases a:k<j
  ·rw [if_pos b,if_pos a,if_pos b,if_pos a];exact {_,rfl}
  ·rw [if_pos b,if_neg a,if_pos b,if_neg a];exact {_,rfl}
 ·by_cases a:k<i
  ·rw [if_neg b,if_pos a,if_neg b,if_pos a];exact {_,rfl}
  ·rw [if_neg b,if_neg a,if_neg b,if_neg a];exact {_,rfl}
end
section
variable {X:Cx} {NB:List Str} {js:List Nat} {scope:Scope} {cl:List (Str × Addr)} {x:Str} {elt:Expr} {p' p1 p2 p3:Pos} {σ:St} {H:Hp} {Q:VK}
def xH {i j:Int} {a b:Expr} {out:Nat->V} {Iz:Addr->Nat->Hp->Prop} (C:lW X NB 1 js scope cl) (hi:NB[0]?=some x) (D:X.mg "range"=none) (Y:Av X [a,b] σ H [.int i,.int j]) (hj:-(2 ^ 62)<=i/\i<2 ^ 62/\-(2 ^ 62)<=j/\j<2 ^ 62) (hn:(j-i).toNat<=4000)
  (h0:∀c,H c=none->Iz c 0 (aS H c (.lst [])))
  (N:∀c n,n<(j-i).toNat->∀G,Iz c n G->G c=some (.lst ((List.range n).map out))->∀R:VK,(∀q,q c=some (.lst ((List.range n).map out))->Iz c (n+1) (aS q c (.lst ((List.range (n+1)).map out)))->R (out n) q)->∀C s l f d,Ex (X.blkF NB scope cl C s l f d) elt ((dZ 1 js σ).set 0 (some (.int (i+(n:Int))))) G R)
  (k:∀c G,Iz c (j-i).toNat G->G c=some (.lst ((List.range (j-i).toNat).map out))->Q (.ref c) G)
  (U:∀C s l f d,Au (X.blkF NB scope cl C s l f d).env.scope x:=by exact λ_ _ _ _ _=>j0 rfl) (L:∀C s l f d,(X.blkF NB scope cl C s l f d).env.scope.names.lookup x=some .local:=by exact λ_ _ _ _ _=>rfl) (B:Gl X "range":=by rfl) (r:starEach [a,b] X.env=[(false,eval a X.env),(false,eval b X.env)]:=by rfl) (v:starEach [b] X.env=[(false,eval b X.env)]:=by rfl) (hc:X.calm=true:=by rfl) (t:∀y,foldedSetIterable (.Call (.Name "range" p1) [a,b] [] p2) X.env y=pure y:=by intro _;rfl):
  Ex X (.ListComp elt [{.Name x p',.Call (.Name "range" p1) [a,b] [] p2,[],0}] scope p3) σ H Q:=by
 let (S,J,M,K,W):=C.all;let sl:sizeLine=16777216:=sizeLine_eq;refine {_,cS (g:=cI 0) (te:=Bx X NB scope cl elt) S J M rfl K (jT B D dD r v hc) (λC s H f d=>aO W hi (U C s H f d) (.inr (L C s H f d))) (λ_ _ _ _ _=>dL) (λC s l f d _ P F T Z I h=>aR P F T Z I (h C s l f d)) t,Y.to _ {i,j,rfl,hj,λc A=>{λn m u G=>m=(j-i).toNat-n/\n<=(j-i).toNat/\u=(List.range n).map out/\Iz c n G/\G c=some (.lst u),{_,rfl,i8 _,rfl,h0 c A,aB},?_}}};rintro n m u G ⟨rfl,O,rfl,z,w⟩;refine {w,?_};by_cases o:n<(j-i).toNat
 ·refine .inr {o,λx G' E=>?_};let (rfl,rfl):=E;refine {rfl,λC s l f d=>N c n o _ z w _ (λq e2 p=>?_) C s l f d};refine {e2,by rw [f8,x6];omega,_,?_,rfl,o,by rw [O7,m9];rfl,?_,?_}
  ·omega
  ·rw [O7,m9] at p;exact p
  ·exact aB
 let e:n=(j-i).toNat:=∎;subst e;exact .inl {d7 _,k _ _ z w}
end
end L2
namespace Ls
open PySem L2 PySem.W
def gM (m:Int) (n:Nat):List Int:=(List.range n).map λ(i:Nat)=>iI (m+(i:Int))
def fB (m:Int) (n:Nat):(gM m n).length=n:=by unfold gM;rw [f8,x6]
abbrev Fx:=List (Addr × (Heap->Prop))
def xW (fx:Fx) (H:Hp):Prop:=∀p ∈ fx,H p.1=some (.ext p.2)
def Aw (P:Program) (w:World) (K:Frag) (mg:Str->Option Value) (base:Heap) (fD la:Addr) (fx:Fx):Prop:=∀(H:Hp) (pl:Int) (zs:List V),xW fx H->H la=some (.lst zs)->zs.length<=4000->-(2 ^ 60)<=pl->pl<=2 ^ 60->∀Q:VK,(∀H' zs',(∀b o,H b=some o->b≠la->H' b=some o)->H' la=some (.lst zs')->zs'.length=zs.length+1->Q (.int (iI pl)) H')->HB P w K mg base 2 fD [.int pl] H Q
inductive HA (N:Cn) (fD la:Addr) (fx:Fx) (vs:List V) (H:Hp) (Q:VK) (E0_:XK):Prop|mk (p q dc dp db pw sh d:Addr) (c:Co) (r:Rn) (sp ev le nn nt mo:Int) (zs:List V) (_:vs=[.ref p,.ref q]) (_:H p=some (.ins N.CC dc (cf c))) (_:c.dv=.ref fD) (_:H q=some (.ins N.CR dp (rf r))) (_:H c.bk=some (.ins N.CB db (bf pw sh d sp ev le nn nt mo))) (_:1<=r.pc) (_:1<=ev) (_:ev<=4) (_:r.ma<r.en) (_:-(2 ^ 60)<=r.ma) (_:r.en<=2 ^ 60) (_:xW fx H) (_:H la=some (.lst zs)) (_:zs.length<=3990)
 (_:∀(k:Nat) (u:Addr) (H':Hp) (zs':List V),1<=k->k<=ev->r.ma+k<=r.en->(∀b o,H b=some o->b≠p->b≠la->H' b=some o)->H' u=some (.tup ((gM r.ma k).map V.int))->H' p=some (.ins N.CC dc (cf { c with dn:=c.dn+k }))->H' la=some (.lst zs')->zs'.length=zs.length+k->Q (.ref u) H')
def IU (N:Cn) (fD la:Addr) (fx:Fx):Sp:=HA N fD la fx
section
variable {P:Program} {w:World} {K:Frag} {mg:Str->Option Value} {base:Heap} {N:Cn} {c:Nat->Addr}
def ER:aK ["self","runner","count","doing"] ["self","runner"] (aG vT):={rfl,rfl,rfl,⋯,rfl,⋯,⋯}
def Wt {fD I:Addr} {fx:Fx} (hD:Aw P w K mg base fD I fx) (W:Wd P w K mg base N c):eG P w K mg base cY N.CC "do_places" 3 (IU N fD I fx):=W.d72.of λF=>by
 refine F.ok ER (λvs H Q E h=>?_) (λa3 A a1 s H vs Q E hr h=>?_)
 ·let (p,q,x,dp,db,pw,sh,d,c,r,sp,O,le,nn,nt,mo,zs,rfl,_):=h
  rfl
 ·intro X D
  let (p,q,x,dp,db,pw,sh,d,c,r,sp,O,le,nn,nt,mo,zs,rfl,Z,hd,hq,hb,p1,e1,e4,me,m1,m2,t,hz,lz,k):=h
  let nd:=ER.nd
  let cl:=W.R.cl
  let nP:=W.R.nP
  let nE:=W.R.nE
  let nM:=W.R.nM
  let a7:=W.Q.cl
  let nB:=W.Q.nB
  let nD:=W.Q.nD
  let a4:=W.B.cl
  let a6:=W.B.nE
  let a2:q≠p:=λz=>by
   rw [z,Z] at hq
   have:=Option.some.inj hq
   injection this with _ _ e
   exact absurd e (by intro z;cases z)
  refine Wp.ex (cL (n:=2) nd rfl {_,bB (Gq rfl) (by rfl) W.G.min xM dD,Av.to (vs:=[.int r.pc,.int O,.int (r.en-r.ma)]) (by symm) _ {_,_,_,rfl,?_}})
  generalize hn:(if O<r.pc then(if r.en-r.ma<O then r.en-r.ma else O) else if r.en-r.ma<r.pc then r.en-r.ma else r.pc)=n
  let S:1<=n/\n<=O/\r.ma+n<=r.en:=by
   rw [<- hn];split <;> split <;> omega
  let (l,rfl):=F1 (show 0<=n by omega);refine jL (n:=3) (v:=.ref fD) (by rw [<- hd];symm) nd rfl (E9 rfl) rfl (.inl rfl) ?_;refine {_,aE (fU (pv 0) (pv 2) pX) aU,?_};refine {_,rfl,p,N.CC,x,_,_,rfl,Z,W.Q.cl,W.Q.nN,rfl,_,rfl,_,_,rfl,rfl,x,_,Z,(by show 7<1000;decide),?_};let J:(aS H p (.ins N.CC x (cf { c with dn:=c.dn+(l:Int) }))) p=some (.ins N.CC x (cf { c with dn:=c.dn+(l:Int) })):=aB;let M:∀b o,H b=some o->b≠p->(aS H p (.ins N.CC x (cf { c with dn:=c.dn+(l:Int) }))) b=some o:=λb o e n=>by rw [aC n];exact e
  show Wp X _ D _ (aS H p (.ins N.CC x (cf { c with dn:=c.dn+(l:Int) })));generalize aS H p (.ins N.CC x (cf { c with dn:=c.dn+(l:Int) }))=H1 at J M ⊢;let a5:=M _ _ hq a2;let pl:p≠I:=aI Z hz (by intro z;cases z);let L:=M _ _ hz pl.symm;let xl:∀a ∈ fx,a.1≠p/\a.1≠I:=λa y=>{aI (t a y) Z (by intro z;cases z),aI (t a y) hz (by intro z;cases z)};let en:(r.ma+(l:Int)-r.ma).toNat=l:=∎;refine fV {_,dW cX (by rfl) W.G.tuple fM (aA aR aF),xH (NB:=["place","doing"]) (js:=[3]) (cl:=[("doing",s.heap.objs.size+1)]) (i:=r.ma) (j:=r.ma+(l:Int)) (out:=λn=>.int (iI (r.ma+(n:Int))))
   (Iz:=λf n G=>(∀b o,H1 b=some o->b≠I->b≠f->G b=some o)/\H1 f=none/\∃g,G I=some (.lst g)/\g.length=zs.length+n) {(rfl),rfl,rfl,rfl} rfl W.G.range (by symm) ∎ ∎
   (λf m=>{λb o e _ n=>by rw [aC n];exact e,m,zs,by rw [aC (aD L m)];exact L,rfl}) (λf n hn G iz hA R z C s H' fp pn=>?_) λf G iz hA=>?_}
  ·let (U,m,g,i2,i3):=iz;let T:I≠f:=aD L m;let fg:xW fx G:=λa y=>U _ _ (M _ _ (t a y) (xl a y).1) (xl a y).2 (aD (M _ _ (t a y) (xl a y).1) m);let Y:=hD G (r.ma+(n:Int)) g fg i2 ∎ ∎ ∎ R λG2 a0 f2 e2 l2=>z G2 (f2 _ _ hA T.symm) {λb o e S n2=>by rw [aC n2];exact f2 _ _ (U b o e S n2) S,m,a0,by rw [aC T];exact e2,∎};exact {_,Ko (i:=1) (k:=2) (by exact hr.mono (by decide)) (aA (pv 0) aF),fD,rfl,Y.1,_,rfl,Y}
  ·let (U,m,g,i2,i3):=iz;refine {f,_,rfl,.inl {cZ.of hA,λu hu=>?_}};rw [en] at i3 ⊢;let sf:∀b o,G b=some o->(aS G u (.tup ((List.range l).map λ(n:Nat)=>V.int (iI (r.ma+(n:Int)))))) b=some o:=aJ hu;refine k l u _ g ∎ S.2.1 S.2.2 (λb o e n n2=>sf _ _ (U _ _ (M _ _ e n) n2 (aD (M _ _ e n) m))) ?_ (sf _ _ (U _ _ J pl (aD J m))) (sf _ _ i2) i3;rw [aB];unfold gM;rw [O8];rfl
end
end Ls
namespace L2
open PySem PySem.Spec PyProof.Rows PySem.W
def Ti {X:Cx}:BZ X .Sub (λx y H Q=>∃i j,x=.int i/\y=.int j/\Q (.int (i-j)) H):=λd s σ H x y u v Q I f e h=>by
 let (i,j,rfl,rfl,q):=h
 let (a,rfl):=f
 let (b,rfl):=e
 exact isub_int {.int (i-j),H,I.tok _,{_,rfl},q}
def IJ (t:TT) (ta tb:TE):TE:=λσ H Q=>t σ H λc H1=>if c=true then ta σ H1 Q else tb σ H1 Q
def Kj {X:Cx} {c a b:Expr} {pos:Pos} {tc:TT} {j tb:TE} (m:PT X c tc) (l:PE X a j) (n:PE X b tb):PE X (.IfExp c a b pos) (IJ tc j tb):=λk s σ H Q I h=>by
 refine wpAny_IfExp (gK (m s σ H _ I h) λd f z=>?_)
 let (e,g,i):=z
 cases d with
 | true=>exact l f σ e Q g i
 | false=>exact n f σ e Q g i
end L2
namespace Ls
open PySem L2 PySem.W
def Ki:HO->Bool
 | .tup _=>true
 | .lst _=>true
 | .ins _ _ ((f,_)::_)=>f == "book" || f == "worker"
 | .ext _=>true
 | _=>false
def Mo {C a:Addr} {c:Co}:Ki (.ins C a (cf c))=true:=by show (("book":Str) == "book" || ("book":Str) == "worker")=true;decide +kernel
def Fn {C a:Addr} {r:Rn}:Ki (.ins C a (rf r))=true:=by show (("worker":Str) == "book" || ("worker":Str) == "worker")=true;decide +kernel
def FU {C a:Addr} {v:V} {b:List (Str × V)}:Ki (.ins C a (("work",v)::b))=false:=by show (("work":Str) == "book" || ("work":Str) == "worker")=false;decide +kernel
def FV {C a:Addr} {v:V} {b:List (Str × V)}:Ki (.ins C a (("number",v)::b))=false:=by show (("number":Str) == "book" || ("number":Str) == "worker")=false;decide +kernel
def Kb:HO->Bool
 | .tup _=>true
 | .ext _=>true
 | o=>!Ki o
def Go.kb {N:Cn} {M:Pm} {H H':Hp} {A:Ad} {s:S8} (k:∀a o,H a=some o->Kb o=true->H' a=some o) (g:Go N M H A s):Go N M H' A s:=by
 let ((((f,W),u,m),((J,r),(S,L,O),l),B,Q,t,I),y,E,z,U):=g;let j:∀{T:Addr} {h:Pos} {q:Str},gD H T h q->gD H' T h q:=λ{T h q} ⟨x,a,b,c⟩=>{x,k _ _ a rfl,b,c.imp id λ⟨G,d,e⟩=>{G,d,k _ _ e rfl}};let n:∀{C f:Addr} {v:V} {i:List (Str × V)},Kb (.ins C f (("work",v)::i))=true:=λ{C f v i}=>by show (!Ki (.ins C f (("work",v)::i)))=true;rw [FU];rfl
 let D:∀{C f:Addr} {v:V} {i:List (Str × V)},Kb (.ins C f (("number",v)::i))=true:=λ{C f v i}=>by show (!Ki (.ins C f (("number",v)::i)))=true;rw [FV];rfl
 exact {{{{f,k _ _ W n},k _ _ u rfl,aL (λp c ⟨F,⟨dp,ha⟩,hl⟩=>{F,{dp,k _ _ ha D},hl.move λq X e=>k _ _ e rfl}) m},{{J,k _ _ r n},{S,k _ _ L rfl,aL (λv q ⟨b,z1,z2⟩=>{b,z1,k _ _ z2 rfl}) O},k _ _ l rfl},j B,j Q,t,I},y,E,z,U}
def fZ {H:Hp} {a b:Addr} {o o':HO} (e:H a=some o) (k:Kb o=true) (f:H b=some o') (d:Kb o'=false):a≠b:=λz=>by
 rw [z,f] at e
 cases e
 rw [k] at d
 cases d
def Mp {C a:Addr} {c:Co}:Kb (.ins C a (cf c))=false:=by show (!Ki (.ins C a (cf c)))=false;rw [Mo];rfl
def Fs {C a:Addr} {r:Rn}:Kb (.ins C a (rf r))=false:=by show (!Ki (.ins C a (rf r)))=false;rw [Fn];rfl
def Fo.ki {N:Cn} {M:Pm} {H H':Hp} {A:Ad} {s:S8} (g:Go N M H A s) (F:Fo N A H H') {a:Addr} {o:HO} (e:H a=some o) (k:Ki o=true):H' a=some o:=by
 let (r,p):=g.bv.bk.ob;let (_,f,_):=g.bv.t1;let (_,i,_):=g.bv.t2;let b:∀{h:HO},H a=some h->Ki h=false->False:=λ{h} m l=>by
  rw [e] at m;cases m;rw [k] at l;cases l
 refine F a o e (λz=>b (z ▸ p) FU) (λz=>b (z ▸ g.bv.bk.dc) rfl) (λz=>b (z ▸ g.bv.st.dc) rfl) (λz=>?_) (λz=>b (z ▸ f) rfl) λz=>b (z ▸ i) rfl;let (j,q,n):=r9 z;let (_,_,_,(_,d),_):=aM g.bv.bk.pc (c8 q);rw [n] at d;exact b d FV
def Kr (p q l:Addr) (H H':Hp):Prop:=∀a o,H a=some o->Ki o=true->a≠p->a≠q->a≠l->H' a=some o
inductive GW (N:Cn) (CL:Addr) (vs:List V) (H:Hp) (Q:VK) (E:XK):Prop|mk (M:Pm) (A:Ad) (s:S8) (p q dc dq nr:Addr) (c:Co) (r:Rn) (tk i:Int) (ns:List Int) (ys:List V) (_:vs=[.ref p,.ref q,.ref nr,.int i]) (_:H p=some (.ins N.CC dc (cf c))) (_:c.bk=A.b) (_:H q=some (.ins N.CR dq (rf r))) (_:r.tk=.int tk) (_:H c.ln=some (.lst ys)) (_:ys.length<=4000) (_:Go N M H A s) (_:s.mo<=i) (_:0<=tk) (_:tk<s.nt) (_:H nr=some (.tup (ns.map V.int))) (_:ns.length<=M.ev) (_:M.ev<=4) (_:∀e ∈ s.cs,e.has tk=true->e.m=r.ma)
 (_:(∀e ∈ s.cs,e.has tk=false)->∀H',aN H H'->E (.ref CL) none H')
 (_:∀(m h:Int) (u:V) (s':S8) (a:Addr) (H':Hp),Sc M s (.tell tk r.ma i ns) (.told m h u) s'->Go N M H' A s'->Kr p q c.ln H H'->H' p=some (.ins N.CC dc (cf { c with l:=c.l-(m-r.ma) }))->H' q=some (.ins N.CR dq (rf { r with tk:=if u=.non then .non else .int tk,ma:=m,en:=h }))->H' c.ln=some (.lst (ys++[.ref a]))->Q .non H')
def IS (N:Cn) (CL:Addr):Sp:=GW N CL
def Sc.tellU {M:Pm} {s s':S8} {tk pl i:Int} {ns:List Int} {o:To} (h:Sc M s (.tell tk pl i ns) o s'):∃m h u,o=.told m h u/\(u=.non\/∃z,u=.int z):=by
 cases h with
 | tell _ _ _ _ _ _ _ _=>
  refine {_,_,_,rfl,?_};split
  ·exact .inl rfl
  ·exact .inr {_,rfl}
section
variable {P:Program} {w:World} {K:Frag} {mg:Str->Option Value} {base:Heap} {N:Cn} {c:Nat->Addr}
def EM:aK ["self","runner","numbers","tick","told"] ["self","runner","numbers","tick"] (aG Js):={rfl,rfl,rfl,⋯,rfl,⋯,⋯}
def Ws (W:Wd P w K mg base N c):eG P w K mg base (jK P w) N.CC "tell_numbers" 6 (IS N (c 3)):=W.d73.of λF=>by
 refine F.okE EM (λvs H Q E h=>?_) (λac A a8 s H vs Q E hr h=>?_)
 ·let (M,A,s,p,q,j,I,nr,c,r,tk,i,ns,ys,rfl,_):=h
  rfl
 ·intro X D
  let (M,Ab,s8,p,q,j,I,nr,f,r,tk,i,ns,ys,rfl,hp,a3,hq,G,hl,ly,g,hi,t0,t1,hn,le,e4,hm,hE,k):=h
  let nd:=EM.nd
  let (db,a7):=g.bv.bk.ob
  let a9:=W.Q.cl
  let nB:=W.Q.nB
  let nI:=W.Q.nI
  let ad:=W.R.cl
  let nT:=W.R.nT
  let nM:=W.R.nM
  let bo:H f.bk=some (.ins N.CB db (bf Ab.pw Ab.sh Ab.d M.sp M.ev M.le s8.nn s8.nt s8.mo)):=by rw [a3];exact a7
  refine Wp.ex (cL (n:=4) nd rfl {_,bD aR W.B.cl (Lp W) hr (eS (E':=E) λ_ _ _ z=>z) dD,?_})
  refine Vl.to (v:=.ref f.bk) (by symm) _ {_,db,_,rfl,bo,rfl,?_}
  refine Av.to (vs:=[.int tk,.int r.ma,.ref nr,.int i]) (by rw [<- G];symm) _ ?_
  refine {M,Ab,s8,tk,r.ma,i,nr,ns,by rw [a3];rfl,g,hi,t0,t1,hn,le,∎,hm,λno H' s'=>hE no H' s',λv o s' H1 kp fo g' sc to=>?_}
  let (m,h,u,rfl,hu):=sc.tellU
  obtain⟨rr,rfl,a1⟩:∃rr,v=.ref rr/\H1 rr=some (.tup [.int m,.int h,u]):=by
   cases to with
   | told z=>exact {_,rfl,z}
  let Y:=fo.ki g hp Mo;let a0:=fo.ki g hq Fn;let C:=fo.ki g hl rfl;let a4:p≠q:=λz=>by
   rw [z,hq] at hp;have:=Option.some.inj hp;injection this with _ _ e;exact absurd e (by intro z;cases z)
  let Z:p≠f.ln:=aI hp hl (by intro z;cases z);let O:q≠f.ln:=aI hq hl (by intro z;cases z);refine jM (l:=f.ln) (vs:=[.str "told",.int i,.int tk,.int r.ma,.ref nr]) (by symm) (by rw [<- G];symm) C ly (by show 5<=1000;decide) (λa U na k2 l2 a2=>?_) rfl (kG PySem.F.plainAttrs_list PySem.F.slot_list_append PySem.F.type_list_append cU aR (aA (cD dD) aF));let x:=k2 _ _ Y Z;let a6:=k2 _ _ a0 O;let J:=k2 _ _ a1 (aI a1 C (by intro z;cases z));refine {_,aE (fU (pv 0) aR Ti) aU,?_};refine {_,rfl,p,N.CC,j,_,_,rfl,x,a9,W.Q.nL,rfl,Vl.to (v:=.int (m-r.ma)) (by symm) _ {_,_,rfl,rfl,j,_,x,(by show 7<1000;decide),?_}};let a5:(aS U p (.ins N.CC j (cf { f with l:=f.l-(m-r.ma) }))) p=some (.ins N.CC j (cf { f with l:=f.l-(m-r.ma) })):=aB;let T:∀b o,U b=some o->b≠p->(aS U p (.ins N.CC j (cf { f with l:=f.l-(m-r.ma) }))) b=some o:=λb o e n=>by rw [aC n];exact e
  show Wp X _ D _ (aS U p (.ins N.CC j (cf { f with l:=f.l-(m-r.ma) })));generalize aS U p (.ins N.CC j (cf { f with l:=f.l-(m-r.ma) }))=H3 at a5 T ⊢;let y:=T _ _ a6 a4.symm;let aa:=T _ _ J (aI J x (by intro z;cases z));let L:∀t:V,t=(if u=.non then .non else .int tk)->Q .non (aS H3 q (.ins N.CR I (rf { r with tk:=t,ma:=m,en:=h }))):=λt et=>by
   let S:∀b o,H1 b=some o->b≠p->b≠q->b≠f.ln->(aS H3 q (.ins N.CR I (rf { r with tk:=t,ma:=m,en:=h }))) b=some o:=λb o e n1 n2 n3=>by
    rw [aC n2];exact T _ _ (k2 _ _ e n3) n1
   refine k m h u s' a _ sc (g'.kb λb o e z=>S b o e (fZ e z Y Mp) (fZ e z a0 Fs) (fZ e z C rfl)) (λb o e z n1 n2 n3=>S b o (fo.ki g e z) n1 n2 n3) ?_ ?_ ?_
   ·rw [aC a4];exact a5
   ·rw [aB,et]
   ·rw [aC O.symm];exact T _ _ l2 Z.symm
  refine {_,aH (cF (bD (pv 1) W.R.cl (Cz W) hr aQ (aA (Kj eF aR aR) (aA aR (aA aR aF))))),?_};refine {_,rfl,q,I,_,rfl,y,rfl,?_};refine Tv.to (b:=!decide (u=.non)) (by symm) _ ?_;rcases hu with rfl|⟨z,rfl⟩
  ·refine bY (Vl.to (v:=.non) (by symm) _ (Vl.to (v:=.int m) (by symm) _ (Vl.to (v:=.int h) (by symm) _ {q,I,r,_,m,h,rfl,y,L _ rfl})))
  ·refine cH (Vl.to (v:=.int tk) (by rw [<- G];symm) _ (Vl.to (v:=.int m) (by symm) _ (Vl.to (v:=.int h) (by symm) _ {q,I,r,_,m,h,rfl,y,L _ rfl})))
end
end Ls
namespace L2
open PySem PySem.Spec PyProof.Rows PySem.W
def Az {X:Cx} {D:eO} {σ:St} {H:Hp} {pos:Pos} {r:List Stmt} (h:D.rt .non H):Wp X (.Return none pos::r) D σ H:=
 {_,aE (t:=λD _ H=>D.rt .non H) (λ_ _ σ H _ I h=>wpAny_Return_none {.non,σ,H,I,rfl,h}) aU,h}
end L2
namespace Ls
open PySem L2 PySem.W
def GQ (s:S8) (i o o':Int):Prop:=o'=o\/o'=o+1/\(∀e ∈ s.cs,e.free=false)/\∃e ∈ s.cs,e.late i=true
inductive BX (N:Cn) (vs:List V) (H:Hp) (Q:VK) (E0_:XK):Prop|mk (M:Pm) (A:Ad) (s:S8) (p q dc dq:Addr) (c:Co) (r:Rn) (i:Int) (ys:List V) (_:vs=[.ref p,.ref q,.int i]) (_:H p=some (.ins N.CC dc (cf c))) (_:c.bk=A.b) (_:H q=some (.ins N.CR dq (rf r))) (_:eN r.x) (_:PyData.strOk r.x=true) (_:H c.ln=some (.lst ys)) (_:ys.length<=4000) (_:Go N M H A s) (_:s.mo<=i)
 (_:c.na=i\/rG s.cs M.le i->∀H':Hp,(∀a o,H a=some o->Ki o=true->a≠p->H' a=some o)->Go N M H' A s->H' p=some (.ins N.CC dc (cf { c with na:=i }))->Q .non H')
 (_:∀(tk n m h u ov:Int) (s':S8) (ps':List Addr) (a:Addr) (H':Hp),Sc M s (.lend r.x i) (.lent tk n m h u) s'->GQ s i c.ov ov->Go N M H' { A with ps:=ps' } s'->Kr p q c.ln H H'->H' p=some (.ins N.CC dc (cf { c with ov:=ov }))->H' q=some (.ins N.CR dq (rf { r with tk:=.int tk,ma:=m,en:=h }))->H' c.ln=some (.lst (ys++[.ref a]))->Q .non H')
def EK (N:Cn):Sp:=BX N
def Sc.lendU {M:Pm} {s s':S8} {x:Str} {i:Int} {o:To} (h:Sc M s (.lend x i) o s') (n:¬ rG s.cs M.le i):∃t n m h u,o=.lent t n m h u:=by
 cases h with
 | lendN _ z=>exact absurd z n
 | lendP _ _ _=>exact {_,_,_,_,_,rfl}
 | lendC _ _ _ _ _ _ _=>exact {_,_,_,_,_,rfl}
section
variable {P:Program} {w:World} {K:Frag} {mg:Str->Option Value} {base:Heap} {N:Cn} {c:Nat->Addr}
def Vx:aK ["self","runner","tick","chosen","told"] ["self","runner","tick"] (aG Ju):={rfl,rfl,rfl,⋯,rfl,⋯,⋯}
def AE (W:Wd P w K mg base N c):eG P w K mg base (jK P w) N.CC "ask_lending" 7 (EK N):=W.d71.of λF=>by
 refine F.okE Vx (λvs H Q E h=>?_) (λas A aq s H vs Q E hr h=>?_)
 ·let (M,A,s,p,q,dc,dq,c,r,i,ys,rfl,_):=h
  rfl
 ·intro X D
  let (M,t,k,p,q,dc,dq,I,r,i,ys,rfl,hp,J,hq,wx,sx,hl,ly,g,hi,kN,kL):=h
  let nd:=Vx.nd
  let ah:=W.Q.cl
  let nB:=W.Q.nB
  let nI:=W.Q.nI
  let nX:=W.Q.nX
  let au:=W.R.cl
  let nW:=W.R.nW
  let a8:p≠q:=λz=>by
   rw [z,hq] at hp
   have:=Option.some.inj hp
   injection this with _ _ e
   exact absurd e (by intro z;cases z)
  let af:p≠I.ln:=aI hp hl (by intro z;cases z)
  let a6:q≠I.ln:=aI hq hl (by intro z;cases z)
  let L:∀(ov:Int) (v3:V) (G:Hp),(∀a o,H a=some o->Ki o=true->a≠p->G a=some o)->Go N M G t k->G p=some (.ins N.CC dc (cf { I with ov:=ov }))->¬ rG k.cs M.le i->GQ k i I.ov ov->Wp X ((bH Ju).drop 4) D [some (.ref p),some (.ref q),some (.int i),some v3,none] G:=λov v3 G T g hp no a5=>by
   let hq:=T _ _ hq Fn a8.symm
   let hl:=T _ _ hl rfl af.symm
   let (db,a0):=g.bv.bk.ob
   let bo:G I.bk=some (.ins N.CB db (bf t.pw t.sh t.d M.sp M.ev M.le k.nn k.nt k.mo)):=by rw [J];exact a0
   refine cL (n:=4) nd rfl {_,bD aR W.B.cl (Lq W) hr (eS (E':=E) λ_ _ _ z=>z) dD,?_}
   refine Vl.to (v:=.ref I.bk) (by symm) _ {_,db,_,rfl,bo,rfl,?_}
   refine Av.to (vs:=[.str r.x,.int i]) (by symm) _ ?_
   refine {M,t,k,r.x,i,by rw [J];rfl,g,hi,wx,sx,λv ao o s' U kp fo fp g' sc to=>?_}
   let (tk,n,m,h,u,rfl):=sc.lendU no
   obtain⟨rr,rfl,S⟩:∃rr,v=.ref rr/\U rr=some (.tup [.int tk,.int n,.int m,.int h,.int u]):=by
    cases to with
    | lent z=>exact {_,rfl,z}
   let C:=fo.ki g hp Mo;let aa:=fo.ki g hq Fn;let Z:=fo.ki g hl rfl;refine jM (l:=I.ln) (vs:=[.str "lent",.int i,.str r.x,.int tk,.int n]) (by symm) (by symm) Z ly (by show 5<=1000;decide) (λa H2 na k2 l2 a2=>?_) rfl (kG PySem.F.plainAttrs_list PySem.F.slot_list_append PySem.F.type_list_append cU aR (aA (cD dD) aF));let ap:=k2 _ _ C af;let ad:=k2 _ _ aa a6;let aw:=k2 _ _ S (aI S Z (by intro z;cases z));refine {_,aH (cF (bD (pv 1) W.R.cl (Cz W) hr aQ dD)),?_};refine {_,rfl,q,dq,_,rfl,ad,rfl,Av.to (vs:=[.int tk,.int m,.int h]) (by symm) _ {q,dq,r,_,m,h,rfl,ad,?_}};let ae:∀b o,U b=some o->b≠q->b≠I.ln->(aS H2 q (.ins N.CR dq (rf { r with tk:=.int tk,ma:=m,en:=h }))) b=some o:=λb o e n2 n3=>by
    rw [aC n2];exact k2 _ _ e n3
   refine kL tk n m h u ov s' ao a _ sc a5 (g'.kb λb o e z=>ae b o e (fZ e z aa Fs) (fZ e z Z rfl)) (λb o e z n1 n2 n3=>ae b o (fo.ki g (T _ _ e z n1) z) n2 n3) ?_ aB ?_
   ·rw [aC a8];exact ap
   ·rw [aC a6.symm];exact l2
  let (db,a0):=g.bv.bk.ob;let bo:H I.bk=some (.ins N.CB db (bf t.pw t.sh t.d M.sp M.ev M.le k.nn k.nt k.mo)):=by rw [J];exact a0
  let av:=g.few;refine Wp.ex (He (c:=decide (V.int I.na=V.int i)) (by symm) (λz=>Az (by have z:=V.int.inj (of_decide_eq_true z);exact kN (.inl z) H (λa o e _ _=>e) g (by rw [<- z];exact hp))) λ_=>?_);refine cL (n:=3) nd rfl {_,bD aR W.B.cl (W.d44.of λF=>sC F (wH W) W) hr aQ dD,?_};refine Vl.to (v:=.ref I.bk) (by symm) _ {_,db,_,rfl,bo,rfl,Av.to (vs:=[.int i]) (by symm) _ {t.b,t.pw,t.sh,t.d,M.sp,M.ev,M.le,k.nn,k.nt,k.mo,i,t.ps,k.cs,by rw [J];rfl,g.bv.bk,∎,hi,g.bv.t1,λv U kt tb an=>?_}};let O:Go N M U t k:={(g.bv.keepT kt (.inl {(rfl),tb})).1,g.iv,g.wg,g.l1,g.e1};let T:∀a o,H a=some o->Ki o=true->U a=some o:=λa o e z=>kt a o (λy=>by
   let (_,al,_):=g.bv.t1
   rw [y,al] at e
   cases e
   cases z) e;let C:=T _ _ hp Mo;cases an with
  | non a1 a2 a3=>
   apply Xc;symm;rfl;refine dF (p:=p) (v:=.int i) (by symm) (by symm) C ah nX (by show 7<1000;decide) (Az ?_);exact kN (.inr {(a1),a2,a3}) _ (λa o e z n=>by rw [aC n];exact T a o e z) (O.kb λb o e z=>by rw [aC (fZ e z C Mp)];exact e) aB
  | @cut pc rr a1 a2 a3 a4 S=>
   apply oQ;symm;rfl;refine oQ (c:=false && false) (kF (Tv.is (by symm) ?_) λz=>nomatch z) rfl (L I.ov _ U (λa o e z _=>T a o e z) O C (λz=>?_) (.inl rfl))
   ·decide +kernel
   ·have:=z.2.2 pc a3;omega
  | @pc pc rr best S=>
   apply oQ;symm;rfl;let no:¬ rG k.cs M.le i:=λz=>by
    rcases best with b|⟨_,b⟩
    ·have:=z.1 pc b.1;rw [b.2.1] at this;cases this
    ·have:=z.2.1 pc b.1;rw [b.2.1] at this;cases this
   let mc:pc ∈ k.cs:=by
    rcases best with b|⟨_,b⟩ <;> exact b.1
   let (j,hj,ej):=r9 mc
   let hc:k.cs[j]?=some pc:=by rw [<- ej];exact c8 hj
   let ar:=O.bv.bk.pc.length;let ag:t.ps[j]?=some (t.ps[j]'∎):=c8 _;let (am,aj,lv,(dp,a7),ak):=aM O.bv.bk.pc ag;let (a9,ac):=O.bv.bk.ob;let ai:U I.bk=some (.ins N.CB a9 (bf t.pw t.sh t.d M.sp M.ev M.le k.nn k.nt k.mo)):=by rw [J];exact ac
   refine {_,aE (bP (PW.pt (fX eF (eW (bX (cR (bD aR W.B.cl (Cy W) hr aQ dD) W.P.cl (lL W) hr aQ))))) aU aZ) aU,?_};refine Tv.to (b:=true) (Tv.is (by symm) ⋯) _ (cH ?_);refine Vl.to (v:=.ref I.bk) (by symm) _ {_,a9,_,rfl,ai,rfl,Av.to (vs:=[.int pc.n]) (by symm) _ {t.b,t.pw,t.sh,t.d,M.sp,M.ev,M.le,k.nn,k.nt,k.mo,t.ps,k.cs,j,_,pc,by rw [J];rfl,O.bv.bk,ag,hc,O.iv.nm,?_}};refine {_,dp,_,rfl,a7,rfl,_,_,_,_,_,lv,rfl,{(dp),a7},_,rfl,?_};by_cases Y:lv=.non
   ·rw [decide_eq_true Y];exact bY (L I.ov _ U (λa o e z _=>T a o e z) O C no (.inl rfl))
   ·rw [decide_eq_false Y];let a5:GQ k i I.ov (I.ov+1):=by
     rcases best with b|⟨nf,b⟩
     ·refine absurd ?_ Y;let f:=b.2.1;unfold Pc.free at f;rw [z8,D2] at f;let e:am=pc:=Option.some.inj (aj.symm.trans hc);exact of_decide_eq_true (by rw [ak.non,e];exact f.1)
     ·exact .inr {(rfl),nf,pc,b.1,b.2.1}
    refine cH {_,aE (fU (pv 0) aY pX) aU,?_};refine {_,rfl,p,N.CC,dc,_,_,rfl,C,ah,W.Q.nO,rfl,_,_,rfl,rfl,dc,_,C,(by show 7<1000;decide),cJ ?_};exact L (I.ov+1) _ _ (λa o e z n=>by rw [aC n];exact T a o e z) (O.kb λb o e z=>by rw [aC (fZ e z C Mp)];exact e) aB no a5
end
structure Rk (M:Pm) (s:S8) (j:Int) (un:List Int) (r:Rn) (tk:Int):Prop where
 lt:0<=tk/\tk<s.nt
 mm:∀c ∈ s.cs,c.has tk=true->c.m=r.ma/\c.h<=r.en/\(c.h=r.en\/c.m+M.ev<=c.h)
 me:r.ma<r.en
 bd:-(2 ^ 60)<=r.ma/\r.en<=2 ^ 60
 uu:(un.length:Int)<=M.ev/\r.ma+un.length<=r.en
 ac:un=[]->∃(k:Nat) (c:Pc) (x:Str) (u:Int),s.cs[k]?=some c/\c.o=some (tk,x,u)/\j<=u
 sl:r.sl=true->un≠[]
def Pe (M:Pm) (s:S8) (j:Int) (un:List Int) (r:Rn):Prop:=(r.tk=.non/\un=[])\/∃tk,r.tk=.int tk/\Rk M s j un r tk
def lO {c:Pc} {t:Int × Str × Int} (e:c.o=some t):c.has t.1=true:=by unfold Pc.has;rw [e];exact decide_eq_true rfl
def zW {c:Pc} {t:Int × Str × Int} {tk:Int} (h:c.has tk=true) (e:c.o=some t):t.1=tk:=by
 let (u,a,z):=dR h;rw [e] at a;cases a;exact z
def mH {l:List Pc} {k j:Nat} {c e:Pc} (h:l[j]?=some e) (n:j≠k):(l.set k c)[j]?=some e:=by rw [w5 (A8 n)];exact h
def iQ {l:List Pc} {k:Nat} {c e:Pc} (h:l[k]?=some e):(l.set k c)[k]?=some c:=by
 rw [B4 (c9.mp h).1]
def uS {l m:List Pc} {k:Nat} {e:Pc} (h:l[k]?=some e):(l++m)[k]?=some e:=by
 rw [p7 (c9.mp h).1];exact h
section
variable {M:Pm} {s s':S8} {j i tk:Int} {un:List Int} {r:Rn} {o:To} {x:Str}
theorem Rk.lend (h:Rk M s j un r tk) (v:i<=j) (q:1<=M.le) (t:M.ev<=M.le) (p:Sc M s (.lend x i) o s'):Rk M s' j un r tk:=by
 let n:=h.lt;cases p with
 | lendN _ _=>exact h
 | @lendP _ _ k c hi hc ch=>
  refine {{n.1,by show tk<s.nt+1;omega},λe a z=>?_,h.me,h.bd,h.uu,λl=>?_,h.sl}
  ·rcases o8 a with m|rfl
   ·exact h.mm e m z
   ·have:s.nt=tk:=zW z rfl;omega
  ·let (f,e,y,u,a,d,g):=h.ac l;refine {f,e,y,u,mH a λz=>?_,d,g};subst z;rw [hc] at a;cases a;rcases ch with b|⟨_,b⟩
   ·have:=b.2.1;unfold Pc.free at this;rw [d] at this;cases this
   ·have:=b.2.1;unfold Pc.late at this;rw [d] at this;have:u<i:=of_decide_eq_true this;omega
 | @lendC _ _ pl k c hi nf nl hc be h2 hpl=>
  refine {{n.1,by show tk<s.nt+1;omega},λe a z=>?_,h.me,h.bd,h.uu,λl=>?_,h.sl}
  ·rcases j1.mp a with m|m
   ·rcases o8 m with m|rfl
    ·exact h.mm e m z
    ·have:=h.mm c (g6 hc) z;exact {this.1,by show pl<=r.en;omega,.inr (by show c.m+M.ev<=pl;omega)}
   ·rw [l9.mp m] at z;have:s.nt=tk:=zW z rfl;omega
  ·let (f,e,y,u,a,d,g):=h.ac l;by_cases z:f=k
   ·subst z;rw [hc] at a;cases a;exact {f,_,y,u,uS (iQ hc),d,g}
   ·exact {f,e,y,u,uS (mH a z),d,g}
theorem Rk.tell {b pl:Int} {ns:List Int} (h:Rk M s j un r tk) (n:b≠tk) (w:Sc M s (.tell b pl i ns) o s'):Rk M s' j un r tk:=by
 cases w with
 | @tell _ _ _ _ fr k c hi hc hh a1 a2 a3 a4 a5=>
  let (t,l,g):=dR hh;refine {h.lt,λe d z=>?_,h.me,h.bd,h.uu,λa=>?_,h.sl}
  ·rcases o8 d with m|rfl
   ·exact h.mm e m z
   ·let (u,a,q):=dR z;unfold Pc.told at a;rw [l] at a;split at a
    ·cases a
    ·cases a;exact absurd (g.symm.trans q) n
  ·let (v,e,y,u,d,f,p):=h.ac a;refine {v,e,y,u,mH d λz=>?_,f,p};subst z;rw [hc] at d;cases d;rw [l] at f;cases f;exact n g.symm
def Rk.own {n m h u:Int} (b:Iv M.ws M.sp s) (p:Wg M.ws) (C:1<=M.le) (E:M.ev<=M.le) (e1:1<=M.ev) (v:j<=i+M.sp) (g:r.sl=false) (B:Sc M s (.lend x i) (.lent tk n m h u) s'):Rk M s' j [] { r with tk:=.int tk,ma:=m,en:=h } tk:=by
 let q:=b.n0;let a:∀e ∈ s.cs,e.has s.nt=true->False:=λe f z=>by
  let (t,A,D):=dR z;have:=b.op e f t A;omega
 cases B with
 | @lendP _ _ k c hi hc ch=>
  let d:=g6 hc;let l:=b.bnd p d;let w:=b.lm c d;refine {{q,by show s.nt<s.nt+1;omega},λe f z=>?_,(b.low ch).2,{by show _<=c.m;omega,l.2},{by show (0:Int)<=M.ev;omega,by show c.m+(0:Nat)<=c.h;omega},λ_=>{k,_,x,i+M.sp,iQ hc,rfl,v},λz=>by rw [show r.sl=true from z] at g;cases g};rcases o8 f with y|rfl
  ·exact(a e y z).elim
  ·exact {rfl,g9 _,.inl rfl}
 | @lendC _ _ pl k c hi nf nl hc be h2 hpl=>
  let d:=g6 hc;let l:=b.bnd p d;let w:=b.lm c d;refine {{q,by show s.nt<s.nt+1;omega},λe f z=>?_,by show m<c.h;omega,{by show _<=m;omega,l.2},{by show (0:Int)<=M.ev;omega,by show m+(0:Nat)<=c.h;omega},λ_=>{(s.cs.set k { c with h:=m }).length,{s.nn,m,c.h,m,some (s.nt,x,i+M.sp)},x,i+M.sp,by rw [u8 (d7 _),Nat.sub_self];rfl,rfl,v},λz=>by rw [show r.sl=true from z] at g;cases g};rcases j1.mp f with y|y
  ·rcases o8 y with y|rfl
   ·exact(a e y z).elim
   ·exact(a c d z).elim
  ·rw [l9.mp y];exact {rfl,g9 _,.inl rfl}
def Rk.own2 {j' m h:Int} {u:V} {ns:List Int} (k:Rk M s j un r tk) (l:Iv M.ws M.sp s) (e1:1<=M.ev) (C:(ns.length:Int)<=M.ev) (D:r.ma+ns.length<=r.en) (n:j'<=i+M.sp) (g:r.sl=false) (A:Sc M s (.tell tk r.ma i ns) (.told m h u) s'):
  m=r.ma+ns.length/\(∃c ∈ s.cs,c.has tk=true/\c.m=r.ma)/\(u=.non\/Rk M s' j' [] { r with tk:=.int tk,ma:=m,en:=h } tk):=by
 cases A with
 | @tell _ _ _ _ fr kk c hi hc hh a1 a2 a3 a4 a5=>
  let d:=g6 hc;let (f,F,G):=k.mm c d hh;let E:=l.lm c d;let B:fr=ns:=by
   rw [a5,uL ∎ ∎,show (c.m-r.ma).toNat=0 by omega,E7,o7 ∎]
  subst B;let (t,v,p):=dR hh;refine {by rw [f],{(c),d,hh,f},?_};by_cases z:c.m+(fr.length:Int)=c.h
  ·exact .inl (if_pos z)
  refine .inr {k.lt,λe w y=>?_,by show c.m+(fr.length:Int)<c.h;omega,⟨by have:=k.bd;show _<=c.m+(fr.length:Int);omega,by have:=k.bd;show c.h<=_;omega⟩,{by show (0:Int)<=M.ev;omega,by show c.m+(fr.length:Int)+(0:Nat)<=c.h;omega},λ_=>{kk,_,t.2.1,i+M.sp,iQ hc,?_,n},λz=>by rw [show r.sl=true from z] at g;cases g}
  ·let (q,a):=j9.mp w;by_cases b:q=kk
   ·subst b;let a:(s.cs.set q (c.told fr.length (i+M.sp)))[q]?=some e:=a;rw [iQ hc] at a;cases a;exact {rfl,g9 _,.inl rfl}
   ·let a:(s.cs.set kk (c.told fr.length (i+M.sp)))[q]?=some e:=a;rw [w5 (A8 b)] at a;exact absurd (l.oneTk hc a hh y).symm b
  ·unfold Pc.told;rw [if_neg z,v,<- p];rfl
end
end Ls
namespace L2
open PySem PySem.Spec PyProof.Rows
def Vq (K:PySem.W.Frag) (cv:Value) (σw:St) (ts:TS) (D:eO):XK:=λcls _ H=>∃C,cls=.ref C/\PySem.W.exmOne K cls cv=some true/\∀ea,H ea=none->ts D σw (aS H ea (rB ea C))
def Xm (tb:XK->St->TS) (K:PySem.W.Frag) (cv:Value) (wk:St->St) (ts:TS):TS:=λD σ H=>tb (Vq K cv (wk σ) ts D) (wk σ) D σ H
section
variable {X:Cx}
def Kf {t:List Stmt} {b₀:Stmt} {k:List Stmt} {x:Str} {np Q pos:Pos} {tb:XK->St->TS} {ts:TS} {wk:St->St} {cv:Value} (hw:∀ σ,σ.length=X.N.length->(wk σ).length=X.N.length/\Le (wk σ) σ) (a8:X.xe=λ_ _=>False)
  (n:X.stack=X.env::X.outer/\X.env.frame=some X.env.locals) (hg:Gl X x) (hm:X.mg x=some cv)
  (hb:∀(pn:List (Addr × Obj)) (xe:Value->Shared->Prop) (E:XK) (σw:St),oM (jK X.prog X.w) (X.try_ pn xe) σw E->qS (X.try_ pn xe) t (tb E σw))
  (hs:∀e,qS (X.suite e) (b₀::k) ts) (hd:(x == ("__debug__":Str))=false:=by decide):
  PS X (.Try t [.ExceptHandler (some (.Name x np)) none (b₀::k) Q] [] [] pos) (Xm tb X.K cv wk ts):=by
 intro pins s σ H D I h;rw [a8];refine wpAny_Try_except ?_;refine v7 (hb (X.pn++pins) (λe s'=>∃a d L P,Le (wk σ) d/\aP (X.try_ (X.pn++pins) λ_ _=>False) a d L P/\jK X.prog X.w X.stack L P (Vq X.K cv (wk σ) ts D) e s') _ _
  (λa d L P e s' le J hc=>{a,d,L,P,le,J.re (J.ok.try_ _ _) rfl rfl rfl rfl rfl rfl rfl rfl λp z=>z,hc}) (pins:=[]) s σ H D
  (I.re (I.ok.try_ _ _) rfl rfl rfl rfl rfl rfl rfl rfl λp z=>by simpa using z) h) (λf O q=>?_) λe O q=>?_
 ·let g:SP X pins D f O:=by
   cases f with
   | next=>let (d,j,J,q):=q;exact {d,j,J.re I.ok rfl rfl rfl rfl rfl rfl rfl rfl λp z=>by simpa using z,q}
   | brk=>let (d,j,J,q):=q;exact {d,j,J.re I.ok rfl rfl rfl rfl rfl rfl rfl rfl λp z=>by simpa using z,q}
   | cont=>let (d,j,J,q):=q;exact {d,j,J.re I.ok rfl rfl rfl rfl rfl rfl rfl rfl λp z=>by simpa using z,q}
   | ret u=>let (v,d,j,J,r,q):=q;exact {v,d,j,J.re I.ok rfl rfl rfl rfl rfl rfl rfl rfl λp z=>by simpa using z,r,q}
  cases f with
  | next=>exact L0 g
  | brk=>exact g
  | cont=>exact g
  | ret u=>exact g
 ·let (a,d,L,P,le,J,i,ac,a0,j,B,rfl,os,U,F,C,rfl,a9,a7):=q
  let fr:X.A.frames=some (X.env::X.outer):=by rw [<- n.1];exact I.ok.frames
  let F':=F;rw [n.1] at F';refine Hd.look2 fr n.2 F'.fly F'.nc λh4 Y T a4=>?_;refine Hd.land2 Y a4 λh5 G S Z=>?_;let F5:=F'.later G Z (T.trans S);let a1:∀(M:Heap),Gz X.prog X.w (X.env::X.outer) L P.heap i (.ref C) a0 j B M->aP (X.suite (.ref i)) (X.pn++pins) (wk σ) (aS j i (rB i C)) { O with heap:=M }:=λM FF=>by
   let (un,a2):=FF.laid;rw [<- n.1] at un;let J1:aP (X.try_ (X.pn++pins) λ_ _=>False) a d (aS j i (rB i C)) { O with heap:=M }:=
    J.call' (s':={ O with heap:=M }) os un a2 U (λb z=>absurd z (by simp))
   let J2:aP (X.suite (.ref i)) (X.pn++pins) d (aS j i (rB i C)) { O with heap:=M }:=J1.re (I.ok.suite _) rfl rfl rfl rfl rfl rfl rfl rfl λp z=>by
    rcases j1.mp z with z|z
    ·exact A4 _ (A4 _ z)
    ·exact A4 _ z
   exact J2.weak (by rw [(hw σ I.len).1,J2.len]) le
  let I5:=a1 h5 F5;let aa:=T.trans S;refine wpAny_handleBy_cons (codeAny_handlers_test (env:=X.env) (lN (X:=X.suite (.ref i)) I5 hg hm ?_ hd)) (by intro z;cases z);let Lm:PySem.W.Looks (model X.prog X.w) h5 (excMatches (.ref i) cv) true:=by
   refine PySem.W.exm_one I5.kIn ?_ a9;let (o,z,c):=G.there;exact kM.ty {(o),z,c}
  refine Lm.at ?_;refine codeAny_handlers_suite ?_;refine Hd.again2 G Z λh6 a5 a3 a6=>?_;let I6:=a1 h6 (F5.later a5 a6 a3);refine v7 (hs (.ref i) _ _ _ D I6 (a7 i F.freeE)) (λf s8 q=>?_) λ_ _ z=>z.elim;let bk:∀{l:St} {m:Hp} {s9:Shared},aP (X.suite (.ref i)) (X.pn++pins) l m s9->aP X pins l m s9:=λJ=>J.re I.ok rfl rfl rfl rfl rfl rfl rfl rfl λp z=>by
   rcases j1.mp z with z|z
   ·exact A4 _ z
   ·exact i9 _ (i9 _ z)
  cases f with
  | next=>let (l,m,y,q):=q;exact {l,m,bk y,q}
  | brk=>let (l,m,y,q):=q;exact {l,m,bk y,q}
  | cont=>let (l,m,y,q):=q;exact {l,m,bk y,q}
  | ret u=>let (v,l,m,y,r,q):=q;exact {v,l,m,bk y,r,q}
end
end L2
namespace Ls
open PySem L2 PySem.W
inductive Va (N:Cn) (vs:List V) (H:Hp) (Q:VK) (E0_:XK):Prop|mk (M:Pm) (A:Ad) (s:S8) (p q dc dq:Addr) (c:Co) (r:Rn) (tk i:Int) (ns:List Int) (ys:List V) (_:vs=[.ref p,.ref q,.int i]) (_:H p=some (.ins N.CC dc (cf c))) (_:c.bk=A.b) (_:H q=some (.ins N.CR dq (rf r))) (_:r.tk=.int tk) (_:H c.ln=some (.lst ys)) (_:ys.length<=4000) (_:Go N M H A s) (_:s.mo<=i) (_:0<=tk) (_:tk<s.nt) (_:H r.un=some (.tup (ns.map V.int))) (_:ns.length<=M.ev) (_:M.ev<=4) (_:∀e ∈ s.cs,e.has tk=true->e.m=r.ma)
 (_:(∀e ∈ s.cs,e.has tk=false)->∀(u':Addr) (H':Hp),(∀a o,H a=some o->Ki o=true->a≠q->H' a=some o)->Go N M H' A s->H' q=some (.ins N.CR dq (rf { r with tk:=.non,un:=u' }))->H' u'=some (.tup [])->Q .non H')
 (_:∀(m h:Int) (u:V) (s':S8) (a u':Addr) (H':Hp),Sc M s (.tell tk r.ma i ns) (.told m h u) s'->Go N M H' A s'->Kr p q c.ln H H'->H' p=some (.ins N.CC dc (cf { c with l:=c.l-(m-r.ma) }))->H' q=some (.ins N.CR dq (rf { r with tk:=if u=.non then .non else .int tk,ma:=m,en:=h,un:=u' }))->H' c.ln=some (.lst (ys++[.ref a]))->H' u'=some (.tup [])->Q .non H')
def Yi (N:Cn):Sp:=Va N
section
variable {P:Program} {w:World} {K:Frag} {mg:Str->Option Value} {base:Heap} {N:Cn} {c:Nat->Addr}
def Ip:aK ["self","runner","tick"] ["self","runner","tick"] (aG yU):={rfl,rfl,rfl,⋯,rfl,⋯,⋯}
def Sm (W:Wd P w K mg base N c):eG P w K mg base cY N.CC "tell_kept" 7 (Yi N):=W.d70.of λF=>by
 refine F.ok Ip (λvs H Q E h=>?_) (λa1 A S s H vs Q E hr h=>?_)
 ·let (M,A,s,p,q,dc,t,c,r,tk,i,ns,ys,rfl,_):=h
  rfl
 ·intro X D
  let (M,Ab,s8,p,q,dc,t,co,r,tk,i,ns,ys,rfl,y,Y,j,T,hl,ly,g,hi,t0,t1,hn,le,e4,hm,kL,kD):=h
  have nd:=Ip.nd
  have l:∀(U:Rn) (G:Hp),G q=some (.ins N.CR t (rf U))->(∀(f:Addr) (d:Hp),(∀a o,G a=some o->a≠q->d a=some o)->d q=some (.ins N.CR t (rf { U with un:=f }))->d f=some (.tup [])->Q .non d)->Wp X ((bH yU).drop 1) D [some (.ref p),some (.ref q),some (.int i)] G:=λU G j k=>by
   refine {_,aH (cA (pv 1) (cD aF) rfl),i8 _,λf v=>?_}
   have B:q≠f:=λz=>by rw [<- z,j] at v;cases v
   refine {_,rfl,q,N.CR,t,_,rfl,by rw [aC B];exact j,W.R.cl,W.R.nU,(by show 9<1000;decide),k f _ (λa o e n=>?_) aB ?_}
   ·rw [aC n,aC (aD e v)]
    exact e
   ·rw [aC B.symm,aB]
  refine {_,aE (Kf (wk:=id) (λσ h=>{h,Le.refl σ}) rfl {(rfl),rfl} (by rfl) W.W.m3
   (λpn xe E σw y=>aH (cF (zC (pv 0) W.Q.cl (Ws W) hr y (aA (pv 1) (aA (show PE _ _ (Pz K (iN 1) "untold") from bA (pv 1) rfl) (aA (pv 2) aF))))))
   (λe=>aH (show PS _ _ (ET K (iN 1) (tC .non) "token") from cA (pv 1) iV rfl))) aU,?_}
  refine {Le.refl _,_,rfl,p,dc,_,rfl,y,rfl,_,rfl,_,rfl,q,N.CR,t,_,_,rfl,j,W.R.cl,W.R.nU,rfl,_,rfl,?_}
  refine {M,Ab,s8,p,q,dc,t,r.un,co,r,tk,i,ns,ys,rfl,y,Y,j,T,hl,ly,g,hi,t0,t1,hn,le,e4,hm,λno H' Z=>{c 3,rfl,W.E,λea O=>?_},λm h u Z a H' sc g' kr L b I=>?_}
  ·have s2:=Z.trans (aJ (o:=rB ea (c 3)) O)
   refine {_,rfl,q,N.CR,t,_,rfl,s2 _ _ j,W.R.cl,W.R.nT,(by show 9<1000;decide),?_}
   refine l { r with tk:=.non } _ aB λf d x b v=>?_
   have C:∀a o,H a=some o->a≠q->d a=some o:=λa o e n=>x a o (by rw [aC n];exact s2 _ _ e) n
   exact kL no f d (λa o e _ n=>C a o e n) (g.kb λa o e z=>C a o e (fZ e z j Fs)) b v
  ·refine l _ H' b λf d x J v=>?_
   have a0:p≠q:=λz=>by
    rw [z,j] at y
    have:=Option.some.inj y
    injection this with _ _ e
    exact absurd e (by intro z;cases z)
   exact kD m h u Z a f d sc (g'.kb λa o e z=>x a o e (fZ e z b Fs)) (λa o e z n1 n2 n3=>x a o (kr a o e z n1 n2 n3) n2) (x _ _ L a0) J (x _ _ I (aI I b (by intro z;cases z))) v
def Sc.tellN {M:Pm} {s s':S8} {tk pl i m h:Int} {u:V} {ns:List Int} (k:Sc M s (.tell tk pl i ns) (.told m h u) s') (c:∃c ∈ s.cs,c.has tk=true/\c.m=pl) (d:∀a ∈ s.cs,∀b ∈ s.cs,a.has tk=true->b.has tk=true->a=b):(s'.ns.length:Int)=s.ns.length+(m-pl)/\s'.nt=s.nt/\s'.mo=i:=by
 let (e,f,g,j):=c;cases k with
 | @tell _ _ _ _ fr kk c hi hc hh a1 a2 a3 a4 a5=>
  have:=d e f c (g6 hc) g hh;subst this;refine {?_,rfl,rfl};show ((s.ns++fQ e.m fr.length).length:Int)=_;rw [i6,fQ,f8,x6];omega
def Sc.lentN {M:Pm} {s s':S8} {x:Str} {tk n i m h u:Int} (k:Sc M s (.lend x i) (.lent tk n m h u) s'):s'.ns=s.ns/\s'.nt=s.nt+1/\s'.mo=i/\tk=s.nt:=by
 cases k with
 | lendP _ _ _=>exact {(rfl),rfl,rfl,rfl}
 | lendC _ _ _ _ _ _ _=>exact {(rfl),rfl,rfl,rfl}
def Iv.oneM {ws:Lm.Ps} {sp:Int} {s:S8} {tk:Int} (e:Iv ws sp s):∀a ∈ s.cs,∀b ∈ s.cs,a.has tk=true->b.has tk=true->a=b:=λa f b g x y=>by
 let (i,d):=j9.mp f
 let (j,c):=j9.mp g
 have:=e.oneTk d c x y
 subst this
 rw [d] at c
 exact Option.some.inj c
def Ol (s:S8) (t:Int × Str × Int):Prop:=∃c ∈ s.cs,c.o=some t
section
variable {M:Pm} {s s':S8} {i tk pl:Int} {x:Str} {o:To} {ns:List Int} {t:Int × Str × Int}
def Sc.lendB (h:Sc M s (.lend x i) o s') (c:t.1<s.nt) (k:Ol s' t):Ol s t:=by
 let (e,b,a):=k;cases h with
 | lendN _ _=>exact {(e),b,a}
 | lendP _ _ _=>
  rcases o8 b with m|rfl
  ·exact {(e),m,a}
  ·cases a;exact absurd c (Q4 _)
 | lendC _ _ _ hc _ _ _=>
  rcases j1.mp b with m|m
  ·rcases o8 m with m|rfl
   ·exact {(e),m,a}
   ·exact {_,g6 hc,a}
  ·rw [l9.mp m] at a;cases a;exact absurd c (Q4 _)
def Sc.lendF (h:Sc M s (.lend x i) o s') (g:i<=t.2.2) (k:Ol s t):Ol s' t:=by
 let (e,f,a):=k;let (j,d):=j9.mp f;cases h with
 | lendN _ _=>exact {(e),f,a}
 | @lendP _ _ k c hi hc ch=>
  refine {e,g6 (mH d λz=>?_),a};subst z;rw [hc] at d;cases d;rcases ch with b|⟨_,b⟩
  ·have:=b.2.1;unfold Pc.free at this;rw [a] at this;cases this
  ·have:=b.2.1;unfold Pc.late at this;rw [a] at this;have:t.2.2<i:=of_decide_eq_true this;omega
 | @lendC _ _ pl k c hi nf nl hc be h2 hpl=>
  by_cases z:j=k
  ·subst z;rw [hc] at d;cases d;exact {_,g6 (uS (iQ hc)),a}
  ·exact {e,g6 (uS (mH d z)),a}
def Sc.tellB (h:Sc M s (.tell tk pl i ns) o s') (g:t.1≠tk) (k:Ol s' t):Ol s t:=by
 let (e,b,a):=k;cases h with
 | @tell _ _ _ _ fr k c hi hc hh a1 a2 a3 a4 a5=>
  rcases o8 b with m|rfl
  ·exact {(e),m,a}
  ·let (u,d,f):=dR hh;unfold Pc.told at a;rw [d] at a;split at a
   ·cases a
   ·cases a;exact absurd f g
def Sc.tellF (h:Sc M s (.tell tk pl i ns) o s') (d:t.1≠tk) (k:Ol s t):Ol s' t:=by
 let (e,f,b):=k;let (j,a):=j9.mp f;cases h with
 | @tell _ _ _ _ fr k c hi hc hh a1 a2 a3 a4 a5=>
  refine {e,g6 (mH a λz=>?_),b};subst z;rw [hc] at a;cases a;exact d (zW hh b)
def Sc.tellU2 (f:Iv M.ws M.sp s) (h:Sc M s (.tell tk pl i ns) o s') (l:t.1=tk) (k:Ol s' t):t.2.2=i+M.sp:=by
 let (e,d,b):=k;let (j,a):=j9.mp d;cases h with
 | @tell _ _ _ _ fr k c hi hc hh a1 a2 a3 a4 a5=>
  by_cases z:j=k
  ·subst z;let a:(s.cs.set j (c.told fr.length (i+M.sp)))[j]?=some e:=a;rw [iQ hc] at a;cases a;let (u,g,m):=dR hh;unfold Pc.told at b;rw [g] at b;split at b
   ·cases b
   ·cases b;rfl
  ·let a:(s.cs.set k (c.told fr.length (i+M.sp)))[j]?=some e:=a;rw [w5 (A8 z)] at a;exact absurd (f.oneTk a hc (by rw [<- l];exact lO b) hh) z
def Sc.tellD {m h:Int} {u:V} (f:Iv M.ws M.sp s) (h:Sc M s (.tell tk pl i ns) (.told m h u) s') (g:t.1=tk) (k:Ol s' t):u≠.non:=by
 let (e,d,b):=k;let (j,a):=j9.mp d;cases h with
 | @tell _ _ _ _ fr k c hi hc hh a1 a2 a3 a4 a5=>
  by_cases z:j=k
  ·subst z;let a:(s.cs.set j (c.told fr.length (i+M.sp)))[j]?=some e:=a;rw [iQ hc] at a;cases a;unfold Pc.told at b;split at b
   ·cases b
   ·next q=>rw [if_neg q];intro y;cases y
  ·let a:(s.cs.set k (c.told fr.length (i+M.sp)))[j]?=some e:=a;rw [w5 (A8 z)] at a;exact absurd (f.oneTk a hc (by rw [<- g];exact lO b) hh) z
def Sc.lendT (g:Iv M.ws M.sp s) (h:Sc M s (.lend x i) o s') (n:∀e ∈ s.cs,e.free=false) (p:∃e ∈ s.cs,e.late i=true):∃t,Ol s t/\t.2.2<i/\∀u,Ol s' u->u.1≠t.1:=by
 let (m,d,f):=p;cases h with
 | lendN _ z=>
  have:=z.2.1 m d;rw [f] at this;cases this
 | @lendP _ _ k c hi hc ch=>
  rcases ch with b|⟨_,b⟩
  ·have:=n c b.1;rw [b.2.1] at this;cases this
  ·let l:=b.2.1;unfold Pc.late at l;cases eo:c.o with
   | none=>rw [eo] at l;cases l
   | some t=>
    rw [eo] at l;refine {t,{(c),b.1,eo},of_decide_eq_true l,λu ⟨e,he,eu⟩ z=>?_};let q:=g.op c b.1 t eo;let (j,a):=j9.mp he;by_cases y:j=k
    ·subst y;let a:(s.cs.set j { c with o:=some (s.nt,x,i+M.sp) })[j]?=some e:=a;rw [iQ hc] at a;cases a;cases eu;let z:s.nt=t.1:=z;omega
    ·let a:(s.cs.set k { c with o:=some (s.nt,x,i+M.sp) })[j]?=some e:=a;rw [w5 (A8 y)] at a;exact y (g.oneTk a hc (by rw [<- z];exact lO eu) (lO eo))
 | lendC _ _ nl _ _ _ _=>
  have:=nl m d;rw [f] at this;cases this
def Sc.lendNew (h:Sc M s (.lend x i) o s') (k:Ol s' t) (n:t.1=s.nt) (c:Iv M.ws M.sp s):t.2.2=i+M.sp\/Ol s t:=by
 let (e,b,a):=k;cases h with
 | lendN _ _=>exact .inr {(e),b,a}
 | lendP _ _ _=>
  rcases o8 b with m|rfl
  ·exact .inr {(e),m,a}
  ·cases a;exact .inl rfl
 | lendC _ _ _ hc _ _ _=>
  rcases j1.mp b with m|m
  ·rcases o8 m with m|rfl
   ·exact .inr {(e),m,a}
   ·exact .inr {_,g6 hc,a}
  ·rw [l9.mp m] at a;cases a;exact .inl rfl
def Sc.tellR {n:Nat} (f:Iv M.ws M.sp s) (h:Sc M s (.tell tk pl i (gM pl n)) o s') (d:∀e ∈ s.cs,e.has tk=true->e.m=pl) (j:∀y ∈ s.ns,s.vf y=iI y):∀y ∈ s'.ns,s'.vf y=iI y:=by
 cases h with
 | @tell _ _ _ _ fr k c hi hc hh a1 a2 a3 a4 a5=>
  let a:=g6 hc;let g:=d c a hh;subst g;let p:=f.lm c a;let b:fr=(gM c.m n).take (c.h-c.m).toNat:=by
   rw [a5,uL ∎ ∎,show (c.m-c.m).toNat=0 by omega,E7,show c.h-c.m-(c.m-c.m)=c.h-c.m by omega]
  let l:fr.length<=n/\(fr.length:Int)<=c.h-c.m:=by
   rw [b,l7,fB];omega
  intro y hy;show AY s.vf c.m fr y=iI y;unfold AY;by_cases z:c.m<=y/\y<c.m+(fr.length:Int)
  ·rw [if_pos z];let q:(y-c.m).toNat<fr.length:=∎;rw [A3,b,Q0,if_pos ∎];unfold gM;rw [i7,List.getElem?_range ∎];show iI (c.m+((y-c.m).toNat:Int))=iI y;rw [show c.m+((y-c.m).toNat:Int)=y by omega]
  ·rw [if_neg z];rcases j1.mp (show y ∈ s.ns++fQ c.m fr.length from hy) with hy|hy
   ·exact j y hy
   ·exact absurd (dP.mp hy) z
end
structure xY where
 H:Hp
 co:Co
 A:Ad
 s:S8
 r:Rn
 un:List Int
 ys:List V
 zs:List V
 L:List Int
 O:List Int
structure Cf where
 M:Pm
 fD:Addr
 la:Addr
 fx:Fx
 T:Int
 p:Addr
 dc:Addr
 q:Addr
 dq:Addr
structure Tt (ws:Lm.Ps) (T:Int):Prop where
 up:∀l:List Int,l.Nodup->(∀x ∈ l,Lm.mem ws x)->(l.length:Int)<=T
 lo:∀l:List Int,(∀x,Lm.mem ws x->x ∈ l)->T<=l.length
structure Oi (s:S8) (i:Int) (O:List Int) (ov:Int) (L:List Int):Prop where
 nd:O.Nodup
 ln:(O.length:Int)=ov
 mem:∀t ∈ O,t<s.nt/\t ∈ L/\∀u,Ol s u->u.1≠t
 lt:∀u,Ol s u->i<=u.2.2\/u.1 ∈ L
theorem Oi.lend {M:Pm} {s s':S8} {i ov r:Int} {O L:List Int} {x:Str} {tk n m h u:Int} (k:Oi s i O ov L) (B:Iv M.ws M.sp s) (sp:1<=M.sp) (p:Sc M s (.lend x i) (.lent tk n m h u) s') (t:GQ s i ov r):∃E,Oi s' i E r L:=by
 let (_,J,_,_):=p.lentN;let C:∀u,Ol s' u->i<=u.2.2\/u.1 ∈ L:=λu w=>by
  by_cases z:u.1<s.nt
  ·exact k.lt u (p.lendB z w)
  by_cases y:u.1=s.nt
  ·rcases p.lendNew w y B with e|e
   ·exact .inl ∎
   ·exact k.lt u e
  ·let (c,f,d):=w;exfalso;let j:∀c ∈ s.cs,c.o=some u->False:=λc f d=>z (B.op c f u d).2.1;cases p with
   | lendP _ _ _=>
    rcases o8 f with q|rfl
    ·exact j c q d
    ·cases d;exact y rfl
   | lendC _ _ _ hk _ _ _=>
    rcases j1.mp f with q|q
    ·rcases o8 q with q|rfl
     ·exact j c q d
     ·exact j _ (g6 hk) d
    ·rw [l9.mp q] at d;cases d;exact y rfl
 let g:∀t ∈ O,t<s'.nt/\t ∈ L/\∀u,Ol s' u->u.1≠t:=λt G=>by
  let (a,b,c):=k.mem t G;exact { ∎,b,λu w e=>c u (p.lendB ∎ w) e}
 rcases t with rfl|⟨rfl,D,H⟩
 ·exact {(O),k.nd,k.ln,g,C}
 ·let (t,(c,f,d),l,A):=p.lendT B D H;let I:=B.op c f t d;refine {t.1::O,x9.mpr {λz=>(k.mem _ z).2.2 t {(c),f,d} rfl,k.nd},by rw [j4,<- k.ln];rfl,λv hv=>?_,C};rcases g7.mp hv with rfl|hv
  ·exact { ∎,(k.lt t {(c),f,d}).resolve_left ∎,A}
  ·exact g v hv
theorem Oi.tell {M:Pm} {s s':S8} {i ov tk pl m h:Int} {O L ns:List Int} {u:V} (k:Oi s i O ov L) (n:Iv M.ws M.sp s) (sp:1<=M.sp) (d:Sc M s (.tell tk pl i ns) (.told m h u) s'):Oi s' i O ov L:=by
 obtain⟨p,l,j⟩:∃c ∈ s.cs,c.has tk=true:=by
  cases d with
  | tell _ hc hh _ _ _ _ _=>exact {_,g6 hc,hh}
 let (w,r,g):=dR j;let A:s'.nt=s.nt:=by cases d;rfl
 refine {k.nd,k.ln,λt o=>?_,λv f=>?_}
 ·let (a,b,c):=k.mem t o;let q:t≠tk:=λz=>c w {(p),l,r} (by rw [z,g]);exact { ∎,b,λv f e=>c v (d.tellB (λz=>q (e.symm.trans z)) f) e}
 ·by_cases z:v.1=tk
  ·have:=d.tellU2 n z f;exact .inl ∎
  ·exact k.lt v (d.tellB z f)
structure Cs (N:Cn) (F:Cf) (i:Int) (x:xY):Prop where
 hp:x.H F.p=some (.ins N.CC F.dc (cf x.co))
 bk:x.co.bk=x.A.b
 dv:x.co.dv=.ref F.fD
 hq:x.H F.q=some (.ins N.CR F.dq (rf x.r))
 hu:x.H x.r.un=some (.tup (x.un.map V.int))
 hl:x.H x.co.ln=some (.lst x.ys)
 hz:x.H F.la=some (.lst x.zs)
 nla:x.co.ln≠F.la
 fx:xW F.fx x.H
 zl:(x.zs.length:Int)=x.co.dn
 go:Go N F.M x.H x.A x.s
 mo:x.s.mo<=i
 tot:x.co.l+x.s.ns.length=F.T
 tt:Tt F.M.ws F.T
 e4:F.M.ev<=4
 le:F.M.ev<=F.M.le
 s1:1<=F.M.sp
 pc:1<=x.r.pc
 wx:eN x.r.x
 sx:PyData.strOk x.r.x=true
 rv:∀y ∈ x.s.ns,x.s.vf y=iI y
 ur:∃n,x.un=gM x.r.ma n
 oi:Oi x.s i x.O x.co.ov x.L
def Kl (F:Cf) (l:Addr) (H H':Hp):Prop:=∀a o,H a=some o->Ki o=true->a≠F.p->a≠F.q->a≠l->a≠F.la->H' a=some o
structure Gs (N:Cn) (F:Cf) (i k:Int) (x y:xY):Prop where
 cs:Cs N F i y
 kr:Kl F x.co.ln x.H y.H
 ln:y.co.ln=x.co.ln
 ad:∃ps,y.A={ x.A with ps:=ps }
 st:y.r={ x.r with tk:=y.r.tk,ma:=y.r.ma,en:=y.r.en,un:=y.r.un }
 yl:(y.ys.length:Int)+2 * y.co.l<=x.ys.length+2 * x.co.l+k
 dl:y.co.dn+y.co.l<=x.co.dn+x.co.l
 de:x.un=[]->y.un=[]/\y.co.dn+y.co.l=x.co.dn+x.co.l
 ll:y.co.l<=x.co.l
 L:y.L=x.L
 na:y.co.na=x.co.na\/y.co.na=i
 kp:∀{j:Int} {un0:List Int} {r0:Rn} {tk0:Int},i<=j->Rk F.M x.s j un0 r0 tk0->x.r.tk≠.int tk0->Rk F.M y.s j un0 r0 tk0
 bw:∀t,t.1<x.s.nt->x.r.tk≠.int t.1->Ol y.s t->Ol x.s t
 fw:∀t,t.1<x.s.nt->x.r.tk≠.int t.1->i<=t.2.2->Ol x.s t->Ol y.s t
 ow:∀t,Ol y.s t->x.r.tk=.int t.1\/x.s.nt<=t.1->y.r.tk=.int t.1
 tk:∀t,y.r.tk=.int t->x.r.tk=.int t\/x.s.nt<=t
 nt:x.s.nt<=y.s.nt
section
variable {F:Cf} {i k k':Int} {x y z:xY}
def Cs.l0 (c:Cs N F i x):0<=x.co.l:=by
 have:=c.tt.up x.s.ns c.go.iv.hd.nd λv d=>by
  let (e,a,b,f):=(c.go.iv.nx v).mp d;have:=c.go.iv.lm e a;exact(c.go.iv.cv v).mpr {e,a,b,∎}
 have:=c.tot;omega
theorem Gs.trans (a:Gs N F i k x y) (b:Gs N F i k' y z):Gs N F i (k+k') x z:=by
 let (O,I):=a.ad;let (H,J):=b.ad;let m:=a.yl;have g:=b.yl;have u:=a.dl;have d:=b.dl;have Q:=a.ll;have P:=b.ll;let p:∀{t:Int},t<x.s.nt->x.r.tk≠.int t->y.r.tk≠.int t:=λl n e=>by
  rcases a.tk _ e with q|q
  ·exact n q
  ·omega
 refine {b.cs,λc o e A m g u d=>b.kr c o (a.kr c o e A m g u d) A m g (by rw [a.ln];exact u) d,b.ln.trans a.ln,{H,by rw [J,I]},by rw [b.st,a.st],∎,∎,λe=>?_,∎,b.L.trans a.L,?_,λ{j M S C} B h w=>b.kp B (a.kp B h w) (p h.lt.2 w),λt l n h=>a.bw t l n (b.bw t (P9 l a.nt) (p l n) h),λt l n v h=>b.fw t (P9 l a.nt) (p l n) v (a.fw t l n v h),λt f h=>?_,λt e=>?_,v5 a.nt b.nt}
 ·let (D,K):=a.de e;let (E,G):=b.de D;exact {E,G.trans K}
 ·rcases b.na with e|e
  ·rw [e];exact a.na
  ·exact .inr e
 ·by_cases e:y.r.tk=.int t.1
  ·exact b.ow t f (.inl e)
  by_cases q:y.s.nt<=t.1
  ·exact b.ow t f (.inr q)
  ·exact absurd (a.ow t (b.bw t ∎ e f) h) e
 ·rcases b.tk t e with q|q
  ·exact a.tk t q
  ·exact .inr (v5 a.nt q)
def Cs.ow (c:Cs N F i x):∀t,Ol x.s t->x.r.tk=.int t.1\/x.s.nt<=t.1->x.r.tk=.int t.1:=λt ⟨e,he,eo⟩ h=>h.resolve_right λz=>by
 have:=(c.go.iv.op e he t eo).2.1
 omega
def Gs.nil (h:Cs N F i x):Gs N F i 0 x x:={h,λ_ _ e _ _ _ _ _=>e,rfl,{_,rfl},rfl,∎,g9 _,λe=>{(e),rfl},g9 _,rfl,.inl rfl,λ_ h _=>h,λ_ _ _ h=>h,λ_ _ _ _ h=>h,h.ow,λ_ e=>.inl e,g9 _}
def Gs.up (h:Gs N F i k x y) (e:k<=k'):Gs N F i k' x y:=by
 have:=h.yl;exact { h with yl:=∎ }
def Cs.nt (c:Cs N F i x) {a:Addr} {o:HO} (e:x.H a=some o) (h:(∃b,o=.tup b)\/∃ φ,o=.ext φ):a≠F.p/\a≠F.q/\a≠x.co.ln/\a≠F.la:=by
 rcases h with ⟨_,rfl⟩|⟨_,rfl⟩ <;> exact {aI e c.hp (by intro z;cases z),aI e c.hq (by intro z;cases z),aI e c.hl (by intro z;cases z),aI e c.hz (by intro z;cases z)}
theorem Cs.tup (c:Cs N F i x) {H':Hp} (k:Kl F x.co.ln x.H H') {a:Addr} {xs:List V} (e:x.H a=some (.tup xs)):H' a=some (.tup xs):=by
 let (d,b,g,f):=c.nt e (.inl {_,rfl});exact k a _ e rfl d b g f
def Cs.fxk (c:Cs N F i x) {H':Hp} (k:Kl F x.co.ln x.H H'):xW F.fx H':=λp a=>by
 let (d,e,f,b):=c.nt (c.fx p a) (.inr {_,rfl})
 exact k _ _ (c.fx p a) rfl d e f b
def Cs.npq (c:Cs N F i x):F.p≠F.q:=λz=>by
 have a:=c.hq
 rw [<- z,c.hp] at a
 have:=Option.some.inj a
 injection this with _ _ e
 exact absurd e (by intro z;cases z)
theorem Cs.told {tk m h d:Int} {u:V} {n:Nat} {s':S8} {a u':Addr} {H':Hp} {zs':List V} (c:Cs N F i x) (f:x.r.tk=.int tk) (rk:Rk F.M x.s i x.un x.r tk) (I:x.r.sl=false) (n0:1<=n) (Z:(n:Int)<=F.M.ev) (n2:x.r.ma+n<=x.r.en) (v:d=0/\x.un≠[]\/d=n) (lz:(zs'.length:Int)=x.zs.length+d)
  (b:Sc F.M x.s (.tell tk x.r.ma i (gM x.r.ma n)) (.told m h u) s') (g':Go N F.M H' x.A s') (B:Kl F x.co.ln x.H H') (Y:H' F.p=some (.ins N.CC F.dc (cf { x.co with dn:=x.co.dn+d,l:=x.co.l-(m-x.r.ma) }))) (S:H' F.q=some (.ins N.CR F.dq (rf { x.r with tk:=if u=.non then .non else .int tk,ma:=m,en:=h,un:=u' })))
  (U:H' x.co.ln=some (.lst (x.ys++[.ref a]))) (C:H' F.la=some (.lst zs')) (G:H' u'=some (.tup [])):∃y:xY,y.H=H'/\y.un=[]/\Gs N F i (-1) x y/\Pe F.M y.s (i+1) [] y.r/\y.co.l<x.co.l/\y.co.na=x.co.na:=by
 let W:=c.s1;let ln:=fB x.r.ma n;let (em,K,E):=rk.own2 (j':=i+1) c.go.iv c.go.e1 ∎ ∎ ∎ I b;let (d1,d2,d3):=b.tellN K c.go.iv.oneM;let Q:=c.tot;let zl:=c.zl;let J:d<=n:=by rcases v with ⟨z,_⟩|z <;> omega
 let o:∀{t:Int},x.r.tk≠.int t->t≠tk:=λh z=>h (by rw [f,z]);refine {{H',{ x.co with dn:=x.co.dn+d,l:=x.co.l-(m-x.r.ma) },x.A,s',{ x.r with tk:=if u=.non then .non else .int tk,ma:=m,en:=h,un:=u' },[],x.ys++[.ref a],zs',x.L,x.O},rfl,rfl,{{Y,c.bk,c.dv,S,G,U,C,c.nla,c.fxk B,by show (zs'.length:Int)=x.co.dn+d;omega,g',by show s'.mo<=i;omega,by show x.co.l-(m-x.r.ma)+(s'.ns.length:Int)=F.T;omega,c.tt,c.e4,c.le,c.s1,c.pc,c.wx,c.sx,b.tellR c.go.iv (λe g z=>(rk.mm e g z).1) c.rv,{0,rfl},c.oi.tell c.go.iv W b},B,rfl,{_,rfl},rfl,?_,?_,λe=>{rfl,?_},?_,rfl,.inl rfl,λ{j X r0 D} hj h n=>h.tell (o n).symm b,λt _ n h=>b.tellB (o n) h,λt _ n _ h=>b.tellF (o n) h,λt w h=>?_,λt e=>?_,by show x.s.nt<=s'.nt;omega},?_,?_,rfl}
 ·show ((x.ys++[V.ref a]).length:Int)+2 * (x.co.l-(m-x.r.ma))<=_;rw [i6,B0];omega
 ·show x.co.dn+d+(x.co.l-(m-x.r.ma))<=_;omega
 ·show x.co.dn+d+(x.co.l-(m-x.r.ma))=_;rcases v with ⟨_,z⟩|z
  ·exact absurd e z
  ·omega
 ·show x.co.l-(m-x.r.ma)<=_;omega
 ·let e:t.1=tk:=by
   rcases h with z|z
   ·rw [f] at z;cases z;rfl
   ·let (e,g,P):=w;have:=(g'.iv.op e g t P).2.1;omega
  show (if u=.non then V.non else .int tk)=.int t.1;rw [if_neg (b.tellD c.go.iv e w),e]
 ·left;rw [f];let e:(if u=.non then V.non else .int tk)=.int t:=e;split at e
  ·cases e
  ·exact e
 ·rcases E with z|z
  ·exact .inl {if_pos z,rfl}
  ·by_cases y:u=.non
   ·exact .inl {if_pos y,rfl}
   ·exact .inr {tk,if_neg y,z.lt,z.mm,z.me,z.bd,z.uu,z.ac,z.sl}
 ·show x.co.l-(m-x.r.ma)<x.co.l;omega
theorem Cs.lent {tk n m h u ov:Int} {s':S8} {d:List Addr} {a:Addr} {H':Hp} (c:Cs N F i x) (O:x.r.tk=.non) (B:x.r.sl=false) (K:x.un=[]) (b:Sc F.M x.s (.lend x.r.x i) (.lent tk n m h u) s') (f:GQ x.s i x.co.ov ov) (g':Go N F.M H' { x.A with ps:=d } s') (o:Kl F x.co.ln x.H H') (hp:H' F.p=some (.ins N.CC F.dc (cf { x.co with ov:=ov }))) (U:H' F.q=some (.ins N.CR F.dq (rf { x.r with tk:=.int tk,ma:=m,en:=h })))
  (W:H' x.co.ln=some (.lst (x.ys++[.ref a]))) (D:H' F.la=some (.lst x.zs)):∃y:xY,y.H=H'/\y.un=[]/\y.r.tk=.int tk/\y.r.sl=false/\Gs N F i 1 x y/\Rk F.M y.s (i+1) [] y.r tk:=by
 let X:=c.s1;let S:=Rk.own (j:=i+1) c.go.iv c.go.wg c.go.l1 c.le c.go.e1 ∎ B b;let (w,d2,d3,d4):=b.lentN;let g:=c.tot;let (Y,I):=c.oi.lend c.go.iv X b f;let v:s'.vf=x.s.vf:=by cases b <;> rfl
 refine {{H',{ x.co with ov:=ov },{ x.A with ps:=d },s',{ x.r with tk:=.int tk,ma:=m,en:=h },[],x.ys++[.ref a],x.zs,x.L,Y},rfl,rfl,rfl,B,{{hp,c.bk,c.dv,U,?_,W,D,c.nla,c.fxk o,c.zl,g',by show s'.mo<=i;omega,by show x.co.l+(s'.ns.length:Int)=F.T;rw [w];exact g,c.tt,c.e4,c.le,c.s1,c.pc,c.wx,c.sx,λy E=>by show s'.vf y=_;rw [v];exact c.rv y (by rw [<- w];exact E),{0,rfl},I},o,rfl,{_,rfl},rfl,?_,g9 _,λ_=>{(rfl),rfl},g9 _,rfl,.inl rfl,λ{j a0 r0 G} Z h ne=>h.lend Z c.go.l1 c.le b,λt l _ h=>b.lendB l h,λt _ _ C h=>b.lendF C h,λt P h=>?_,λt e=>?_,by show x.s.nt<=s'.nt;omega},S}
 ·have:=c.tup o c.hu;rwa [K] at this
 ·show ((x.ys++[V.ref a]).length:Int)+2 * x.co.l<=_;rw [i6,B0];omega
 ·rcases h with z|z
  ·rw [O] at z;cases z
  ·let (e,J,Q):=P;have:=(g'.iv.op e J t Q).2.1;show V.int tk=.int t.1;rw [show t.1=tk by omega]
 ·cases e;exact .inr ∎
def Cs.naf {H':Hp} (c:Cs N F i x) (fr:∀a o,x.H a=some o->Ki o=true->a≠F.p->H' a=some o) (g:Go N F.M H' x.A x.s) (d:H' F.p=some (.ins N.CC F.dc (cf { x.co with na:=i }))):Gs N F i 0 x { x with H:=H',co:={ x.co with na:=i } }:=by
 let b:Kl F x.co.ln x.H H':=λa o e z n _ _ _=>fr a o e z n;exact {{d,c.bk,c.dv,fr _ _ c.hq Fn c.npq.symm,c.tup b c.hu,fr _ _ c.hl rfl (aI c.hl c.hp (by intro z;cases z)),fr _ _ c.hz rfl (aI c.hz c.hp (by intro z;cases z)),c.nla,c.fxk b,c.zl,g,c.mo,c.tot,c.tt,c.e4,c.le,c.s1,c.pc,c.wx,c.sx,c.rv,c.ur,c.oi},b,rfl,{_,rfl},rfl,by show (x.ys.length:Int)+2 * x.co.l<=_;omega,g9 _,λe=>{(e),rfl},g9 _,rfl,.inr rfl,λ_ h _=>h,λ_ _ _ h=>h,λ_ _ _ _ h=>h,c.ow,λ_ e=>.inl e,g9 _}
def Cs.lost {H':Hp} {u':Addr} {tk:Int} (c:Cs N F i x) (v:x.r.tk=.int tk) (p:∀e ∈ x.s.cs,e.has tk=false) (fr:∀a o,x.H a=some o->Ki o=true->a≠F.q->H' a=some o) (g:Go N F.M H' x.A x.s) (m:H' F.q=some (.ins N.CR F.dq (rf { x.r with tk:=.non,un:=u' }))) (u:H' u'=some (.tup [])):Gs N F i 0 x { x with H:=H',r:={ x.r with tk:=.non,un:=u' },un:=[] }:=by
 let b:Kl F x.co.ln x.H H':=λa o e z _ n _ _=>fr a o e z n;refine {{fr _ _ c.hp Mo c.npq,c.bk,c.dv,m,u,fr _ _ c.hl rfl (aI c.hl c.hq (by intro z;cases z)),fr _ _ c.hz rfl (aI c.hz c.hq (by intro z;cases z)),c.nla,c.fxk b,c.zl,g,c.mo,c.tot,c.tt,c.e4,c.le,c.s1,c.pc,c.wx,c.sx,c.rv,{0,rfl},c.oi},b,rfl,{_,rfl},rfl,by show (x.ys.length:Int)+2 * x.co.l<=_;omega,g9 _,λ_=>{(rfl),rfl},g9 _,rfl,.inl rfl,λ_ h _=>h,λ_ _ _ h=>h,λ_ _ _ _ h=>h,(λt d h=>?_),(λ_ e=>nomatch e),g9 _};let q:=c.ow t d h;let (e,f,j):=d;rw [v] at q;have:=p e f;rw [V.int.inj q,lO j] at this;cases this
end
def Pe.down {M:Pm} {s:S8} {un:List Int} {r:Rn} {i:Int} (h:Pe M s (i+1) un r):Pe M s i un r:=by
 rcases h with h|⟨f,e,h⟩
 ·exact .inl h
 ·refine .inr {f,e,h.lt,h.mm,h.me,h.bd,h.uu,λz=>?_,h.sl};let (k,c,x,u,a,b,d):=h.ac z;exact {k,c,x,u,a,b,∎}
def Gn (F:Cf) (i:Int) (x y:xY):Prop:=y.co.l<x.co.l\/y.s=x.s/\y.r.tk=.non/\y.co.na=i/\(x.co.na=i\/rG x.s.cs F.M.le i)/\∀t,Ol x.s t->x.r.tk≠.int t.1
inductive GU (N:Cn) (fD la:Addr) (fx:Fx) (vs:List V) (H:Hp) (Q:VK) (E0_:XK):Prop|mk (F:Cf) (x:xY) (i:Int) (_:vs=[.ref F.p,.ref F.q,.int i]) (_:x.H=H) (_:F.fD=fD) (_:F.la=la) (_:F.fx=fx) (_:Cs N F i x) (_:x.ys.length+2 * x.co.l<=3990) (_:x.co.dn+x.co.l<=3000) (_:Pe F.M x.s i x.un x.r) (_:x.r.sl=false) (_:∀y,Gs N F i 0 x y->y.un=[]->Pe F.M y.s (i+1) [] y.r->Gn F i x y->Q .non y.H)
def IR (N:Cn) (fD la:Addr) (fx:Fx):Sp:=GU N fD la fx
def IV:aK ["self","runner","tick"] ["self","runner","tick"] (aG tQ):={rfl,rfl,rfl,⋯,rfl,⋯,⋯}
def FH {fD la:Addr} {fx:Fx} (hD:Aw P w K mg base fD la fx) (W:Wd P w K mg base N c):eG P w K mg base cY N.CC "work_on" 8 (IR N fD la fx):=W.d69.of λF=>by
 refine F.ok IV (λvs H Q E h=>?_) (λah A ae s H vs Q E hr h=>?_)
 ·let (F,x,i,rfl,_):=h
  rfl
 ·intro X D
  let (Fc,x,i,rfl,rfl,ef,el,ex,B,ly,ld,ok,hs,k):=h
  let a7:=W.R.cl
  let nU:=W.R.nU
  let nT:=W.R.nT
  let a2:∀y:xY,Gs N Fc i 1 x y->y.un=[]->Pe Fc.M y.s i [] y.r->(y.r.tk=.non->Gs N Fc i 0 x y/\Gn Fc i x y)->Wp X ((bH tQ).drop 2) D [some (.ref Fc.p),some (.ref Fc.q),some (.int i)] y.H:=λy G hu ok dn=>by
   let f:=G.cs
   let hq:=f.hq
   let sl:y.r.sl=false:=by rw [G.st];exact hs
   let l1:=G.yl
   let l2:=G.dl
   let l3:=G.ll
   let l4:=f.l0
   let l5:=f.zl
   refine {_,aH (bP eF (aH (cF (bD (pv 0) W.Q.cl ((Ws W).to bM.calm) hr aQ (aA (pv 1) (aA (bD (pv 0) W.Q.cl (Wt hD W) hr aQ (aA (pv 1) aF)) (aA (pv 2) aF)))))) aZ),?_}
   refine Tv.to (b:=!decide (y.r.tk=.non)) (by symm) _ ?_
   rcases ok with ⟨z,_⟩|⟨tk,O,C⟩
   ·rw [z]
    let (g0,gn):=dn z
    exact bY (k y g0 hu (.inl {(z),rfl}) gn)
   rw [O]
   refine cH ?_
   let (db,a9):=f.go.bv.bk.ob
   refine {_,rfl,Fc.p,Fc.dc,_,rfl,f.hp,rfl,_,rfl,_,rfl,Fc.p,Fc.dc,_,rfl,f.hp,rfl,_,rfl,?_}
   refine {Fc.p,Fc.q,Fc.dc,Fc.dq,db,y.A.pw,y.A.sh,y.A.d,y.co,y.r,Fc.M.sp,Fc.M.ev,Fc.M.le,y.s.nn,y.s.nt,y.s.mo,y.zs,rfl,f.hp,by rw [f.dv,ef],hq,by rw [f.bk];exact a9,f.pc,f.go.e1,f.e4,C.me,C.bd.1,C.bd.2,by rw [<- ex];exact f.fx,by rw [<- el];exact f.hz,∎,λn u H1 zs' n1 Y n3 U af a8 a5 lz=>?_}
   rw [<- el] at U a5
   let ag:y.co.ln≠Fc.p:=aI f.hl f.hp (by intro z;cases z)
   let a6:=U _ _ f.hl ag f.nla
   let L:Fc.q≠Fc.la:=aI f.hq f.hz (by intro z;cases z)
   let S:Fc.p≠Fc.la:=aI f.hp f.hz (by intro z;cases z)
   refine {_,rfl,?_}
   let ha:=C.ac rfl
   refine {Fc.M,y.A,y.s,Fc.p,Fc.q,Fc.dc,Fc.dq,u,{ y.co with dn:=y.co.dn+n },y.r,tk,i,gM y.r.ma n,y.ys,rfl,a8,f.bk,U _ _ hq f.npq.symm L,O,a6,∎,f.go.kb λa o e z=>U a o e (fZ e z f.hp Mp) (fZ e z f.hz rfl),f.mo,C.lt.1,C.lt.2,af,by rw [fB];exact Y,f.e4,λe he z=>(C.mm e he z).1,λno=>?_,λm h v s' a H' sc g' Z J I T=>?_}
   ·let (j,e,_,_,he,eo,_):=ha
    have:=no e (g6 he)
    rw [lO eo] at this
    cases this
   ·let kl:Kl Fc y.co.ln y.H H':=λa o e z n1 Y n3 n4=>Z a o (U a o e n1 n4) z n1 Y n3
    let a4:=f.tup kl f.hu
    rw [hu] at a4
    let (z,ez,zu,gz,oz,lt,_):=f.told (a:=a) (u':=y.r.un) (d:=n) O (by show Rk Fc.M y.s i y.un y.r tk;rw [hu];exact C) sl ∎ Y n3 (.inr rfl) ∎ sc g' kl J I T (Z _ _ a5 rfl S.symm L.symm f.nla.symm) a4
    rw [<- ez]
    exact k z ((G.trans gz).up (by decide)) zu oz (.inl (by have:=G.ll;omega))
  let a3:∀y:xY,Gs N Fc i 0 x y->y.un=[]->Pe Fc.M y.s i [] y.r->(y.r.tk=.non->y.co.l<x.co.l\/y.s=x.s/\y.co.na=x.co.na/\∀t,Ol x.s t->x.r.tk≠.int t.1)->Wp X ((bH tQ).drop 1) D [some (.ref Fc.p),some (.ref Fc.q),some (.int i)] y.H:=λy G hu ok dn=>by
   let f:=G.cs
   let hq:=f.hq
   let sl:y.r.sl=false:=by rw [G.st];exact hs
   let l1:=G.yl
   let l4:=f.l0
   refine {_,aE (bP eF (aH (cF (bD (pv 0) W.Q.cl ((AE W).to bM.calm) hr aQ (aA (pv 1) (aA (pv 2) aF))))) aZ) aU,?_}
   refine Tv.to (b:=decide (y.r.tk=.non)) (by symm) _ ?_
   rcases ok with ⟨z,_⟩|⟨tk,O,C⟩
   ·rw [z]
    refine cH {_,rfl,Fc.p,Fc.dc,_,rfl,f.hp,rfl,_,rfl,_,rfl,?_}
    refine {Fc.M,y.A,y.s,Fc.p,Fc.q,Fc.dc,Fc.dq,y.co,y.r,i,y.ys,rfl,f.hp,f.bk,hq,f.wx,f.sx,f.hl,∎,f.go,f.mo,λaa H' U g J=>?_,λtk n m h u ov s' ai a H' sc ad g' Z J I T=>?_}
    ·let g1:=G.trans (f.naf U g J)
     refine a2 { y with H:=H',co:={ y.co with na:=i } } (g1.up (by decide)) hu (.inl {(z),rfl}) λ_=>{g1.up (by decide),?_}
     rcases dn z with q|⟨q1,q2,q3⟩
     ·exact .inl q
     ·exact .inr {q1,z,rfl,by rw [<- q1,<- q2];exact aa,q3}
    ·let L:Fc.la≠Fc.q:=aI f.hz f.hq (by intro z;cases z)
     let S:Fc.la≠Fc.p:=aI f.hz f.hp (by intro z;cases z)
     let (y',ez,zu,zt,zs,gz,C):=f.lent z sl hu sc ad g' (λa o e z n1 Y n3 _=>Z a o e z n1 Y n3) J I T (Z _ _ f.hz rfl S L f.nla.symm)
     rw [<- ez]
     exact a2 y' (G.trans gz) zu (Pe.down (.inr {(tk),zt,C})) λe=>by rw [zt] at e;cases e
   ·rw [O]
    exact bY (a2 y (G.up (by decide)) hu (.inr {(tk),O,C}) λe=>by rw [O] at e;cases e)
  let hq:=B.hq
  let l4:=B.l0
  refine {_,aE (bP (gY (bA (pv 1) rfl) (λ_=>rfl)) (aH (cF (bD (pv 0) W.Q.cl (Sm W) hr aQ (aA (pv 1) (aA (pv 2) aF))))) aZ) aU,?_}
  refine {_,rfl,Fc.q,N.CR,Fc.dq,_,_,rfl,hq,a7,nU,rfl,_,.inr (.inl {_,bN.of B.hu,rfl}),?_}
  cases eu:x.un with
  | nil=>
   rw [eu] at ok
   exact bY (a3 x (Gs.nil B) eu ok λz=>.inr {rfl,rfl,λt _ e=>by rw [z] at e;cases e})
  | cons v vs=>
   let a0:x.un≠[]:=by rw [eu];intro z;cases z
   obtain⟨tk,O,C⟩:∃tk,x.r.tk=.int tk/\Rk Fc.M x.s i x.un x.r tk:=ok.resolve_left λz=>a0 z.2
   let (n,en):=B.ur
   let ln:x.un.length=n:=by rw [en,fB]
   let n0:n≠0:=λz=>a0 (by rw [en,z];rfl)
   let uu:=C.uu
   rw [ln] at uu
   refine cH {_,rfl,Fc.p,Fc.dc,_,rfl,B.hp,rfl,_,rfl,_,rfl,?_}
   refine {Fc.M,x.A,x.s,Fc.p,Fc.q,Fc.dc,Fc.dq,x.co,x.r,tk,i,x.un,x.ys,rfl,B.hp,B.bk,hq,O,B.hl,∎,B.go,B.mo,C.lt.1,C.lt.2,B.hu,C.uu.1,B.e4,λe he z=>(C.mm e he z).1,λno u' H' U g I a1=>?_,λm h u s' a u' H' sc g' Z J I T a1=>?_}
   ·exact a3 { x with H:=H',r:={ x.r with tk:=.non,un:=u' },un:=[] } (B.lost O no U g I a1) rfl (.inl {(rfl),rfl}) λ_=>.inr ⟨rfl,rfl,λt ⟨e,he,eo⟩ q=>by
     rw [O] at q
     have:=no e he
     rw [V.int.inj q,lO eo] at this
     cases this⟩
   ·let L:Fc.la≠Fc.q:=aI B.hz B.hq (by intro z;cases z)
    let S:Fc.la≠Fc.p:=aI B.hz B.hp (by intro z;cases z)
    rw [en] at sc
    let (y,ey,yu,G,oy,lt,_):=B.told (d:=0) (zs':=x.zs) O C hs ∎ uu.1 uu.2 (.inl {(rfl),a0}) ∎ sc g' (λa o e z n1 Y n3 _=>Z a o e z n1 Y n3) (by rw [O9];exact J) I T (Z _ _ B.hz rfl S L B.nla.symm) a1
    rw [<- ey]
    exact a3 y (G.up (by decide)) yu oy.down λ_=>.inl lt
def cnt (a:Lm.Ps) (n:Nat):Int:=(((a.take n).filter λq=>decide (1<q.2)).length:Int)
def lY (a:Lm.Ps) (ps:Int) (sl:Bool):Int:=cnt a ps.toNat+if sl=true then 1 else 0
def en (a:Lm.Ps) (r:Rn):Int:=lY a r.ps r.sl
def xI {a:Lm.Ps} {n:Nat} {q:Int × Int} (h:a[n]?=some q):cnt a (n+1)=cnt a n+if 1<q.2 then 1 else 0:=by
 unfold cnt;rw [A2,h,F8,i6];by_cases z:1<q.2
 ·rw [if_pos z];simp [z]
 ·rw [if_neg z];simp [z]
def uP {a:Lm.Ps} {n m:Nat} (h:n<=m):cnt a n<=cnt a m:=by
 unfold cnt;exact Int.ofNat_le.mpr (((List.take_sublist_take_left h).filter _).length_le)
def Nv {a:Lm.Ps} {n:Nat}:0<=cnt a n:=Int.natCast_nonneg _
def BC {a:Lm.Ps} {r:Rn}:0<=en a r:=by
 have:=Nv (a:=a) (n:=r.ps.toNat);unfold en lY;split <;> omega
def GF {a:Lm.Ps} {r:Rn} (h:r.sl=true):1<=en a r:=by
 have:=Nv (a:=a) (n:=r.ps.toNat);unfold en lY;rw [if_pos h];omega
structure Rv (M:Pm) (s:S8) (L:List Int) (j:Int) (a:Lm.Ps) (v:Int) (r:Rn) (un:List Int):Prop where
 ok:Pe M s j un r
 p0:0<=r.ps
 p1:r.ps<=a.length
 sk:r.sl=true->2<=j/\∃q,a[r.ps.toNat]?=some q/\q.1<j/\j<=q.2
 v0:0<=v
 vc:un≠[]->∀t,Ol s t->r.tk=.int t.1->t.2.2<j+v
 uc:∀t,Ol s t->r.tk=.int t.1->t.2.2<j+M.sp
 ul:un≠[]->∀t,r.tk=.int t->t ∈ L
theorem Rv.en {M:Pm} {s:S8} {L un:List Int} {i v ps:Int} {a:Lm.Ps} {r:Rn} {sl:Bool} (h:Rv M s L i a v r un) (c:Cm a i r.ps ps sl):en a r<=lY a ps sl/\(r.sl=false->sl=true->en a r+1<=lY a ps sl):=by
 let f:=h.p0;let j:=c.up;let m:=uP (a:=a) (show r.ps.toNat<=ps.toNat by omega);unfold Ls.en lY;refine {?_,λz y=>by rw [z,y];simp;omega};cases hs:r.sl with
 | false=>simp;split <;> omega
 | true=>
  cases sl with
  | true=>simp;omega
  | false=>
   let (e,q,b,d,g):=h.sk hs;let k:ps.toNat≠r.ps.toNat:=λz=>by
    have:=c.sl.mpr {q,by rw [z];exact b,∎};cases this
   have:=uP (a:=a) (show r.ps.toNat+1<=ps.toNat by omega);rw [xI b,if_pos ∎] at this;simp;omega
structure Gt (N:Cn) (F:Cf) (i:Int) (a:Lm.Ps) (v v':Int) (x y:xY):Prop where
 cs:Cs N F i y
 kr:Kl F x.co.ln x.H y.H
 ln:y.co.ln=x.co.ln
 ad:∃ps,y.A={ x.A with ps:=ps }
 st:y.r.x=x.r.x/\y.r.pc=x.r.pc/\y.r.sil=x.r.sil
 rv:Rv F.M y.s y.L (i+1) a v' y.r y.un
 yl:(y.ys.length:Int)+2 * y.co.l<=x.ys.length+2 * x.co.l
 dl:y.co.dn+y.co.l<=x.co.dn+x.co.l+F.M.ev * (en a y.r-en a x.r)
 de:en a y.r=0->x.un=[]->y.un=[]/\y.co.dn+y.co.l=x.co.dn+x.co.l
 ll:y.co.l<=x.co.l
 ee:en a x.r<=en a y.r
 L:∀t ∈ x.L,t ∈ y.L
 Ln:(y.L.length:Int)<=x.L.length+(en a y.r-en a x.r)
 vv:v' - F.M.sp * en a y.r<=v-F.M.sp * en a x.r
 na:y.co.na=x.co.na\/y.co.na=i
 gn:y.co.l+v' - F.M.sp * en a y.r<x.co.l+v-F.M.sp * en a x.r\/y.s=x.s/\(y.r.tk=.non\/y.r.tk=x.r.tk)/\(∀t,Ol x.s t->x.r.tk=.int t.1->t.2.2<i)/\(y.r.sl=false->y.co.na=i/\(x.co.na=i\/rG x.s.cs F.M.le i))/\(y.r.sl=true->y.co.na=x.co.na)
 kp:∀{j:Int} {un0:List Int} {r0:Rn} {tk0:Int},i<=j->Rk F.M x.s j un0 r0 tk0->x.r.tk≠.int tk0->Rk F.M y.s j un0 r0 tk0
 bw:∀t,t.1<x.s.nt->x.r.tk≠.int t.1->Ol y.s t->Ol x.s t
 fw:∀t,t.1<x.s.nt->x.r.tk≠.int t.1->i<=t.2.2->Ol x.s t->Ol y.s t
 ow:∀t,Ol y.s t->x.r.tk=.int t.1\/x.s.nt<=t.1->y.r.tk=.int t.1
 tk:∀t,y.r.tk=.int t->x.r.tk=.int t\/x.s.nt<=t
 nt:x.s.nt<=y.s.nt
section
variable {F:Cf} {i:Int} {x y:xY}
def Cs.ru {H':Hp} {b:Rn} (c:Cs N F i x) (fr:∀a o,x.H a=some o->a≠F.q->H' a=some o) (h:H' F.q=some (.ins N.CR F.dq (rf b))) (f:b.x=x.r.x) (g:b.pc=x.r.pc) (j:b.un=x.r.un) (k:b.ma=x.r.ma):Cs N F i { x with H:=H',r:=b }:=by
 let d:Kl F x.co.ln x.H H':=λa o e _ _ n _ _=>fr a o e n;exact {fr _ _ c.hp c.npq,c.bk,c.dv,h,by show H' b.un=_;rw [j];exact c.tup d c.hu,fr _ _ c.hl (aI c.hl c.hq (by intro z;cases z)),fr _ _ c.hz (aI c.hz c.hq (by intro z;cases z)),c.nla,c.fxk d,c.zl,c.go.kb λa o e z=>fr a o e (fZ e z c.hq Fs),c.mo,c.tot,c.tt,c.e4,c.le,c.s1,by show 1<=b.pc;rw [g];exact c.pc,by show eN b.x;rw [f];exact c.wx,by show PyData.strOk b.x=true;rw [f];exact c.sx,c.rv,by show ∃n,x.un=gM b.ma n;rw [k];exact c.ur,c.oi}
end
inductive Uk (N:Cn) (fD la:Addr) (fx:Fx) (vs:List V) (H:Hp) (Q:VK) (E0_:XK):Prop|mk (F:Cf) (x:xY) (i:Int) (a:Lm.Ps) (v:Int) (_:vs=[.ref F.p,.ref F.q,.int i]) (_:x.H=H) (_:F.fD=fD) (_:F.la=la) (_:F.fx=fx) (_:Cs N F i x) (_:x.ys.length+2 * x.co.l<=3990) (_:x.co.dn+x.co.l<=3000) (_:1<=i) (_:Rv F.M x.s x.L i a v x.r x.un) (_:bS x.H x.r.sil a) (_:∀y v',Gt N F i a v v' x y->Q .non y.H)
def Xy (N:Cn) (fD la:Addr) (fx:Fx):Sp:=Uk N fD la fx
def Ij:aK ["self","runner","tick","was_silent"] ["self","runner","tick"] (aG Jr):={rfl,rfl,rfl,⋯,rfl,⋯,⋯}
def Sa {fD la:Addr} {fx:Fx} (hD:Aw P w K mg base fD la fx) (W:Wd P w K mg base N c):eG P w K mg base cY N.CC "turn" 9 (Xy N fD la fx):=W.d68.of λF=>by
 refine F.ok Ij (λvs H Q E h=>?_) (λak A ai s H vs Q E hr h=>?_)
 ·let (F,x,i,a,v,rfl,_):=h
  rfl
 ·intro X D
  let (Fc,x,i,a,v,rfl,rfl,ef,el,ex,f,ly,ld,i1,C,wk,k):=h
  let nd:=Ij.nd
  let a2:=W.R.cl
  let nQ:=W.R.nQ
  let nT:=W.R.nT
  let hq:=f.hq
  let e1:=f.go.e1
  let s1:=f.s1
  let l0:=f.l0
  let zl:=f.zl
  let ok:=C.ok
  refine Wp.ex (jL (n:=3) (v:=.bl x.r.sl) (by symm) nd rfl (j0 rfl) rfl (.inr rfl) ?_)
  refine oB (qB (vs:=[.int i]) (by symm) hq a2 (Sv W) hr aQ (by symm) {Fc.q,Fc.dq,x.r,i,a,rfl,hq,wk,C.p0,C.p1,λps sl cm=>?_} rfl)
  let (Y,ae):=C.en cm
  let a0:=cm.z0
  let Z:=cm.le
  let sk:sl=true->2<=i+1/\∃q,a[ps.toNat]?=some q/\q.1<i+1/\i+1<=q.2:=λz=>by
   let (q,e,l):=cm.sl.mp z
   have:=cm.hi q e
   exact { ∎,q,e,∎,∎}
  let m1:0<=Fc.M.ev * (lY a ps sl-en a x.r):=P4 ∎ ∎
  let m2:Fc.M.sp * en a x.r<=Fc.M.sp * lY a ps sl:=B9 Y ∎
  let I:(aS x.H Fc.q (.ins N.CR Fc.dq (rf { x.r with ps:=ps,sl:=sl }))) Fc.q=some (.ins N.CR Fc.dq (rf { x.r with ps:=ps,sl:=sl })):=aB
  let fr:∀a o,x.H a=some o->a≠Fc.q->(aS x.H Fc.q (.ins N.CR Fc.dq (rf { x.r with ps:=ps,sl:=sl }))) a=some o:=λa o e n=>by rw [aC n];exact e
  generalize aS x.H Fc.q (.ins N.CR Fc.dq (rf { x.r with ps:=ps,sl:=sl }))=H1 at I fr ⊢
  let m:Cs N Fc i { x with H:=H1,r:={ x.r with ps:=ps,sl:=sl } }:=f.ru fr I rfl rfl rfl rfl
  refine {_,aH (bP (bZ (bX (bA (pv 1) rfl))) (aH (cF (bD (pv 0) W.Q.cl (FH hD W) hr aQ (aA (pv 1) (aA (pv 2) aF))))) (aH (bP (PW.pt (fX (bZ (bX (pv 3))) (eW eF))) (aH (cA (pv 1) (bD (pv 0) W.Q.cl (Wt hD W) hr aQ (aA (pv 1) aF)) rfl)) aZ))),?_}
  refine {_,rfl,Fc.q,N.CR,Fc.dq,_,_,rfl,I,a2,nQ,rfl,sl,rfl,?_}
  cases sl with
  | false=>
   refine cH {_,rfl,Fc.p,Fc.dc,_,rfl,m.hp,rfl,_,rfl,_,rfl,?_}
   refine {Fc,{ x with H:=H1,r:={ x.r with ps:=ps,sl:=false } },i,rfl,rfl,ef,el,ex,m,ly,ld,?_,rfl,λy g u o gn=>?_}
   ·rcases ok with z|⟨U,S,j⟩
    ·exact .inl z
    ·exact .inr {U,S,j.lt,j.mm,j.me,j.bd,j.uu,j.ac,λz=>nomatch z}
   let ee:en a y.r=lY a ps false:=by rw [g.st];rfl
   let a6:y.r.sl=false:=by rw [g.st]
   let dl:y.co.dn+y.co.l<=x.co.dn+x.co.l:=g.dl
   let ll:y.co.l<=x.co.l:=g.ll
   let yL:y.L=x.L:=g.L
   let mo:=g.cs.mo
   refine k y v {g.cs,λb o e z n1 n2 n3 n4=>g.kr b o (fr b o e n2) z n1 n2 n3 n4,g.ln,g.ad,by rw [g.st];exact {(rfl),rfl,rfl},{by rw [u];exact o,by rw [g.st];exact a0,by rw [g.st];exact Z,(λz=>by rw [a6] at z;cases z),C.v0,λz=>absurd u z,λt B _=>?_,λz=>absurd u z},(by have h:=g.yl;rw [O9] at h;exact h),by rw [ee];omega,λ_ z=>g.de z,ll,by rw [ee];exact Y,λt ht=>by rw [yL];exact ht,by rw [yL,ee];omega,by rw [ee];omega,g.na,?_,g.kp,g.bw,g.fw,g.ow,g.tk,g.nt}
   ·let (e,he,eo):=B
    have:=(g.cs.go.iv.op e he t eo).2.2.2.1
    omega
   ·rw [ee]
    rcases gn with q|⟨q1,q2,q3,q4,q5⟩
    ·let q:y.co.l<x.co.l:=q
     exact .inl ∎
    ·exact .inr {q1,.inl q2,λt h e=>absurd e (q5 t h),λ_=>{(q3),q4},λz=>by rw [a6] at z;cases z}
  | true=>
   let aj:1<=lY a ps true:=GF (a:=a) (r:={ x.r with ps:=ps,sl:=true }) rfl
   let a1:(x.r.sl=true\/x.r.tk=.non)->Q .non H1:=λh=>by
    let a7:Pe Fc.M x.s (i+1) x.un { x.r with ps:=ps,sl:=true }:=by
     rcases ok with z|⟨U,S,j⟩
     ·exact .inl z
     ·let sx:x.r.sl=true:=h.resolve_right λz=>by rw [S] at z;cases z
      let G:=j.sl sx;exact .inr {U,S,j.lt,j.mm,j.me,j.bd,j.uu,λz=>absurd z G,λ_=>G}
    let kr:Kl Fc x.co.ln x.H H1:=λb o e _ _ n _ _=>fr b o e n;by_cases lv:∃t,Ol x.s t/\x.r.tk=.int t.1/\i<=t.2.2
    ·let (t,B,S,ti):=lv;let G:x.un≠[]:=by
      rcases ok with ⟨z,_⟩|⟨U,e,j⟩
      ·rw [z] at S;cases S
      ·exact j.sl (h.resolve_right λz=>by rw [e] at z;cases z)
     have:=C.vc G t B S;exact k { x with H:=H1,r:={ x.r with ps:=ps,sl:=true } } (v-1) ⟨m,kr,rfl,{_,rfl},{(rfl),rfl,rfl},⟨a7,a0,Z,sk,∎,λz t B e=>by have:=C.vc z t B e;omega,λt B e=>by have:=C.uc t B e;omega,C.ul⟩,g9 _,by show x.co.dn+x.co.l<=x.co.dn+x.co.l+Fc.M.ev * (lY a ps true-en a x.r);omega,λz=>by have z:lY a ps true=0:=z;omega,g9 _,Y,λ_ h=>h,by show (x.L.length:Int)<=x.L.length+(lY a ps true-_);omega,by show v-1-Fc.M.sp * lY a ps true<=_;omega,.inl rfl,.inl (by show x.co.l+(v-1)-Fc.M.sp * lY a ps true<_;omega),λ_ h _=>h,λ_ _ _ h=>h,λ_ _ _ _ h=>h,f.ow,λ_ e=>.inl e,g9 _⟩
    ·exact k { x with H:=H1,r:={ x.r with ps:=ps,sl:=true } } v ⟨m,kr,rfl,{_,rfl},{(rfl),rfl,rfl},⟨a7,a0,Z,sk,C.v0,λz t B e=>by have:=C.vc z t B e;omega,λt B e=>by have:=C.uc t B e;omega,C.ul⟩,g9 _,by show x.co.dn+x.co.l<=x.co.dn+x.co.l+Fc.M.ev * (lY a ps true-en a x.r);omega,λz=>by have z:lY a ps true=0:=z;omega,g9 _,Y,λ_ h=>h,by show (x.L.length:Int)<=x.L.length+(lY a ps true-_);omega,by show v-Fc.M.sp * lY a ps true<=_;omega,.inl rfl,.inr {rfl,.inr rfl,λt B e=>Int.not_le.mp λz=>lv {(t),B,e,z},(λz=>nomatch z),λ_=>rfl},λ_ h _=>h,λ_ _ _ h=>h,λ_ _ _ _ h=>h,f.ow,λ_ e=>.inl e,g9 _⟩
   refine bY {_,rfl,x.r.sl,rfl,?_};cases es:x.r.sl with
   | true=>exact bY (bY (a1 (.inl es)))
   | false=>
    refine cH ?_;refine Tv.to (b:=!decide (x.r.tk=.non)) (by symm) _ ?_;rcases ok with ⟨z,u0⟩|⟨U,S,j⟩
    ·rw [z];exact bY (a1 (.inr z))
    rw [S];refine cH ?_;let (db,af):=m.go.bv.bk.ob;refine {_,rfl,Fc.p,Fc.dc,_,rfl,m.hp,rfl,_,rfl,?_};refine {Fc.p,Fc.q,Fc.dc,Fc.dq,db,x.A.pw,x.A.sh,x.A.d,x.co,{ x.r with ps:=ps,sl:=true },Fc.M.sp,Fc.M.ev,Fc.M.le,x.s.nn,x.s.nt,x.s.mo,x.zs,rfl,m.hp,by rw [f.dv,ef],I,by rw [f.bk];exact af,f.pc,e1,f.e4,j.me,j.bd.1,j.bd.2,by rw [<- ex];exact m.fx,by rw [<- el];exact m.hz,∎,λn u H2 a9 n1 n2 n3 T a5 ag a3 lz=>?_};rw [<- el] at T a3;let a4:Fc.q≠Fc.la:=aI I m.hz (by intro z;cases z);let al:Fc.p≠Fc.la:=aI m.hp m.hz (by intro z;cases z);let a8:=T _ _ I f.npq.symm a4;refine {_,rfl,Fc.q,N.CR,Fc.dq,_,rfl,a8,a2,W.R.nU,(by show 9<1000;decide),?_};let J:∀a o,H2 a=some o->a≠Fc.q->(aS H2 Fc.q (.ins N.CR Fc.dq (rf { x.r with ps:=ps,sl:=true,un:=u }))) a=some o:=λa o e n=>by rw [aC n];exact e
    let h3:(aS H2 Fc.q (.ins N.CR Fc.dq (rf { x.r with ps:=ps,sl:=true,un:=u }))) Fc.q=some (.ins N.CR Fc.dq (rf { x.r with ps:=ps,sl:=true,un:=u })):=aB;show Q .non (aS H2 Fc.q (.ins N.CR Fc.dq (rf { x.r with ps:=ps,sl:=true,un:=u })));generalize aS H2 Fc.q (.ins N.CR Fc.dq (rf { x.r with ps:=ps,sl:=true,un:=u }))=H3 at J h3 ⊢;let kr:Kl Fc x.co.ln x.H H3:=λb o e _ m1 m2 _ m4=>J b o (T b o (fr b o e m2) m1 m4) m2;let G:gM x.r.ma n≠[]:=λz=>by
     have:=congrArg List.length z;rw [fB] at this;exact absurd this (by show ¬ n=0;omega)
    let e2:=ae es rfl;let m3:Fc.M.ev * 1<=Fc.M.ev * (lY a ps true-en a x.r):=B9 ∎ ∎;let m4:Fc.M.sp * (en a x.r+1)<=Fc.M.sp * lY a ps true:=B9 e2 ∎;rw [Int.mul_add] at m4;let v0:=C.v0;let aa:=J _ _ (T _ _ m.hl (aI m.hl m.hp (by intro z;cases z)) m.nla) (aI m.hl m.hq (by intro z;cases z));let ah:Oi x.s i x.O x.co.ov (U::x.L):={f.oi.nd,f.oi.ln,λt ht=>(f.oi.mem t ht).imp id λ⟨p,q⟩=>{d0 _ p,q},λt ht=>(f.oi.lt t ht).imp id λp=>d0 _ p};let c3:Cs N Fc i {H3,{ x.co with dn:=x.co.dn+n },x.A,x.s,{ x.r with ps:=ps,sl:=true,un:=u },gM x.r.ma n,x.ys,a9,U::x.L,x.O}:={J _ _ ag f.npq,f.bk,f.dv,h3,J _ _ a5 (aI a5 a8 (by intro z;cases z)),aa,J _ _ a3 a4.symm,f.nla,f.fxk kr,by show (a9.length:Int)=x.co.dn+n;omega,m.go.kb λb o e z=>J b o (T b o e (fZ e z m.hp Mp) (fZ e z m.hz rfl)) (fZ e z I Fs),f.mo,f.tot,f.tt,f.e4,f.le,f.s1,f.pc,f.wx,f.sx,f.rv,{(n),rfl},ah};refine k _ (Fc.M.sp-1) ⟨c3,kr,rfl,{_,rfl},{(rfl),rfl,rfl},⟨.inr {U,S,j.lt,j.mm,j.me,j.bd,{by rw [fB];exact n2,by rw [fB];exact n3},λz=>absurd z G,λ_=>G},a0,Z,sk,∎,λ_ t B e=>by have:=C.uc t B e;omega,λt B e=>by have:=C.uc t B e;omega,λ_ t e=>?_⟩,g9 _,by show x.co.dn+n+x.co.l<=_+Fc.M.ev * (lY a ps true-en a x.r);omega,λz=>by have z:lY a ps true=0:=z;omega,g9 _,by show _<=lY a ps true;omega,λ_ h=>d0 _ h,?_,by show Fc.M.sp-1-Fc.M.sp * lY a ps true<=_;omega,.inl rfl,.inl (by show x.co.l+(Fc.M.sp-1)-Fc.M.sp * lY a ps true<_;omega),λ_ h _=>h,λ_ _ _ h=>h,λ_ _ _ _ h=>h,f.ow,λ_ e=>.inl e,g9 _⟩
    ·let e:x.r.tk=.int t:=e;rw [S] at e;cases e;exact g8 ..
    ·show (((U::x.L).length:Nat):Int)<=_+(lY a ps true-_);rw [j4];omega
structure Rr where
 r:Rn
 un:List Int
 a:Lm.Ps
 v:Int
def sE (l:List Rr):Int:=(l.map λu=>en u.a u.r).sum
def sV (l:List Rr):Int:=(l.map Rr.v).sum
def tF {f:Rr->Int} {u u':Rr} (l:List Rr):∀n,l[n]?=some u->((l.set n u').map f).sum=(l.map f).sum-f u+f u':=by
 induction l with
 | nil=>intro n h;cases h
 | cons x l ih=>
  intro n h;cases n with
  | zero=>
   cases h;rw [List.set_cons_zero,k7,k7,A6,A6];omega
  | succ n=>
   rw [List.set_cons_succ,k7,k7,A6,A6,ih n h];omega
def Zk (u:Rr) (l:List Rr):sE (u::l)=en u.a u.r+sE l:=by unfold sE;rw [k7,A6]
def Jp {l:List Rr}:0<=sE l:=by
 induction l with
 | nil=>exact g9 _
 | cons u l ih=>
  rw [Zk];exact Int.add_nonneg BC ih
def Zj {l:List Rr} {u:Rr} (h:u ∈ l):en u.a u.r<=sE l:=by
 induction l with
 | nil=>cases h
 | cons w l ih=>
  let c:=BC (a:=w.a) (r:=w.r);let b:=Jp (l:=l);rw [Zk];rcases g7.mp h with rfl|h
  ·omega
  ·have:=ih h;omega
inductive Gy (N:Cn) (H:Hp) (q:Addr) (u:Rr):Prop|mk (dq:Addr) (_:H q=some (.ins N.CR dq (rf u.r))) (_:H u.r.un=some (.tup (u.un.map V.int))) (_:bS H u.r.sil u.a) (_:1<=u.r.pc) (_:eN u.r.x) (_:PyData.strOk u.r.x=true) (_:∃n,u.un=gM u.r.ma n)
structure Ca where
 H:Hp
 co:Co
 A:Ad
 s:S8
 ys:List V
 zs:List V
 L:List Int
 O:List Int
 rus:List Rr
structure Cq where
 M:Pm
 fD:Addr
 la:Addr
 fx:Fx
 T:Int
 p:Addr
 dc:Addr
 qs:List Addr
structure Al (N:Cn) (F:Cq) (i:Int) (n:Nat) (x:Ca):Prop where
 hp:x.H F.p=some (.ins N.CC F.dc (cf x.co))
 bk:x.co.bk=x.A.b
 dv:x.co.dv=.ref F.fD
 hl:x.H x.co.ln=some (.lst x.ys)
 hz:x.H F.la=some (.lst x.zs)
 nla:x.co.ln≠F.la
 fx:xW F.fx x.H
 zl:(x.zs.length:Int)=x.co.dn
 go:Go N F.M x.H x.A x.s
 mo:x.s.mo<=i
 tot:x.co.l+x.s.ns.length=F.T
 tt:Tt F.M.ws F.T
 e4:F.M.ev<=4
 le:F.M.ev<=F.M.le
 s1:1<=F.M.sp
 rv:∀y ∈ x.s.ns,x.s.vf y=iI y
 oi:Oi x.s i x.O x.co.ov x.L
 ln:x.rus.length=F.qs.length
 nd:∀(k l:Nat) q,F.qs[k]?=some q->F.qs[l]?=some q->k=l
 rn:∀(k:Nat) q u,F.qs[k]?=some q->x.rus[k]?=some u->Gy N x.H q u
 dj:∀(k l:Nat) (a b:Rr),x.rus[k]?=some a->x.rus[l]?=some b->k≠l->∀t,a.r.tk=.int t->b.r.tk≠.int t
 ok:∀(k:Nat) (u:Rr),x.rus[k]?=some u->Rv F.M x.s x.L (if k<n then i+1 else i) u.a u.v u.r u.un
 hd:∀t,Ol x.s t->∃(k:Nat) (u:Rr),x.rus[k]?=some u/\u.r.tk=.int t.1
 yl:(x.ys.length:Int)+2 * x.co.l<=2 * F.T
 dl:x.co.dn+x.co.l<=F.T+F.M.ev * sE x.rus
 de:sE x.rus=0->x.co.dn+x.co.l=F.T/\∀u ∈ x.rus,u.un=[]
 Ln:(x.L.length:Int)<=sE x.rus
 na:x.co.na<=i
section
variable {F:Cq} {i:Int} {n:Nat} {x:Ca} {q dq:Addr} {u:Rr} {v':Int} {y:xY}
abbrev xJ (F:Cq) (q dq:Addr):Cf:=⟨F.M,F.fD,F.la,F.fx,F.T,F.p,F.dc,q,dq⟩
abbrev Ac (x:Ca) (u:Rr):xY:=⟨x.H,x.co,x.A,x.s,u.r,u.un,x.ys,x.zs,x.L,x.O⟩
abbrev rE (x:Ca) (n:Nat) (u:Rr) (v':Int) (y:xY):Ca:=⟨y.H,y.co,y.A,y.s,y.ys,y.zs,y.L,y.O,x.rus.set n ⟨y.r,y.un,u.a,v'⟩⟩
def Al.cs (h:Al N F i n x) {k:Nat} (g:F.qs[k]?=some q) (d:x.rus[k]?=some u):∃dq,Cs N (xJ F q dq) i (Ac x u)/\bS x.H u.r.sil u.a:=by
 let (dq,e,f,m,l,j,c,b):=h.rn k q u g d;exact {dq,{(h.hp),h.bk,h.dv,e,f,h.hl,h.hz,h.nla,h.fx,h.zl,h.go,h.mo,h.tot,h.tt,h.e4,h.le,h.s1,l,j,c,h.rv,b,h.oi},m}
def hU {l:List Rr} {w:Rr} {k:Nat} {u':Rr} (e:(l.set n w)[k]?=some u') (z:k≠n):l[k]?=some u':=by rwa [w5 (A8 z)] at e
def jS {l:List Rr} {w u':Rr} (a:l[n]?=some u) (e:(l.set n w)[n]?=some u'):u'=w:=by
 rw [B4 (c9.mp a).1] at e;exact(Option.some.inj e).symm
def Al.old (h:Al N F i n x) {k:Nat} {w:Rr} {t:Int} (e:x.rus[k]?=some w) (z:w.r.tk=.int t):t<x.s.nt:=by
 rcases (h.ok k w e).ok with ⟨q,_⟩|⟨c,a,b⟩
 ·rw [z] at q;cases q
 ·rw [z] at a;cases a;exact b.lt.2
theorem Al.bw (h:Al N F i n x) (d:x.rus[n]?=some u) (g:Gt N (xJ F q dq) i u.a u.v v' (Ac x u) y) {k:Nat} {w:Rr} (e:x.rus[k]?=some w) (z:k≠n) {t:Int × Str × Int} (b:w.r.tk=.int t.1) (c:Ol y.s t):Ol x.s t:=
 g.bw t (h.old e b) (λq=>h.dj n k u w d e (A8 z) _ q b) c
def Al.step (h:Al N F i n x) (hq:F.qs[n]?=some q) (m:x.rus[n]?=some u) (c:Cs N (xJ F q dq) i (Ac x u)) (wk:bS x.H u.r.sil u.a) (g:Gt N (xJ F q dq) i u.a u.v v' (Ac x u) y):Al N F i (n+1) (rE x n u v' y):=by
 let f:=g.cs;let Q:Kl (xJ F q dq) x.co.ln x.H y.H:=g.kr;let J:∀{b:Addr} {S:Lm.Ps},bS x.H b S->bS y.H b S:=λ{b S} ⟨xs,x1,x2⟩=>{xs,c.tup Q x1,aL (λ_ _ ⟨b,p,D⟩=>{b,p,c.tup Q D}) x2};let W:sE (x.rus.set n {(y.r),y.un,u.a,v'})=sE x.rus-en u.a u.r+en u.a y.r:=tF _ _ m;let ee:en u.a u.r<=en u.a y.r:=g.ee;let yl:(y.ys.length:Int)+2 * y.co.l<=x.ys.length+2 * x.co.l:=g.yl;let dl:y.co.dn+y.co.l<=x.co.dn+x.co.l+F.M.ev * (en u.a y.r-en u.a u.r):=g.dl;let Ln:(y.L.length:Int)<=x.L.length+(en u.a y.r-en u.a u.r):=g.Ln;let h1:=h.yl;have h2:=h.dl;have h3:=h.Ln;have h4:=h.na;refine {f.hp,f.bk,f.dv,f.hl,f.hz,f.nla,f.fx,f.zl,f.go,f.mo,f.tot,f.tt,h.e4,h.le,h.s1,f.rv,f.oi,by rw [L1];exact h.ln,h.nd,λk X P A d=>?_,λk l a b ha E O t j=>?_,λk P d=>?_,λt G=>?_,by show (y.ys.length:Int)+2 * y.co.l<=_;omega,?_,λz=>?_,?_,?_}
 ·by_cases z:k=n
  ·subst z;rw [hq] at A;cases A;rw [jS m d];exact {dq,f.hq,f.hu,by show bS y.H y.r.sil u.a;rw [g.st.2.2];exact J wk,f.pc,f.wx,f.sx,f.ur}
  ·let (U,I,e2,e3,e6,e7,e8,e9):=h.rn k X P A (hU d z);refine {U,Q _ _ I Fn ?_ ?_ (aI I c.hl (by intro z;cases z)) (aI I c.hz (by intro z;cases z)),c.tup Q e2,J e3,e6,e7,e8,e9}
   ·exact λe=>by
     rw [e] at I;have:=Option.some.inj (h.hp.symm.trans I);injection this with _ _ e;exact absurd e (by intro z;cases z)
   ·exact λe=>by
     let e:X=q:=e;exact z (h.nd k n q (by rw [<- e];exact A) hq)
 ·by_cases p:k=n
  ·subst p;let E:=hU E (A8 O);rw [jS m ha] at j;intro K;rcases g.tk t j with q|q
   ·exact h.dj k l u b m E O t q K
   ·let q:x.s.nt<=t:=q;have:=h.old E K;omega
  ·let C:=hU ha p;by_cases D:l=n
   ·subst D;rw [jS m E];intro K;rcases g.tk t K with q|q
    ·exact h.dj k l a u C m O t j q
    ·let q:x.s.nt<=t:=q;have:=h.old C j;omega
   ·exact h.dj k l a b C (hU E D) O t j
 ·by_cases z:k=n
  ·subst z;rw [jS m d,if_pos (K0 _)];exact g.rv
  ·let d:=hU d z;let e:(if k<n+1 then i+1 else i)=if k<n then i+1 else i:=by
    by_cases q:k<n
    ·rw [if_pos q,if_pos ∎]
    ·rw [if_neg q,if_neg ∎]
   rw [e];let o:=h.ok k P d;refine {?_,o.p0,o.p1,o.sk,o.v0,λp t G j=>o.vc p t (h.bw m g d z j G) j,λt G j=>o.uc t (h.bw m g d z j G) j,λp t j=>g.L t (o.ul p t j)};rcases o.ok with q|⟨Y,j,rk⟩
   ·exact .inl q
   ·exact .inr {Y,j,g.kp (by split <;> omega) rk (h.dj k n P u d m z Y j)}
 ·by_cases z:u.r.tk=.int t.1\/x.s.nt<=t.1
  ·exact {n,_,B4 (c9.mp m).1,g.ow t G z}
  ·let (p,D):=not_or.mp z;let (k,w,B,Z):=h.hd t (g.bw t (Int.not_le.mp D) p G);let kn:k≠n:=λq=>by
    subst q;rw [m] at B;cases B;exact p Z
   exact {k,w,by show (x.rus.set n _)[k]?=_;rw [w5 (A8 kn)];exact B,Z}
 ·show y.co.dn+y.co.l<=F.T+F.M.ev * sE (x.rus.set n {(y.r),y.un,u.a,v'});rw [W,show sE x.rus-en u.a u.r+en u.a y.r=sE x.rus+(en u.a y.r-en u.a u.r) by omega,Int.mul_add];omega
 ·let z:sE (x.rus.set n {(y.r),y.un,u.a,v'})=0:=z;let a1:=Zj (g6 m);let a2:=BC (a:=u.a) (r:=u.r);let a3:=Jp (l:=x.rus);let (d1,d2):=h.de ∎;let (d3,d4):=g.de ∎ (d2 u (g6 m));refine {d4.trans d1,λw B=>?_};rcases o8 (show w ∈ x.rus.set n ⟨y.r,y.un,u.a,v'⟩ from B) with B|rfl
  ·exact d2 w B
  ·exact d3
 ·show (y.L.length:Int)<=sE (x.rus.set n {(y.r),y.un,u.a,v'});omega
 ·show y.co.na<=i;rcases g.na with e|e
  ·let e:y.co.na=x.co.na:=e;omega
  ·omega
end
def pt (F:Cq) (x:Ca):Int:=x.co.l+sV x.rus-F.M.sp * sE x.rus
def Lv (s:S8) (i:Int) (u:Rr):Prop:=∃t,Ol s t/\u.r.tk=.int t.1/\i<=t.2.2
structure Tp (F:Cq) (i:Int) (n:Nat) (l0 P0:Int) (x:Ca):Prop where
 l:x.co.l<=l0
 p:pt F x<=P0
 lp:x.co.l<l0->pt F x<P0
 a:∀(k:Nat) (u:Rr),k<n->x.rus[k]?=some u->Lv x.s i u->pt F x<P0
 b:x.co.na=i->pt F x<P0\/∃(k:Nat) (u:Rr),n<=k/\x.rus[k]?=some u/\Lv x.s i u
 c:∀(k:Nat) (u:Rr),k<n->x.rus[k]?=some u->u.a=[]->pt F x<P0\/x.co.na=i
section
variable {F:Cq} {i l0 P0:Int} {n:Nat} {x:Ca} {q dq:Addr} {u:Rr} {v':Int} {y:xY}
theorem Al.none (h:Al N F i n x) (j:rG x.s.cs F.M.le i) (l:x.co.l≠0):∃t,Ol x.s t/\i<=t.2.2:=by
 by_cases z:∀c ∈ x.s.cs,c.m=c.h
 ·let d:=h.tt.lo x.s.ns λv e=>by
   let (c,a,d,b):=(h.go.iv.cv v).mp e;exact(h.go.iv.nx v).mpr {c,a,d,by rw [z c a];exact b}
  let b:=h.tt.up x.s.ns h.go.iv.hd.nd λv e=>by
   let (c,a,d,b):=(h.go.iv.nx v).mp e;exact(h.go.iv.cv v).mpr {c,a,d,by rw [<- z c a];exact b}
  have:=h.tot;omega
 ·let (c,a):=Classical.not_forall.mp z;let (a,k):=Classical.not_imp.mp a;let f:=j.1 c a;let g:=j.2.1 c a;unfold Pc.free at f;unfold Pc.late at g;cases eo:c.o with
  | none=>
   rw [eo,decide_eq_false k] at f;cases f
  | some t=>
   rw [eo] at g;exact {t,{(c),a,eo},K3.mp (of_decide_eq_false g)}
def Tp.step (T:Tp F i n l0 P0 x) (l1:0<l0) (h:Al N F i n x) (D:x.rus[n]?=some u) (g:Gt N (xJ F q dq) i u.a u.v v' (Ac x u) y):Tp F i (n+1) l0 P0 (rE x n u v' y):=by
 let Q:sE (x.rus.set n {(y.r),y.un,u.a,v'})=sE x.rus+(en u.a y.r-en u.a u.r):=by
  have:sE (x.rus.set n {(y.r),y.un,u.a,v'})=sE x.rus-en u.a u.r+en u.a y.r:=tF x.rus n D;omega
 let S:sV (x.rus.set n {(y.r),y.un,u.a,v'})=sV x.rus-u.v+v':=tF x.rus n D;let ep:pt F (rE x n u v' y)=y.co.l+(sV x.rus-u.v+v')-(F.M.sp * sE x.rus+(F.M.sp * en u.a y.r-F.M.sp * en u.a u.r)):=by
  show y.co.l+sV (x.rus.set n {(y.r),y.un,u.a,v'})-F.M.sp * sE (x.rus.set n {(y.r),y.un,u.a,v'})=_;rw [Q,S,Int.mul_add,Int.mul_sub]
 let px:pt F x=x.co.l+sV x.rus-F.M.sp * sE x.rus:=rfl;let ll:y.co.l<=x.co.l:=g.ll;let Y:v' - F.M.sp * en u.a y.r<=u.v-F.M.sp * en u.a u.r:=g.vv;let I:y.co.l+v' - F.M.sp * en u.a y.r<x.co.l+u.v-F.M.sp * en u.a u.r\/y.s=x.s/\(y.r.tk=.non\/y.r.tk=u.r.tk)/\(∀t,Ol x.s t->u.r.tk=.int t.1->t.2.2<i)/\(y.r.sl=false->y.co.na=i/\(x.co.na=i\/rG x.s.cs F.M.le i))/\(y.r.sl=true->y.co.na=x.co.na):=g.gn;let t1:=T.l;let t2:=T.p;let Z:pt F (rE x n u v' y)<=pt F x:=∎;let C:y.co.l+v' - F.M.sp * en u.a y.r<x.co.l+u.v-F.M.sp * en u.a u.r->pt F (rE x n u v' y)<P0:=λz=>∎;let A:(∀t,Ol x.s t->u.r.tk=.int t.1->t.2.2<i)->¬ Lv x.s i u:=λz ⟨t,j,f,l⟩=>by
  have:=z t j f;omega
 refine {by show y.co.l<=_;omega,∎,λz=>?_,λk w O d o=>?_,λz=>?_,λk w O d G=>?_}
 ·let z:y.co.l<l0:=z;by_cases q:x.co.l<l0
  ·have:=T.lp q;omega
  ·omega
 ·by_cases m:k=n
  ·subst m;rw [jS D d] at o;let (t,j,f,l):=o;let f:y.r.tk=.int t.1:=f;rcases I with z|⟨H,z2,K,_⟩
   ·exact C z
   ·let j:Ol y.s t:=j;rw [H] at j;rcases z2 with z2|z2
    ·rw [z2] at f;cases f
    ·rw [z2] at f;exact absurd {(t),j,f,l} (A K)
  ·let d:=hU d m;let (t,j,f,l):=o;have:=T.a k w ∎ d {t,h.bw D g d m f j,f,l};omega
 ·let z:y.co.na=i:=z;rcases I with w|⟨H,_,K,J,W⟩
  ·exact .inl (C w)
  let B:(∃(k:Nat) (w:Rr),n<=k/\x.rus[k]?=some w/\Lv x.s i w)->∃(k:Nat) (w:Rr),n+1<=k/\(rE x n u v' y).rus[k]?=some w/\Lv y.s i w:=λ⟨k,w,O,d,o⟩=>by
   let m:k≠n:=λe=>by
    subst e;rw [D] at d;cases d;exact A K o
   refine {k,w,∎,?_,by rw [H];exact o};show (x.rus.set n _)[k]?=_;rw [w5 (A8 m)];exact d
  let E:x.co.na=i->pt F (rE x n u v' y)<P0\/∃(k:Nat) (w:Rr),n+1<=k/\(rE x n u v' y).rus[k]?=some w/\Lv y.s i w:=λe=>by
   rcases T.b e with w|w
   ·exact .inl ∎
   ·exact .inr (B w)
  cases es:y.r.sl with
  | true=>exact E ((W es).symm.trans z)
  | false=>
   rcases (J es).2 with e|no
   ·exact E e
   by_cases l:x.co.l=0
   ·have:=T.lp ∎;exact .inl ∎
   let (t,j,X):=h.none no l;let (k,w,d,U):=h.hd t j;let o:Lv x.s i w:={(t),j,U,X};by_cases m:k<n
   ·have:=T.a k w m d o;exact .inl ∎
   ·exact .inr (B {k,w,∎,d,o})
 ·let P:y.co.na=x.co.na\/y.co.na=i:=g.na;by_cases m:k=n
  ·subst m;rw [jS D d] at G;let G:u.a=[]:=G;rcases I with z|⟨_,_,_,J,_⟩
   ·exact .inl (C z)
   ·cases es:y.r.sl with
    | false=>exact .inr (J es).1
    | true=>
     let (_,q,L,_):=g.rv.sk es;rw [G] at L;cases L
  ·rcases T.c k w ∎ (hU d m) G with z|z
   ·exact .inl ∎
   ·exact .inr (P.elim (λe=>e.trans z) id)
def Tp.fin (T:Tp F i n l0 P0 x) (h:x.rus.length<=n) (w:∃u ∈ x.rus,u.a=[]):pt F x<P0:=by
 let (u,g,e):=w;let (k,d):=j9.mp g;let m:=(c9.mp d).1;rcases T.c k u ∎ d e with z|z
 ·exact z
 rcases T.b z with z|⟨j,w,l,f,_⟩
 ·exact z
 ·have:=(c9.mp f).1;omega
def Al.next (h:Al N F i F.qs.length x):Al N F (i+1) 0 x:=by
 let D:=h.mo;let B:=h.na;refine {h.hp,h.bk,h.dv,h.hl,h.hz,h.nla,h.fx,h.zl,h.go,∎,h.tot,h.tt,h.e4,h.le,h.s1,h.rv,{h.oi.nd,h.oi.ln,h.oi.mem,λt r=>?_},h.ln,h.nd,h.rn,h.dj,λk u m=>?_,h.hd,h.yl,h.dl,h.de,h.Ln,∎}
 ·let (k,u,p,b):=h.hd t r;let e:=h.ok k u p;have:k<F.qs.length:=by rw [<- h.ln];exact(c9.mp p).1
  rw [if_pos this] at e;by_cases d:u.un=[]
  ·rcases e.ok with ⟨z,_⟩|⟨C,z,s⟩
   ·rw [z] at b;cases b
   ·rw [z] at b;let (j,c,w,v,A,o,l):=s.ac d;let (g,f,a):=r;have:=h.go.iv.oneM c (g6 A) g f (lO o) (by rw [V.int.inj b];exact(lO a:g.has t.1=true));subst this;rw [o] at a;cases a;exact .inl l
  ·exact .inr (e.ul d _ b)
 ·let e:=h.ok k u m;have:k<F.qs.length:=by rw [<- h.ln];exact(c9.mp m).1
  rw [if_pos this] at e;rw [if_neg (B8 _)];exact e
def many (l:List Lm.Ps):Int:=(l.map λa=>cnt a a.length).sum
theorem Rv.cnt {M:Pm} {s:S8} {L un:List Int} {j v:Int} {a:Lm.Ps} {r:Rn} (h:Rv M s L j a v r un):Ls.en a r<=Ls.cnt a a.length:=by
 let e:=h.p0;let g:=h.p1;unfold Ls.en lY;cases hs:r.sl with
 | false=>
  have:=uP (a:=a) (show r.ps.toNat<=a.length by omega);simp;omega
 | true=>
  let (c,q,b,d,f):=h.sk hs;let k:=(c9.mp b).1;have:=uP (a:=a) (show r.ps.toNat+1<=a.length by omega);rw [xI b,if_pos ∎] at this;simp;omega
def Rf:∀{l:List Rr},(∀u ∈ l,en u.a u.r<=cnt u.a u.a.length)->sE l<=many (l.map Rr.a):=by
 intro l
 induction l with
 | nil=>intro _;exact g9 _
 | cons u l ih=>
  intro h;let d:=h u (g8 ..);let c:=ih λw b=>h w (d0 _ b);let e:many ((u::l).map Rr.a)=cnt u.a u.a.length+many (l.map Rr.a):=by unfold many;rw [k7,k7,A6]
  rw [Zk,e];omega
theorem Al.many (h:Al N F i n x):sE x.rus<=many (x.rus.map Rr.a):=Rf λu c=>by
 let (k,b):=j9.mp c
 exact(h.ok k u b).cnt
end
structure Gl (F:Cq) (x y:Ca):Prop where
 kr:∀a o,x.H a=some o->Ki o=true->a≠F.p->a≠x.co.ln->a≠F.la->a ∉ F.qs->y.H a=some o
 ln:y.co.ln=x.co.ln
 as:y.rus.map Rr.a=x.rus.map Rr.a
 ad:∃ps,y.A={ x.A with ps:=ps }
def BM {l:List Rr} {n:Nat} {u w:Rr} (h:l[n]?=some u) (e:w.a=u.a):(l.set n w).map Rr.a=l.map Rr.a:=J0 λk=>by
 rw [i7,i7]
 by_cases z:k=n
 ·subst z
  rw [B4 (c9.mp h).1,h]
  show some w.a=some u.a
  rw [e]
 ·rw [w5 (A8 z)]
section
variable {F:Cq} {x y z:Ca} {i:Int} {n:Nat}
def Gl.nil:Gl F x x:={λ_ _ e _ _ _ _ _=>e,rfl,rfl,{_,rfl}}
theorem Gl.trans (a:Gl F x y) (b:Gl F y z):Gl F x z:=by
 let (p,k):=a.ad;let (m,l):=b.ad;exact {λc o e f j g h d=>b.kr c o (a.kr c o e f j g h d) f j (by rw [a.ln];exact g) h d,b.ln.trans a.ln,b.as.trans a.as,{m,by rw [l,k]}}
def Gt.gl {q j:Addr} {u:Rr} {b:Int} {d:xY} (g:Gt N (xJ F q j) i u.a u.v b (Ac x u) d) (k:x.rus[n]?=some u) (l:q ∈ F.qs):Gl F x (rE x n u b d):=
 {λa o e z h m p f=>g.kr a o e z h (λw=>by subst w;exact f l) m p,g.ln,BM k rfl,g.ad}
def Tp.init (na:x.co.na<i):Tp F i 0 x.co.l (pt F x) x:=
 {g9 _,g9 _,λz=>absurd z (Q4 _),λk _ z=>absurd z (B8 k),λz=>∎,λk _ z=>absurd z (B8 k)}
theorem Al.dn (h:Al N F i n x) (m:Ls.many (x.rus.map Rr.a)<=600):x.co.dn+x.co.l<=F.T+2400:=by
 let e:=h.dl;let b:=Int.mul_le_mul_of_nonneg_right h.e4 (Jp (l:=x.rus));let d:=h.many;omega
end
inductive GZ (N:Cn) (fD la:Addr) (fx:Fx) (vs:List V) (H:Hp) (Q:VK) (E0_:XK):Prop|mk (F:Cq) (lr:Addr) (tt:Nat) (x:Ca) (_:vs=[.ref F.p,.ref lr,.int tt]) (_:x.H=H) (_:F.fD=fD) (_:F.la=la) (_:F.fx=fx) (_:H lr=some (.lst (F.qs.map V.ref))) (_:lr≠x.co.ln) (_:lr≠F.la) (_:Al N F 1 0 x) (_:x.co.na<=0) (_:pt F x<=F.T) (_:F.T<=500) (_:many (x.rus.map Rr.a)<=600)
 (_:∀(t:Nat) (y:Ca),t<=tt->Gl F x y->Al N F (t+1) 0 y->((∃u ∈ y.rus,u.a=[])->t+pt F y<=F.T)->(y.co.l=0\/t=tt)->Q (if y.co.l=0 then .int t else .non) y.H)
def IT (N:Cn) (fD la:Addr) (fx:Fx):Sp:=GZ N fD la fx
def EQ:aK ["self","runners","ticks","tick","runner"] ["self","runners","ticks"] (aG EV):={rfl,rfl,rfl,⋯,rfl,⋯,⋯}
def FI {fD la:Addr} {fx:Fx} (hD:Aw P w K mg base fD la fx) (W:Wd P w K mg base N c):eG P w K mg base cY N.CC "go" 10 (IT N fD la fx):=W.d67.of λF=>by
 refine F.ok EQ (λvs H Q E h=>?_) (λae A aa s H vs Q E hr h=>?_)
 ·let (F,C,J,x,rfl,_):=h
  rfl
 ·intro X D
  let (Fc,C,J,x,rfl,rfl,ef,el,ex,S,a0,Y,al,a7,ad,Tb,mb,k):=h
  let nd:=EQ.nd
  let af:=W.Q.cl
  let nL:=W.Q.nL
  refine Wp.ex ?_
  show 3
  refine oP v4 (λm σ G=>∃(t:Nat) (y:Ca) (o:Option V),m=J-t/\σ=[some (.ref Fc.p),some (.ref C),some (.int J),some (.int t),o]/\G=y.H/\t<=J/\Gl Fc x y/\Al N Fc (t+1) 0 y/\y.co.na<=t/\((∃u ∈ y.rus,u.a=[])->t+pt Fc y<=Fc.T)) _ {0,x,none,rfl,rfl,rfl,i8 _,Gl.nil,(show (((0:Nat):Int)+1)=1 from rfl) ▸ al,a7,λ_=>by show ((0:Nat):Int)+_<=_;omega} λm σ G h=>?_
  let (t,y,o,rfl,rfl,rfl,ht,U,I,na,a4):=h
  let hp:=I.hp
  let l0:0<=y.co.l:=by
   have:=I.tt.up y.s.ns I.go.iv.hd.nd λv L=>by
    let (e,he,Z,h2):=(I.go.iv.nx v).mp L;have:=I.go.iv.lm e he;exact(I.go.iv.cv v).mpr {e,he,Z,∎}
   have:=I.tot;omega
  by_cases c1:0<y.co.l/\t<J
  ·refine .inl {?_,λD' Tn=>?_}
   ·apply Tv.is;apply kF;symm;intro _;symm;rw [decide_eq_true c1.1,decide_eq_true ∎];rfl
   ·refine Xd (n:=3) rfl (by symm) nd rfl (j0 rfl) (.inr rfl) ?_;let a1:C ∉ Fc.qs:=λz=>by
     let (j,hj,ej):=r9 z;let a6:j<x.rus.length:=by rw [al.ln];exact hj
     let (_,Z,_):=al.rn j C _ (by rw [<- ej];exact c8 hj) (c8 a6)
     rw [S] at Z;cases Z
    let a5:C≠Fc.p:=aI S al.hp (by intro z;cases z);let a3:y.H C=some (.lst (Fc.qs.map V.ref)):=U.kr _ _ S rfl a5 a0 Y a1;let ac:C≠y.co.ln:=by rw [U.ln];exact a0
    refine {_,aH (eD v4 rfl (jU (pv 1)) (aO (i:=4) nd rfl (j0 rfl)) (aH (cF (bD (pv 0) W.Q.cl (Sa hD W) hr aQ (aA (pv 4) (aA (pv 3) aF)))))),?_};refine {_,rfl,C,rfl,{_,cZ.of a3},lR (xs:=Fc.qs.map V.ref) (λn σ G=>∃(z:Ca) (o:Option V),σ=[some (.ref Fc.p),some (.ref C),some (.int J),some (.int ((t:Int)+1)),o]/\G=z.H/\Gl Fc y z/\Al N Fc (t+1) n z/\Tp Fc (t+1) n y.co.l (pt Fc y) z) {y,o,rfl,rfl,Gl.nil,I,Tp.init ∎} (λn σ G _ h=>?_) (λn v σ G L h=>?_) (λσ G h=>?_)}
    ·let (z,_,rfl,rfl,M,_):=h;exact cZ.of (M.kr _ _ a3 rfl a5 ac Y a1)
    ·let (z,o',rfl,rfl,M,f,tz):=h;obtain⟨q,O,rfl⟩:∃q,Fc.qs[n]?=some q/\v=.ref q:=by
      rw [i7] at L;cases O:Fc.qs[n]? with
      | none=>rw [O] at L;cases L
      | some q=>rw [O] at L;cases L;exact {(q),rfl,rfl}
     let nl:n<Fc.qs.length:=(c9.mp O).1;let hn:n<z.rus.length:=by rw [f.ln];exact nl
     let r:=c8 hn;let (dq,cs,wk):=f.cs O r;let a2:=f.ok n _ r;rw [if_neg (v8 _)] at a2;let dn:=f.dn (by rw [M.as,U.as];exact mb);let yl:=f.yl;refine {_,rfl,Fc.p,Fc.dc,_,rfl,f.hp,rfl,_,rfl,_,rfl,?_};refine {xJ Fc q dq,Ac z z.rus[n],(t:Int)+1,z.rus[n].a,z.rus[n].v,rfl,rfl,ef,el,ex,cs,by show (z.ys.length:Int)+2 * z.co.l<=3990;omega,by show z.co.dn+z.co.l<=3000;omega,∎,a2,wk,λy' v' g=>?_};exact {rE z n z.rus[n] v' y',_,rfl,rfl,M.trans (g.gl r (g6 O)),f.step O r cs wk g,tz.step c1.1 f r g}
    ·let (z,o',rfl,rfl,M,f,tz):=h;rw [f8] at f tz;let an:=f.next;let nz:=f.na;refine Tn.nx _ _ {J-(t+1),∎,t+1,z,o',rfl,rfl,rfl,∎,U.trans M,by rw [Int.natCast_add];exact an,by rw [Int.natCast_add];exact nz,λ⟨u,hu,ea⟩=>?_};let Z:=tz.fin (by rw [f.ln];exact d7 _) {(u),hu,ea}
     let ha:[] ∈ y.rus.map Rr.a:=by rw [<- M.as,<- ea];exact P1 hu
     let (u',a8,a9):=p9.mp ha;let h2:=a4 {(u'),a8,a9};omega
  ·refine .inr {?_,?_}
   ·by_cases c2:0<y.co.l
    ·apply Tv.is;apply kF;symm;intro _;symm;rw [decide_eq_false (show ¬ (t:Int)<J by omega),M0]
    ·apply Tv.is;apply kF (d:=false);symm;intro z;exact absurd (show 0<y.co.l from of_decide_eq_true z) c2;rw [M0]
   ·refine fV {_,Kj eF aR aR,Tv.to (b:=decide (V.int y.co.l=.int 0)) (by symm) _ ?_};let B:=k t y ht U I a4 ∎;by_cases z:y.co.l=0
    ·rw [if_pos z] at B;exact eU (decide_eq_true (by rw [z])) (Vl.to (v:=.int t) (by symm) _ B)
    ·rw [if_neg z] at B;exact gA (decide_eq_false λq=>z (V.int.inj q)) (Vl.to (v:=.non) (by symm) _ B)
inductive Om (vs:List V) (H:Hp) (Q:VK) (E0_:XK):Prop|mk (t:Int) (_:vs=[.int t]) (_:0<=t) (_:t<=5000) (_:Q .non H)
def Qc:Sp:=Om
def Qu:aK ["ticks"] ["ticks"] (aG Ix):={rfl,rfl,rfl,⋯,rfl,⋯,⋯}
def Kw (W:Wd P w K mg base N c):jJ P w K mg base cY "check_ticks" 2 Qc:=W.d21.of λF=>by
 refine F.ok Qu (λe H Q E h=>?_) (λb A a s H e Q E f h=>?_)
 ·let (t,rfl,_):=h
  rfl
 ·intro X D
  let (t,rfl,g,d,q):=h
  refine {_,aH (bP (PW.pt (gE (bZ (bX (aV (dB W) f aQ (aA (pv 0) aF)))) (eQ (bZ (iT fP fP aY (pv 0) aY))))) cQ aZ),?_}
  refine {_,rfl,_,rfl,.kn (.int _),_,rfl,bY ?_}
  refine {_,rfl,_,_,rfl,rfl,_,rfl,eU (decide_eq_true g) {_,_,rfl,rfl,_,rfl,gA ?_ q}}
  rw [decide_eq_true d]
  rfl
end
end Ls
namespace L2
open PySem PySem.Spec PyProof.Rows PySem.W
theorem sM:∀{ns:List Int} {us:List Value},bG (ns.map V.int) us->∃a:List (Int × Tok),us=a.map (λp=>Value.int p.1 p.2)/\a.map (λp=>p.1)=ns
 | [],_,.nil=>{[],rfl,rfl}
 | n::ns,_,.cons {(t),e} r=>by
  let (a,d,b):=sM r
  refine {(n,t)::a,?_,?_}
  ·rw [k7,<- d,e]
  ·rw [k7,b]
theorem Ck (xs:List (Int × Tok)):∀k,k<=xs.length->preSum (numAt xs.toArray) k=((xs.take k).map (λp=>p.1)).sum
 | 0,_=>rfl
 | k+1,h=>by
  let i:=Ck xs k ∎
  show preSum (numAt xs.toArray) k+numAt xs.toArray k=_
  rw [i,A2,c8 ∎,m9,List.sum_append]
  congr 1
  have:numAt xs.toArray k=(xs[k]'∎).1:=by
   unfold numAt;simp [show k<xs.length by omega]
  rw [this];simp
section
variable {X:Cx}
def qH (l:X.calm=true):gC X (.builtin "sum") (λb H Q=>∃(a:Addr) (ns:List Int),b=[.ref a]/\cZ X.K H a (ns.map V.int)/\Q (.int ns.sum) H):=by
 intro f s σ H b v Q I r h;let (a,ns,rfl,n,q):=h;let (u,rfl,k):=iL r;cases k;let (d,m,j,x):=I.list n;let (b,o,i):=sM m;let p:s.heap.IsList a (intItems b.toArray):=by
  let e:intItems b.toArray=d.toArray:=by
   rw [o];unfold intItems;simp
  rw [e];exact j.isList
 refine sum_intListG (I.ok.hd l) p λz t y g=>{.int _,H,I.kept g,{_,rfl},?_};let e:preSum (numAt b.toArray) b.toArray.size=ns.sum:=by
  rw [j6,Ck b b.length (d7 _),N8,i]
 rw [e];exact q
end
end L2
namespace Ls
open PySem L2 PySem.W
def gL (a:Lm.Ps):Int:=(a.map λq=>q.2-q.1).sum
inductive Uo (vs:List V) (H:Hp) (Q:VK) (E0_:XK):Prop|mk (p:Addr) (a:Lm.Ps) (_:vs=[.ref p]) (_:bS H p a) (_:Lm.Wk a) (_:a.length<=1000) (_:∀H',aN H H'->Q (.int (gL a)) H')
def Ya:Sp:=Uo
def qJ:bootBuiltins "sum"=some (.builtin "sum"):=⋯
def FN:(["low","high"]:List Str).Nodup:=⋯
section
variable {P:Program} {w:World} {K:Frag} {mg:Str->Option Value} {base:Heap} {N:Cn} {c:Nat->Addr}
def Yt:aK ["work"] ["work"] (aG Wa):={rfl,rfl,rfl,⋯,rfl,⋯,⋯}
def Sd (W:Wd P w K mg base N c):jJ P w K mg base cY "size_of" 5 Ya:=W.d17.of λF=>by
 refine F.ok Yt (λT H Q E h=>?_) (λY A u s H T Q E U h=>?_)
 ·let (p,a,rfl,_):=h
  rfl
 ·intro X D
  let (p,a,rfl,L,wa,la,t):=h
  refine {_,(aE (cF (aV (pM W) U aQ (aA (pv 0) aF))) (aH (bF (bB (qH rfl) (by rfl) W.G.sum qJ (aA (cS (NB:=["low","high"]) (n:=2) (js:=[]) (g:=wU K 2 (fG (cI 0) (fG (cI 1) wV))) (cl:=[]) rfl ⋯ ⋯ rfl (lW.all {(rfl),rfl,rfl,rfl}).2.2.2.1 (eR (pv 0)) (λC s H M J=>dY (n:=2) rfl (aX (aO (i:=0) FN rfl (j0 rfl) (.inr rfl)) (aX (aO (i:=1) FN rfl (j0 rfl) (.inr rfl)) dA))) (λC s H M J=>dL)
    (λC s H M J=>cE kP (pv 1) (pv 0))) aF))))),?_}
  have sl:sizeLine=16777216:=sizeLine_eq
  let (e,l,I):=id L
  have lx:e.length=a.length:=I.length
  refine {_,rfl,p,a,rfl,L,wa,la,?_}
  refine {_,rfl,p,rfl,{_,bN.of l},λj d=>?_}
  refine {λi m x B=>m=e.length-i/\i<=e.length/\x=((a.take i).map λq=>q.2-q.1).map V.int/\aN H B/\B j=some (.lst x),{_,rfl,i8 _,rfl,aJ d,aB},?_}
  rintro i m x B ⟨rfl,hi,rfl,f,r⟩
  refine {r,?_}
  by_cases k:i<e.length
  ·refine .inr {{e,_,bN.of (f _ _ l),c8 k},?_}
   rintro y S ⟨rfl,O⟩
   have Z:=O e (bN.of (f _ _ l))
   let (q,hq,b',rfl,v):=aM I Z
   refine {b',_,rfl,bN.of (f _ _ v),rfl,_,_,rfl,_,_,rfl,rfl,?_}
   refine {rfl,eB (cH ?_)}
   refine {_,rfl,_,rfl,_,_,rfl,rfl,r,by rw [f8,f8,l7];omega,_,?_,rfl,k,?_,λb o z=>?_,aB}
   ·omega
   ·rw [A2,hq]
    simp
   ·rw [aC (aD z d)]
    exact f _ _ z
  ·refine .inl {{e,bN.of (f _ _ l),∎},?_}
   have ei:a.take i=a:=o7 ∎
   rw [ei] at r
   exact⟨j,a.map λq:Int × Int=>q.2-q.1,rfl,cZ.of r,t _ f⟩
structure Pn where
 x:Str
 pc:Int
 q:Addr
 a:Lm.Ps
inductive Pf (H:Hp) (b:Addr) (z:Pn):Prop|mk (_:H b=some (.tup [.str z.x,.int z.pc,.ref z.q])) (_:eN z.x) (_:PyData.strOk z.x=true) (_:1<=z.pc) (_:z.pc<=1000) (_:bS H z.q z.a) (_:Lm.Wk z.a) (_:z.a.length<=1000)
inductive An (vs:List V) (H:Hp) (Q:VK) (E0_:XK):Prop|mk (b:Addr) (z:Pn) (_:vs=[.ref b]) (_:Pf H b z) (_:∀H',aN H H'->Q (.bl true) H')
def Ej:Sp:=An
def rX:aK ["thing","pace"] ["thing"] (aG vP):={rfl,rfl,rfl,⋯,rfl,⋯,⋯}
def zL (W:Wd P w K mg base N c):jJ P w K mg base cY "is_planned" 4 Ej:=W.d18.of λF=>by
 refine F.ok rX (λr H Q E h=>?_) (λo A l s H r Q E k h=>?_)
 ·let (b,z,rfl,_):=h
  rfl
 ·intro X D
  let (b,z,rfl,(a,u,C,B,m,p,n,t),q):=h
  refine {_,aE (bP (PW.pt (gE (bZ (bX (bB dE (by rfl) W.G.isi fI (aA (pv 0) (aA (gF (v:=.ty "tuple") (by rfl) W.G.tuple fM rfl) aF)))))
    (eQ (cN Cv (bB bU (by rfl) W.G.len PySem.boot_len (aA (pv 0) aF)) aY (bQ _))))) cQ aZ)
   (aE (dX (i:=1) rX.nd rfl (j0 rfl) (dN dJ (pv 0) aY (λ_ _=>rfl)))
   (aH (bF (eJ (aV (mY W) k aQ (aA (dN dJ (pv 0) aY (λ_ _=>rfl)) aF))
    (eJ (aV (dB W) k aQ (aA (pv 1) aF))
    (eJ (wC fP fP aY (pv 1) aY)
     (fL (aV (Cw W) k aQ (aA (dN dJ (pv 0) aY (λ_ _=>rfl)) aF))))))))),?_}
  let (f,g,e):=jE (K:=K) a
  refine {_,rfl,_,_,_,_,rfl,.ty "tuple",.inl {(f),g,e},_,rfl,bY ?_}
  refine {_,rfl,b,_,rfl,.inr (bN.of a),rfl,_,rfl,gA (by show (!decide (V.int ((3:Nat):Int)=V.int 3))=false;decide +kernel) ?_}
  refine {_,rfl,b,_,_,_,rfl,rfl,bN.of a,bV (j:=1) rfl,?_}
  refine {_,rfl,b,_,_,_,rfl,rfl,bN.of a,bV (j:=0) rfl,z.x,rfl,u,λy d=>{_,rfl,cH ?_}}
  refine {_,rfl,_,rfl,.kn (.int _),_,rfl,cH ?_}
  refine {_,rfl,_,_,rfl,rfl,_,rfl,eU (decide_eq_true B) {_,_,rfl,rfl,_,rfl,eU (decide_eq_true m) ?_}}
  exact {_,rfl,b,_,_,_,rfl,rfl,bN.of (d _ _ a),bV (j:=2) rfl,_,true,rfl,(p.same d).workV n t,q y d}
def iE (H:Hp) (v:V) (z:Pn):Prop:=∃b,v=.ref b/\Pf H b z
theorem Pf.same {H H':Hp} {b:Addr} {z:Pn} (e:aN H H') (h:Pf H b z):Pf H' b z:=by
 let (g,d,k,i,j,f,a,l):=h;exact {e _ _ g,d,k,i,j,f.same e,a,l}
inductive Us (vs:List V) (H:Hp) (Q:VK) (E0_:XK):Prop|mk (a:Addr) (xs:List V) (zs:List Pn) (_:vs=[.ref a]) (_:H a=some (.tup xs)) (_:xs.length<=900) (_:Paired (iE H) xs zs) (_:(zs.map Pn.x).Nodup) (_:∀H',aN H H'->Q .non H')
def Qf:Sp:=Us
def LJ:(["thing"]:List Str).Nodup:=⋯
def Fe:(["worker","pace","silences"]:List Str).Nodup:=⋯
def Ob:bootBuiltins "set"=some (.type "set"):=⋯
def vM:aK ["plan"] ["plan"] (aG pF):={rfl,rfl,rfl,⋯,rfl,⋯,⋯}
def uF (W:Wd P w K mg base N c):jJ P w K mg base cY "check_plan" 5 Qf:=W.d20.of λF=>by
 refine F.ok vM (λvs H Q E h=>?_) (λa4 A a1 s H vs Q E hr h=>?_)
 ·let (a,I,r,rfl,_):=h
  rfl
 ·intro X D
  let (a,I,r,rfl,k,hl,hp,nd,q):=h
  refine {_,aE (bP (PW.pt (gE (bZ (bX (bB dE (by rfl) W.G.isi fI (aA (pv 0) (aA (gF (v:=.ty "tuple") (by rfl) W.G.tuple fM rfl) aF)))))
    (eQ (bZ (bX (bB (qI rfl) (by rfl) W.G.all qK (aA (cS (NB:=["thing"]) (n:=1) (js:=[]) (g:=cI 0) (cl:=[]) rfl ⋯ ⋯ rfl (lW.all {(rfl),rfl,rfl,rfl}).2.2.2.1 (eR (pv 0)) (λC s H T O=>aO (i:=0) LJ rfl (j0 rfl) (.inr rfl)) (λC s H T O=>dL)
     (λC s H T O=>aV (zL W) (by exact hr) aQ (aA (pv 0) aF))) aF))))))) cQ aZ)
   (aH (bP (cN iF (bB Gu (by rfl) W.G.len PySem.boot_len (aA (dW (Gm rfl) (by rfl) W.G.set Ob (aA
     (cS (NB:=["worker","pace","silences"]) (n:=3) (js:=[]) (g:=wU K 3 (fG (cI 0) (fG (cI 1) (fG (cI 2) wV)))) (cl:=[]) rfl ⋯ ⋯ rfl (lW.all {(rfl),rfl,rfl,rfl}).2.2.2.1 (eR (pv 0))
      (λC s H T O=>dY (n:=3) rfl (aX (aO (i:=0) Fe rfl (j0 rfl) (.inr rfl)) (aX (aO (i:=1) Fe rfl (j0 rfl) (.inr rfl)) (aX (aO (i:=2) Fe rfl (j0 rfl) (.inr rfl)) dA)))) (λC s H T O=>dL)
      (λC s H T O=>pv 0)) aF)) aF)) (bB bU (by rfl) W.G.len PySem.boot_len (aA (pv 0) aF)) (bQ _)) cQ aZ)),?_}
  let sl:sizeLine=16777216:=sizeLine_eq
  let lz:I.length=r.length:=hp.length
  let (ty,a2,e):=jE (K:=K) k
  refine {_,rfl,_,_,_,_,rfl,.ty "tuple",.inl {(ty),a2,e},_,rfl,bY ?_}
  refine {_,rfl,a,rfl,{_,bN.of k},λS u=>?_}
  refine {λi m L Z=>m=I.length-i/\i<=I.length/\L=(List.replicate i true).map V.bl/\aN H Z/\Z S=some (.lst L),{_,rfl,i8 _,rfl,aJ u,aB},?_}
  rintro i m L Z ⟨rfl,hi,rfl,J,hA⟩
  refine {hA,?_}
  by_cases U:i<I.length
  ·refine .inr {{_,_,bN.of (J _ _ k),c8 U},?_}
   rintro y a3 ⟨rfl,hy⟩
   let ey:=hy _ (bN.of (J _ _ k))
   let (z,ez,b,rfl,hb):=aM hp ey
   refine lP {rfl,eB (cH ?_)}
   refine {_,rfl,b,z,rfl,hb.same J,λY s2=>?_}
   refine {s2 _ _ hA,by rw [f8,A9];omega,_,?_,rfl,U,by rw [O6,m9];rfl,λb ob z=>?_,aB}
   ·omega
   ·rw [aC (aD z u)]
    exact s2 _ _ (J _ _ z)
  ·refine .inl {{_,bN.of (J _ _ k),∎},?_}
   refine {S,_,rfl,cZ.of hA,_,rfl,?_}
   let e2:(List.replicate i true).all id=true:=by rw [List.all_replicate];split <;> rfl
   rw [e2]
   refine bY ?_
   refine {_,rfl,a,rfl,{_,bN.of (J _ _ k)},λB f=>?_}
   refine {λj m L Y=>m=I.length-j/\j<=I.length/\L=((r.map Pn.x).take j).map V.str/\aN Z Y/\Y B=some (.lst L),{_,rfl,i8 _,rfl,aJ f,aB},?_}
   rintro j m2 L Y ⟨rfl,hj,rfl,M,l⟩
   refine {l,?_}
   let d:=J.trans M
   by_cases p:j<I.length
   ·refine .inr {{_,_,bN.of (d _ _ k),c8 p},?_}
    rintro y H3 ⟨rfl,hy⟩
    let ey:=hy _ (bN.of (d _ _ k))
    let (z,ez,b,rfl,eb,_):=aM hp ey
    refine {b,_,rfl,bN.of (d _ _ eb),rfl,_,_,rfl,_,_,rfl,_,_,rfl,rfl,?_}
    refine {rfl,eB (cH ?_)}
    refine {_,rfl,l,by rw [f8,l7];omega,_,?_,rfl,p,?_,λb ob z=>?_,aB}
    ·omega
    ·rw [A2,i7,ez]
     simp
    ·rw [aC (aD z f)]
     exact M _ _ z
   ·refine .inl {{_,bN.of (d _ _ k),∎},?_}
    let ej:(r.map Pn.x).take j=r.map Pn.x:=o7 (by rw [f8];omega)
    rw [ej] at l
    refine {B,r.map Pn.x,rfl,l,by rw [f8];omega,λt m nt le a0=>?_}
    let em:m=r.length:=by rw [a0.mpr nd,f8]
    subst em
    refine {t,_,rfl,aB,∎,?_}
    let s4:=d.trans (aJ (o:=Qr X t r.length) nt)
    refine {_,rfl,a,_,rfl,.inr (bN.of (s4 _ _ k)),_,_,rfl,rfl,_,rfl,gA (decide_eq_false ∎) (q _ s4)}
end
end Ls
namespace L2
open PySem PySem.Spec PyProof.Rows PySem.W
def bM.exS {ι:Type} {P:Program} {w:World} {K:Frag} {mg:Str->Option Value} {base:Heap} {CX:nG} {k:Nat} {f:Addr} {d:FuncData} {ps:List Str} {sp:ι->Sp} (F:∀i,bM P w K mg base CX k f d ps (sp i)):bM P w K mg base CX k f d ps (λc H Q E=>∃i,sp i c H Q E):=
 {λc H Q E ⟨i,q⟩=>(F i).len c H Q E q,λA a s H b e c Q E l j g h ⟨i,hs⟩=>(F i).run A a s H b e c Q E l j g h hs}
end L2
namespace Lm
def Ib {p:Int × Int} {t:Ps} (h:Sh (p::t)):¬ mem (p::t) p.2:=by
 intro z;rcases mem_cons.mp z with z|z
 ·omega
 ·let (q,a,b,_):=z;have:=h.2.1 q a;omega
def Bp {p:Int × Int} {t:Ps} (h:Sh (p::t)) {x:Int}:mem t x↔mem (p::t) x/\p.2<=x:=by
 constructor
 ·intro z;exact {mem_cons.mpr (.inr z),Ma (λq a=>x8 (h.2.1 q a)) z}
 ·rintro⟨z,w⟩;rcases mem_cons.mp z with z|z
  ·omega
  ·exact z
theorem sh_same:∀{s t:Ps},Sh s->Sh t->(∀x,mem s x↔mem t x)->s=t
 | [],[],_,_,_=>rfl
 | [],q::t,_,ht,e=>by
  have:=(e q.1).mpr (mem_cons.mpr (.inl {g9 _,ht.1}))
  exact(Dh.mp this).elim
 | p::s,[],hs,_,e=>by
  have:=(e p.1).mp (mem_cons.mpr (.inl {g9 _,hs.1}))
  exact(Dh.mp this).elim
 | p::s,q::t,hs,ht,e=>by
  let b:q.1<=p.1:=vI ht ((e p.1).mp (mem_cons.mpr (.inl {g9 _,hs.1})))
  let d:p.1<=q.1:=vI hs ((e q.1).mpr (mem_cons.mpr (.inl {g9 _,ht.1})))
  let f:¬ p.2<q.2:=λz=>Ib hs ((e p.2).mpr (mem_cons.mpr (.inl ⟨by have:=hs.1;omega,z⟩)))
  let c:¬ q.2<p.2:=λz=>Ib ht ((e q.2).mp (mem_cons.mpr (.inl ⟨by have:=ht.1;omega,z⟩)))
  let a:p=q:=by
   apply Prod.ext
   ·omega
   ·omega
  subst a;have:s=t:=sh_same hs.2.2 ht.2.2 λx=>by rw [Bp hs,Bp ht,e x]
  rw [this]
end Lm
namespace Ls
open PySem L2 PySem.W
def kA (ds:Lm.Ps):List Int:=ds.flatMap λq=>fQ q.1 (q.2-q.1).toNat
def fE {b:Lm.Ps} {x:Int}:x ∈ kA b↔Lm.mem b x:=by
 unfold kA Lm.mem;rw [List.mem_flatMap];constructor
 ·rintro⟨q,a,h⟩;have:=dP.mp h;exact {q,a,∎,∎}
 ·rintro⟨q,a,c,d⟩;exact {q,a,dP.mpr {c,∎}}
def Pw (m:Int) (n:Nat):(fQ m n).Pairwise (·<·):=List.Pairwise.map _ (λa b (z:a<b)=>∎) List.pairwise_lt_range
theorem uJ:∀{a:Lm.Ps},Lm.Wk a->(kA a).Pairwise (·<·)
 | [],_=>G6
 | q::a,w=>by
  let e:kA (q::a)=fQ q.1 (q.2-q.1).toNat++kA a:=by unfold kA;rw [List.flatMap_cons]
  rw [e,C4]
  refine {Pw _ _,uJ w.2.2,λx c y b=>?_}
  let g:=dP.mp c
  let (r,d,f,h):=fE.mp b
  have:=w.2.1 r d
  have:=w.1
  omega
def pP {l:List Int} (h:l.Pairwise (·<·)):l.Nodup:=h.imp λz e=>by subst e;exact absurd z (Q4 _)
def Yp (N:Cn):Sp:=λvs H Q E=>∃vf,Vt N.CB N.CS (λvs H Q _=>Hy vf N.CS vs H Q E0) vs H Q E
def Lk {P:Program} {w:World} {K:Frag} {mg:Str->Option Value} {base:Heap} {N:Cn} {c:Nat->Addr} (W:Wd P w K mg base N c):eG P w K mg base cY N.CB "all_results" 8 (Yp N):=W.d52.of λF=>bM.exS λa=>Sn F (sp':=Hy a N.CS) (AF a W) W
theorem kY.far {ps:List (Int × Int)} (r:kY ps):∀(d k:Nat) (l h a h':Int),ps[k]?=some (l,h)->ps[k+1+d]?=some (a,h')->h<=a
 | 0,k,l,h,a,h',e1,e2=>r.up k l h a h' e1 e2
 | d+1,k,l,h,a,h',e1,e2=>by
  let c:k+1+d<ps.length:=by
   have:=(c9.mp e2).1;omega
  let b:ps[k+1+d]?=some ps[k+1+d]:=c8 c;let f:=r.far d k l h _ _ e1 b;let e:=r.lt _ _ _ b;let g:=r.up (k+1+d) _ _ a h' b e2;omega
theorem tR:∀{ps:Lm.Ps},kY ps->Lm.Wk ps
 | [],_=>trivial
 | p::t,r=>by
  refine {r.lt 0 p.1 p.2 rfl,λq f=>?_,tR (ps:=t) ⟨λk l h z=>r.lt (k+1) l h z,λk l h b g a e=>r.up (k+1) l h b g a e,λk l h z=>r.lo (k+1) l h z,by have:=r.few;rw [j4] at this;omega⟩}
  let (d,c,rfl):=r9 f
  refine r.far d 0 p.1 p.2 t[d].1 t[d].2 rfl ?_
  rw [show 0+1+d=d+1 by omega]
  show t[d]?=_
  rw [c8 c]
def Bf {H:Hp} {T:Addr} {pos:Pos} {q:Str} (h:H T=some (.tbl #[])):gD H T pos q:={#[],h,trivial,.inl rfl}
def uH {C:Addr} {H:Hp} {b c:Addr} (f:H b=none) (d:H c=none):aN H (aS (aS H c (.own b)) b (.ins C c [])):=λa o e=>by
 rw [aC (aD e f),aC (aD e d)]
 exact e
theorem dI:∀{l m:List Int},l.Nodup->(∀x ∈ l,x ∈ m)->l.length<=m.length
 | [],m,_,_=>i8 _
 | x::l,m,nd,h=>by
  let (d,c):=x9.mp nd
  have b:=h x (g8 ..)
  have:=dI (l:=l) (m:=m.erase x) c λy a=>(List.mem_erase_of_ne λz=>d (by rw [<- z];exact a)).mpr (h y (d0 _ a))
  rw [List.length_erase_of_mem b] at this
  have:0<m.length:=List.length_pos_of_mem b
  rw [j4]
  omega
theorem uI:∀{a:Lm.Ps},(∀q ∈ a,q.2-q.1<=30)->(kA a).length<=30 * a.length
 | [],_=>by decide
 | q::a,h=>by
  let e:kA (q::a)=fQ q.1 (q.2-q.1).toNat++kA a:=by unfold kA;rw [List.flatMap_cons]
  let c:(fQ q.1 (q.2-q.1).toNat).length=(q.2-q.1).toNat:=by unfold fQ;rw [f8,x6]
  let f:=h q (g8 ..)
  let d:=uI (a:=a) λr b=>h r (d0 _ b)
  rw [e,i6,c,j4]
  omega
def CY {a d:Lm.Ps} (r:kY a) (sh:Lm.Sh d) (g:∀x,Lm.mem d x↔Lm.mem a x) (p:d.length<=a.length):Wg d:=by
 let i:=r.few;let b:∀q ∈ a,-1000000000000000000<q.1/\q.2<1000000000000000000/\q.2-q.1<=30:=λq c=>by
  let (k,o,e):=r9 c;exact r.lo k q.1 q.2 (by rw [c8 o,e])
 refine {sh,λx f=>?_,λl m h=>?_,∎}
 ·let (q,c,n,j):=(g x).mp f;have:=b q c;omega
 ·let n:=dI m λx f=>fE.mpr ((g x).mp (h x f));let j:=uI λq c=>(b q c).2.2;omega
theorem eX:∀{a:Lm.Ps} {k:Nat} {c:Pc},c ∈ uB k a->∃q ∈ a,c.l=q.1/\c.h=q.2/\c.m=q.1/\c.o=none/\(k:Int)<=c.n/\c.n<(k:Int)+a.length
 | [],_,c,h=>by cases h
 | q::a,k,c,h=>by
  rcases g7.mp h with rfl|h
  ·exact {q,g8 ..,rfl,rfl,rfl,rfl,g9 _,by show (k:Int)<k+((a.length+1:Nat):Int);omega}
  ·let (r,b,e,d,g,f,i,j):=eX h
   exact {r,d0 _ b,e,d,g,f,∎,by rw [j4];omega}
theorem Ks:∀{a:Lm.Ps} {k:Nat} {q:Int × Int},q ∈ a->∃c ∈ uB k a,c.l=q.1/\c.h=q.2
 | q'::a,k,q,h=>by
  rcases g7.mp h with rfl|h
  ·exact {_,g8 ..,rfl,rfl}
  ·let (c,b,e):=Ks (k:=k+1) h
   exact {c,d0 _ b,e}
theorem zD:∀{a:Lm.Ps} {k:Nat},Lm.Wk a->(uB k a).Pairwise (λc e=>c.h<=e.l\/e.h<=c.l)
 | [],_,_=>G6
 | q::a,k,w=>v6.mpr ⟨λc f=>by
   let (r,b,d,g,_):=eX f
   exact .inl (by rw [d];exact w.2.1 r b),zD w.2.2⟩
theorem Kt:∀{a:Lm.Ps} {k:Nat},((uB k a).map Pc.n).Nodup
 | [],_=>List.nodup_nil
 | q::a,k=>by
  refine x9.mpr {λz=>?_,Kt (a:=a) (k:=k+1)}
  let (c,b,e):=p9.mp z
  let (_,_,_,_,_,_,d,_):=eX b
  have e:c.n=(k:Int):=e
  omega
def vU (a:Lm.Ps):S8:=⟨a.length,0,0,uB 0 a,[],[],λ_=>0⟩
def AR {a m:Lm.Ps} {sp:Int} (w:Lm.Wk a) (p:a.length<=4) (o:∀x,Lm.mem m x↔Lm.mem a x):Iv m sp (vU a):=by
 refine {λc b=>?_,zD w,λx=>(o x).trans {?_,?_},λc b t e=>?_,?_,λx=>{(λz=>nomatch z),?_},Kt,λc b=>?_,{rfl,List.nodup_nil,by show 0<128;decide,(λx f=>nomatch f),(λx f=>nomatch f)},g9 _}
 ·let (q,d,i,h,s,_):=eX b;have:=Lm.Wk.lt w q d;omega
 ·rintro⟨q,d,i,h⟩;let (c,b,g,l):=Ks (k:=0) d;exact {c,b,∎,∎}
 ·rintro⟨c,b,i,h⟩;let (q,d,g,l,_):=eX b;exact {q,d,∎,∎}
 ·let (_,_,_,_,_,j,_):=eX b;rw [j] at e;cases e
 ·refine(zD w).imp_of_mem λ{x y} f _ _ t u g _=>?_;let (_,_,_,_,_,j,_):=eX f;rw [j] at g;cases g
 ·rintro⟨c,b,i,h⟩;let (q,d,g,l,r,_):=eX b;omega
 ·let (_,_,_,_,_,_,v,A):=eX b;exact { ∎,by show c.n<(a.length:Int);omega}
theorem sH:∀{a:Lm.Ps},Lm.Wk a->((kA a).length:Int)=gL a
 | [],_=>rfl
 | q::a,w=>by
  let e:kA (q::a)=fQ q.1 (q.2-q.1).toNat++kA a:=by unfold kA;rw [List.flatMap_cons]
  let b:(fQ q.1 (q.2-q.1).toNat).length=(q.2-q.1).toNat:=by unfold fQ;rw [f8,x6]
  let f:=w.1
  let d:=sH w.2.2
  let c:gL (q::a)=(q.2-q.1)+gL a:=by unfold gL;rw [k7,A6]
  rw [e,i6,b,c]
  omega
def xQ {a:Lm.Ps} {ns:List Int} (w:Lm.Wk a) (c:ns.Nodup) (sub:∀x ∈ ns,Lm.mem a x):(ns.length:Int)=gL a↔∀x,Lm.mem a x->x ∈ ns:=by
 let g:=sH w;constructor
 ·intro e x f;refine Classical.byContradiction λd=>?_;have:=dI (l:=x::ns) (m:=kA a) (x9.mpr {(d),c}) λy b=>fE.mpr ((g7.mp b).elim (λz=>z ▸ f) (sub y));rw [j4] at this;omega
 ·intro h;let j:=dI c λy b=>fE.mpr (sub y b);let i:=dI (pP (uJ w)) λy b=>h y (fE.mp b);omega
structure Nw (zs:List Pn) (k:Nat) (u:Rr):Prop where
 tk:u.r.tk=.non
 un:u.un=[]
 v:u.v=0
 ps:u.r.ps=0
 sl:u.r.sl=false
 a:∃z,zs[k]?=some z/\Lm.Sh u.a/\∀x,Lm.mem u.a x↔Lm.mem z.a x
inductive HR (N:Cn) (zs:List Pn) (H0:Hp) (acc:Addr) (i:Nat) (ys:List V) (H:Hp):Prop|mk (qs:List Addr) (rus:List Rr) (_:ys=qs.map V.ref) (_:qs.length=i) (_:rus.length=i) (_:aN H0 H) (_:∀q ∈ qs,H0 q=none) (_:∀(k l:Nat) q,qs[k]?=some q->qs[l]?=some q->k=l) (_:∀(k:Nat) q u,qs[k]?=some q->rus[k]?=some u->Gy N H q u/\Nw zs k u) (_:H acc=some (.lst ys))
def Gy.mv {N:Cn} {H H':Hp} {q:Addr} {u:Rr} (k:∀a o,H a=some o->(∀d,o≠.lst d)->H' a=some o) (h:Gy N H q u):Gy N H' q u:=by
 let (g,p,l,(d,i,j),m,f,e,n):=h;exact {g,k _ _ p (λ_ z=>nomatch z),k _ _ l (λ_ z=>nomatch z),{d,k _ _ i (λ_ z=>nomatch z),aL (λv q ⟨b,z1,z2⟩=>{b,z1,k _ _ z2 (λ_ z=>nomatch z)}) j},m,f,e,n}
def hH {α:Type} {l:List α} {x y:α} {k:Nat} (h:(l++[x])[k]?=some y):l[k]?=some y\/k=l.length/\y=x:=by
 by_cases z:k<l.length
 ·rw [p7 z] at h;exact .inl h
 ·rw [u8 ∎] at h;have:k-l.length<1:=(c9.mp h).1;let e:k=l.length:=∎;subst e;rw [Nat.sub_self] at h;exact .inr {rfl,(Option.some.inj h).symm}
def HR.snoc {N:Cn} {zs:List Pn} {y G H:Hp} {d f:Addr} {i:Nat} {B:List V} {u:Rr} (h:HR N zs y d i B G) (na:y d=none) (D:G f=none) (k:∀a o,G a=some o->H a=some o) (r:Gy N H f u) (t:Nw zs i u):HR N zs y d (i+1) (B++[.ref f]) (aS H d (.lst (B++[.ref f]))):=by
 let (v,s,rfl,I,S,J,X,M,F,T):=h;let E:∀a o,H a=some o->(∀Y,o≠.lst Y)->(aS H d (.lst (v.map V.ref++[.ref f]))) a=some o:=λa o e n=>by
  rw [aC (aI e (k _ _ T) (n _))];exact e
 let p:∀{j:Nat} {q:Addr},v[j]?=some q->q≠f:=λ{j q} m=>by
  let (dq,O,_):=(F j q _ m (c8 (by have:=(c9.mp m).1;omega))).1;exact aD O D
 refine {v++[f],s++[u],by rw [m9];rfl,by rw [i6,I];rfl,by rw [i6,S];rfl,λa o e=>?_,λq m=>?_,λj l q Z U=>?_,λj q W m A=>?_,aB}
 ·rw [aC (aD e na)];exact k _ _ (J _ _ e)
 ·rcases j1.mp m with z|z
  ·exact X q z
  ·rw [l9.mp z];exact J.free D
 ·rcases hH Z with a|⟨a,b⟩ <;> rcases hH U with g|⟨g,C⟩
  ·exact M j l q a g
  ·exact absurd C (p a)
  ·exact absurd b (p g)
  ·omega
 ·rcases hH m with a|⟨a,b⟩ <;> rcases hH A with g|⟨g,C⟩
  ·let (L,Q):=F j q W a g;exact {(L.mv λx o e _=>k x o e).mv E,Q}
  ·have:=(c9.mp a).1;omega
  ·have:=(c9.mp g).1;omega
  ·subst b C;exact {r.mv E,by rw [a,I];exact t}
def IX {l:List Rr} (h:∀u ∈ l,u.v=0):sV l=0:=by
 induction l with
 | nil=>rfl
 | cons u l ih=>
  unfold sV at ih ⊢;rw [k7,A6,h u (g8 ..),ih λw a=>h w (d0 _ a)];rfl
def IW {l:List Rr} (h:∀u ∈ l,0<=u.v):0<=sV l:=by
 induction l with
 | nil=>exact g9 _
 | cons u l ih=>
  unfold sV at ih ⊢;rw [k7,A6];exact Int.add_nonneg (h u (g8 ..)) (ih λw a=>h w (d0 _ a))
def Ua {a:Lm.Ps} {n:Nat}:cnt a n<=a.length:=by
 unfold cnt;exact Int.ofNat_le.mpr (n8 (J8 _ _) (by rw [l7];omega))
def Di {l:List Lm.Ps} (h:∀a ∈ l,a.length<=3):many l<=3 * l.length:=by
 induction l with
 | nil=>exact g9 _
 | cons a l ih=>
  let i:=Ua (a:=a) (n:=a.length);let f:=h a (g8 ..);let g:=ih λb d=>h b (d0 _ d);let e:many (a::l)=cnt a a.length+many l:=by unfold many;rw [k7,A6]
  rw [e,j4];omega
def DP {a ws:Lm.Ps} (w:Lm.Wk a) (d:∀x,Lm.mem ws x↔Lm.mem a x):Tt ws (gL a):=by
 let k:=sH w;refine {λl e h=>?_,λl h=>?_}
 ·have:=dI e λx b=>fE.mpr ((d x).mp (h x b));omega
 ·have:=dI (pP (uJ w)) λx b=>h x ((d x).mpr (fE.mp b));omega
structure Ro where
 r:Addr
 r1:Addr
 ln:Addr
 xs:List V
 zs:List V
 ds:Lm.Ps
 s:S8
 l:Int
 dn:Int
 ov:Int
 t:Nat
 e:Int
structure Ec (sp ev:Int) (a:Lm.Ps) (la:Addr) (as:List Lm.Ps) (tt:Nat) (H:Hp) (o:Ro):Prop where
 hr:H o.r=some (.tup [if o.l=0 then .int o.t else .non,.int o.dn,.int o.ov,.ref o.r1,.ref o.ln])
 h1:H o.r1=some (.lst o.xs)
 it:Paired (mW o.s.vf H) o.xs o.ds
 sh:Lm.Sh o.ds
 mm:∀x,Lm.mem o.ds x↔x ∈ o.s.ns
 nd:o.s.ns.Nodup
 sub:∀y ∈ o.s.ns,Lm.mem a y
 rv:∀y ∈ o.s.ns,o.s.vf y=iI y
 hz:H la=some (.lst o.zs)
 zl:(o.zs.length:Int)=o.dn
 tot:o.l+o.s.ns.length=gL a
 l0:0<=o.l
 ez:0<=o.e
 e0:o.e<=many as
 dl:o.dn+o.l<=gL a+ev * o.e
 de:o.e=0->o.dn+o.l=gL a
 ov:o.ov<=o.e
 tm:[] ∈ as->o.t+o.l<=gL a+sp * o.e
 en:o.l=0\/o.t=tt
def Kk (la:Addr) (H H':Hp):Prop:=∀a o,H a=some o->Ki o=true->a≠la->H' a=some o
inductive BR (N:Cn) (fD la:Addr) (fx:Fx) (vs:List V) (H:Hp) (Q:VK) (E0_:XK):Prop|mk (q pl:Addr) (a:Lm.Ps) (sp ev le:Int) (xs:List V) (zs:List Pn) (tt:Nat) (_:vs=[.ref q,.int sp,.int ev,.int le,.ref pl,.ref fD,.int tt]) (_:bS H q a) (_:kY a) (_:1<=sp) (_:1<=ev) (_:ev<=4) (_:ev<=le) (_:H pl=some (.tup xs)) (_:Paired (iE H) xs zs) (_:(zs.map Pn.x).Nodup) (_:xs.length<=12) (_:∀z ∈ zs,z.a.length<=3) (_:tt<=5000) (_:gD H N.T1 kB fF) (_:gD H N.T2 uC fO) (_:xW fx H) (_:H la=some (.lst []))
 (_:∀(as:List Lm.Ps) (o:Ro) (H':Hp),as.length=zs.length->(∀(k:Nat) b,as[k]?=some b->∃z,zs[k]?=some z/\Lm.Sh b/\∀x,Lm.mem b x↔Lm.mem z.a x)->Kk la H H'->gD H' N.T1 kB fF->gD H' N.T2 uC fO->Ec sp ev a la as tt H' o->Q (.ref o.r) H')
def Vu (N:Cn) (fD la:Addr) (fx:Fx):Sp:=BR N fD la fx
inductive Up (P:Program) (w:World) (K:Frag) (mg:Str->Option Value) (base:Heap) (N:Cn) (vs:List V) (H:Hp) (Q:VK) (E:XK):Prop|mk (fD la:Addr) (fx:Fx) (_:Aw P w K mg base fD la fx) (_:Vu N fD la fx vs H Q E)
def Ia {b z:Lm.Ps} (d:Lm.Sh b) (e:Lm.Wk z) (f:∀x,Lm.mem b x↔Lm.mem z x):b=Lm.merged z:=by
 let (a,g,_):=Lm.merged_ok e.lo;exact Lm.sh_same d a λx=>by rw [f x,g x]
section
variable {P:Program} {w:World} {K:Frag} {mg:Str->Option Value} {base:Heap} {N:Cn} {c:Nat->Addr}
def Vv:aK ["work","span","every","least","plan","doing","ticks","book","course","ended"] ["work","span","every","least","plan","doing","ticks"] (aG Zh):={rfl,rfl,rfl,⋯,rfl,⋯,⋯}
def Da {f:Addr} {fd:FuncData} (F:rH K "run" "run" Zh f fd) {fD la:Addr} {fx:Fx} (hD:Aw P w K mg base fD la fx) (nT:N.T1≠N.T2) (W:Wd P w K mg base N c):bM P w K mg base cY 11 f fd ["work","span","every","least","plan","doing","ticks"] (Vu N fD la fx):=by
 let (_,_,_,GI,bI,MK):=(Lj W).mk' W.iB 9;let (_,_,_,GC,bC,MC):=(Lr W).mk' W.iC 9;let (_,_,_,GR,bR,MR):=(La W).mk' W.iR 9;refine F.ok Vv (λvs H Q E h=>?_) (λbw A bp s H vs Q E hr h=>?_)
 ·let (q,pl,a,U,ev,le,Y,zs,tt,rfl,_):=h;rfl
 ·intro X D;let (q,pl,a,U,ev,le,Y,zs,tt,rfl,hw,M,b1,b2,b3,b4,a6,hp,bo,lx,l3,lt,ar,aq,bi,a5,k):=h;let nd:=Vv.nd;let sl:sizeLine=16777216:=sizeLine_eq;let bh:=M.few;let wk:=tR M;refine Wp.ex (cL (n:=7) nd rfl {_,lJ MK GI hr rfl W.B.mgC bI .nil aQ dD,Av.to (vs:=[.ref q,.int U,.int ev,.int le]) (by symm) _ λb dx nb b8 _=>?_});let s1:=uH (C:=N.CB) nb b8;let e1:(aS (aS H dx (.own b)) b (.ins N.CB dx [])) b=some (.ins N.CB dx []):=aB;generalize aS (aS H dx (.own b)) b (.ins N.CB dx [])=H1 at s1 e1 ⊢;refine {b,dx,q,a,U,ev,le,rfl,e1,hw.same s1,wk,∎,∎,∎,∎,∎,λsh a4 sd d ws ps H2 k2 _ _ bc S2 bl L b9 _ B2=>?_};refine {rfl,?_};let s2:aN H H2:=λx o e=>k2 x o (s1 _ _ e) (aD e nb);let g2:Go N {(U),ev,le,ws} H2 {(b),q,sh,d,a4,sd,ps} (vU a):={{B2,S2,ar.same s2,aq.same s2,bc.symm,nT},AR wk bh L,CY M bl L b9,by show 1<=le;omega,b2};let aj:Paired (iE H2) Y zs:=aL (λ_ _ ⟨y,e,z⟩=>{y,e,z.same s2}) hp;refine oB (eM (vs:=[.ref pl]) (uF W) hr aQ (by symm) {pl,Y,zs,rfl,s2 _ _ a6,∎,aj,bo,λH3 s3=>?_});refine oB (eM (vs:=[.int tt]) (Kw W) hr aQ (by symm) {tt,rfl,∎,∎,?_});let a1:=s2.trans s3;refine cL (n:=8) nd rfl {_,lJ MC GC hr rfl W.Q.mgC bC .nil aQ (aA (pv 7) (aA (pv 5) (aA (aV (Sd W) hr aQ (aA (pv 0) aF)) aF))),?_};refine {_,rfl,_,rfl,_,rfl,q,a,rfl,hw.same a1,wk,∎,λH4 s4=>?_};intro p O np bj _;let s5:=uH (C:=N.CC) np bj;let e5:(aS (aS H4 O (.own p)) p (.ins N.CC O [])) p=some (.ins N.CC O []):=aB;let n5:∀x,(aS (aS H4 O (.own p)) p (.ins N.CC O [])) x=none->H4 x=none:=λx=>s5.free;generalize aS (aS H4 O (.own p)) p (.ins N.CC O [])=H5 at s5 e5 n5 ⊢;refine {p,O,b,.ref fD,_,rfl,e5,λln H6 ac k6 an am=>{rfl,?_}};let br:aN H4 H6:=λx o e=>k6 _ _ (s5 _ _ e) (aD e np);let a8:aN H2 H6:=s3.trans (s4.trans br);let s6:aN H H6:=s2.trans a8;let b6:Paired (iE H6) Y zs:=aL (λ_ _ ⟨y,e,z⟩=>{y,e,z.same a8}) aj;refine cL (n:=9) nd rfl {_,bD (pv 8) W.Q.cl (FI hD W) hr aQ (aA (cS (NB:=["worker","pace","silences"]) (n:=3) (js:=[]) (g:=wU K 3 (fG (cI 0) (fG (cI 1) (fG (cI 2) wV)))) (cl:=[]) rfl ⋯ ⋯ rfl (lW.all {(rfl),rfl,rfl,rfl}).2.2.2.1 (eR (pv 4))
      (λC s H fp pn=>dY (n:=3) rfl (aX (aO (i:=0) Fe rfl (j0 rfl) (.inr rfl)) (aX (aO (i:=1) Fe rfl (j0 rfl) (.inr rfl)) (aX (aO (i:=2) Fe rfl (j0 rfl) (.inr rfl)) dA)))) (λC s H fp pn=>dL)
      (λC s H fp pn=>lJ MR GR (by exact hr) (by rfl) W.R.mgC bR .nil aQ (aA (pv 0) (aA (pv 1) (aA (pv 2) aF))))) (aA (pv 6) aF)),?_};refine {_,rfl,p,O,_,rfl,am,rfl,_,rfl,pl,rfl,{_,bN.of (s6 _ _ a6)},λak S=>?_};refine {λi m ys H'=>m=Y.length-i/\i<=Y.length/\HR N zs H6 ak i ys H',{_,rfl,i8 _,[],[],rfl,rfl,rfl,aJ S,(λ_ z=>nomatch z),(λ_ _ _ z=>nomatch z),(λ_ _ _ z=>nomatch z),aB},?_};rintro i m ys H7 ⟨rfl,hi,R⟩;let (qs,j,rfl,lq,lr,s7,fr,av,rn,a7):=id R;refine {a7,?_};let Z:=s7 _ _ (s6 _ _ a6);by_cases ag:i<Y.length
  ·refine .inr {{_,_,bN.of Z,c8 ag},?_};rintro y G ⟨rfl,hy⟩;let ey:=hy _ (bN.of Z);let (z,ez,t,rfl,et,wx,sx,p1,p2,hz,wz,lz):=aM b6 ey;refine {t,_,rfl,bN.of (s7 _ _ et),rfl,_,_,rfl,_,_,rfl,_,_,rfl,rfl,?_};refine {rfl,eB (cH ?_)};refine {_,rfl,_,rfl,_,rfl,λrp J a3 ae _=>?_};let s8:=uH (C:=N.CR) a3 ae;let e8:(aS (aS G J (.own rp)) rp (.ins N.CR J [])) rp=some (.ins N.CR J []):=aB;generalize aS (aS G J (.own rp)) rp (.ins N.CR J [])=H8 at s8 e8 ⊢;refine {rp,J,z.q,z.x,z.pc,z.a,rfl,e8,(hz.same s7).same s8,wz,lz,λb0 un bb H9 k9 ah bg aw az bt=>{rfl,?_}};let s9:∀x o,G x=some o->H9 x=some o:=λx o e=>k9 _ _ (s8 _ _ e) (aD e a3);refine {s9 _ _ a7,by rw [f8];omega,Y.length-(i+1),∎,rfl,ag,R.snoc (u:={{z.x,z.pc,b0,0,false,.non,0,0,un},[],bb,0}) S a3 s9 {J,bt,az,ah,p1,wx,sx,0,rfl} {(rfl),rfl,rfl,rfl,rfl,z,ez,bg,aw}}
  ·refine .inl {{_,bN.of Z,∎},?_};let ei:i=Y.length:=∎;subst ei;let ax:=s7 _ _ am;let b5:=a8.trans s7;let T:∀{k:Nat} {u:Rr},j[k]?=some u->Nw zs k u:=λ{k u} e=>by
    let hk:=(c9.mp e).1;exact(rn k _ u (c8 ∎) e).2
   let nm:∀{u:Rr},u ∈ j->∃k,Nw zs k u:=λ{u} I=>by
    let (k,hk):=j9.mp I;exact {k,T hk}
   let ao:=hp.length;let b7:∀b ∈ j.map Rr.a,b.length<=3:=λb hb=>by
    let (u,I,rfl):=p9.mp hb;let (k,nk):=nm I;let (z,hz,sb,mb):=nk.a;obtain⟨v,hv⟩:∃v,Y[k]?=some v:={Y[k]'(by have:=(c9.mp hz).1;omega),c8 _};let (z',ez,_,_,_,_,_,_,_,_,wz,_):=aM hp hv;rw [hz] at ez;cases ez;rw [Ia sb wz mb];exact n8 (Lm.merged_ok wz.lo).2.2 (l3 z (g6 hz))
   let bq:=Di b7;rw [f8] at bq;let tb:=DP wk L;let bu:0<=gL a/\gL a<=120:=by
    let h1:=sH wk;let h2:=uI (a:=a) λq hq=>by
     let (k,hk,e):=r9 hq;exact(M.lo k q.1 q.2 (by rw [c8 hk,e])).2.2
    omega
   let none:∀t,¬ Ol (vU a) t:=λt ⟨c,hc,eo⟩=>by
    let (_,_,_,_,_,e,_):=eX hc;rw [e] at eo;cases eo
   let a9:=Jp (l:=j);let m0:0<=ev * sE j:=P4 ∎ a9;let m1:0<=U * sE j:=P4 ∎ a9;let bz:=IX (l:=j) λu I=>(nm I).elim λ_ z=>z.v;let bd:H7 la=some (.lst []):=s7 _ _ (s6 _ _ a5);let bn:ln≠la:=λz=>by
    have:=(a1.trans s4) _ _ a5;rw [<- z,n5 _ ac] at this;cases this
   let al:Al N {{(U),ev,le,ws},fD,la,fx,gL a,p,O,qs} 1 0 {H7,{b,.ref fD,gL a,0,0,ln,0},{(b),q,sh,d,a4,sd,ps},vU a,[],[],[],[],j}:=
    {ax,rfl,rfl,s7 _ _ an,bd,bn,λy hy=>s7 _ _ (s6 _ _ (bi y hy)),rfl,g2.same b5,by show (0:Int)<=1;decide,O9 _,tb,b3,b4,b1,(λ_ z=>nomatch z),{List.nodup_nil,rfl,(λ_ z=>nomatch z),λt z=>absurd z (none t)},by rw [lr,lq],av,λk q u h1 h2=>(rn k q u h1 h2).1,λk l x y hx hy _ t et=>(by rw [(T hx).tk] at et;cases et),λk u h=>{.inl {(T h).tk,(T h).un},by rw [(T h).ps];decide,by rw [(T h).ps];omega,λz=>(by rw [(T h).sl] at z;cases z),by rw [(T h).v];decide,λz=>absurd (T h).un z,λt z _=>absurd z (none t),λz=>absurd (T h).un z},λt z=>absurd z (none t),by show ((0:Nat):Int)+2 * gL a<=2 * gL a;omega,by show 0+gL a<=gL a+ev * sE j;omega,λ_=>{by show 0+gL a=gL a;omega,λu I=>(nm I).elim λ_ z=>z.un},by show ((0:Nat):Int)<=_;exact a9,by show (0:Int)<=1;decide}
   refine {_,rfl,{{(U),ev,le,ws},fD,la,fx,gL a,p,O,qs},ak,tt,{H7,{b,.ref fD,gL a,0,0,ln,0},{(b),q,sh,d,a4,sd,ps},vU a,[],[],[],[],j},rfl,rfl,rfl,rfl,rfl,a7,(aD an S).symm,(aD (s6 _ _ a5) S).symm,al,g9 _,by show gL a+sV j-U * sE j<=gL a;omega,by show gL a<=500;omega,by show many (j.map Rr.a)<=600;omega,λt y ht gl ay tm en=>?_};let (c2,ea):=gl.ad;let eb:y.A.b=b:=by rw [ea]
   let c1:y.co.ln=ln:=gl.ln;let aa:y.rus.map Rr.a=j.map Rr.a:=gl.as;let (db,af):=ay.go.bv.bk.ob;let a2:=af;rw [eb] at a2;refine {_,aH (bF (cD (aA (pv 9) (aA (bA (pv 8) rfl) (aA (bA (pv 8) rfl) (aA (cR (pv 7) W.B.cl (Lk W) hr aQ) (aA (bA (pv 8) rfl) aF))))))),?_};refine {_,rfl,_,rfl,p,N.CC,O,_,_,rfl,ay.hp,W.Q.cl,W.Q.nN,rfl,_,rfl,p,N.CC,O,_,_,rfl,ay.hp,W.Q.cl,W.Q.nO,rfl,_,rfl,b,db,_,rfl,a2,rfl,y.s.vf,y.A.b,y.A.pw,y.A.sh,y.A.d,y.A.pw',y.A.d',U,ev,le,y.s.nn,y.s.nt,y.s.mo,ws,y.s.kv,by rw [eb];rfl,{(db),af},ay.go.bv.st,y.A.sh,y.A.pw',y.A.d',ws,y.s.kv,y.s.ns,rfl,ay.go.bv.st,ay.go.iv.hd,λr1 ds us H8 s8 _ ba au ap be _=>?_};refine {_,rfl,p,N.CC,O,_,_,rfl,s8 _ _ ay.hp,W.Q.cl,W.Q.nI,rfl,by show 5<=sizeLine;omega,λr nr=>?_};let s9:=aJ (o:=.tup [if y.co.l=0 then .int t else .non,.int y.co.dn,.int y.co.ov,.ref r1,.ref y.co.ln]) nr;let a0:=s8.trans s9;let bx:=IW (l:=y.rus) λu I=>by
    let (k,hk):=j9.mp I;exact(ay.ok k u hk).v0
   let l0:0<=y.co.l:=by
    have:=tb.up y.s.ns ay.go.iv.hd.nd λv hv=>by
     let (e,he,h1,h2):=(ay.go.iv.nx v).mp hv;have:=ay.go.iv.lm e he;exact(ay.go.iv.cv v).mpr {e,he,h1,∎}
    have:y.co.l+y.s.ns.length=gL a:=ay.tot;omega
   refine k (j.map Rr.a) {r,r1,y.co.ln,us,y.zs,ds,y.s,y.co.l,y.co.dn,y.co.ov,t,sE y.rus} _ (by rw [f8,lr,ao]) (λk b hb=>?_) (λx o e ki nx=>a0 _ _ (gl.kr x o (s7 _ _ (s6 _ _ e)) ki ?_ ?_ nx λz=>?_)) ((ay.go.bv.t1).same a0) ((ay.go.bv.t2).same a0) {aB,s9 _ _ ba,aL (λ_ _ ⟨b,c,e,h1,h2⟩=>{b,c,e,s9 _ _ h1,s9 _ _ h2}) au,ap,be,ay.go.iv.hd.nd,λy hy=>?_,ay.rv,a0 _ _ ay.hz,ay.zl,ay.tot,l0,Jp,by rw [<- aa];exact ay.many,ay.dl,λz=>(ay.de z).1,?_,λz=>?_,en}
   ·rw [i7] at hb;cases I:j[k]? with
    | none=>rw [I] at hb;cases hb
    | some u=>rw [I] at hb;cases hb;exact(T I).a
   ·exact aD ((a1.trans s4) _ _ e) np
   ·exact aD ((a1.trans s4) _ _ e) (n5 _ ac)
   ·have:=fr x z;rw [s6 _ _ e] at this;cases this
   ·let (c0,ai,h1,h2):=(ay.go.iv.nx y).mp hy;have:=ay.go.iv.lm c0 ai;exact(L y).mp ((ay.go.iv.cv y).mpr {c0,ai,h1,∎})
   ·let h1:=ay.oi.ln;let h2:=dI ay.oi.nd λt ht=>(ay.oi.mem t ht).2.1;let h3:=ay.Ln;show y.co.ov<=sE y.rus;omega
   ·rw [<- aa] at z;let (u,I,eu):=p9.mp z;let h:(t:Int)+(y.co.l+sV y.rus-U * sE y.rus)<=gL a:=tm {(u),I,eu};show (t:Int)+y.co.l<=gL a+U * sE y.rus;omega
def Zz (e:N.T1≠N.T2) (W:Wd P w K mg base N c):jJ P w K mg base cY "run" 11 (Up P w K mg base N):=W.d22.of λF=>{λd H Q E ⟨_,_,_,hD,q⟩=>(Da F hD e W).len d H Q E q,λA a s H b g d Q E h f j i ⟨_,_,_,hD,q⟩=>(Da F hD e W).run A a s H b g d Q E h f j i q}
abbrev dM:List Str:=["a","ab","b","abc","c","done","lent","none","z","zz","m","told"]
theorem Bb:∀{ps:Lm.Ps} {a l h:Int},Lm.Wk ps->(∀q ∈ ps,q.2<=a)->a<=l->l<h->Lm.Wk (ps++[(l,h)])
 | [],a,l,h,_,_,_,h2=>{h2,λq hq=>absurd hq (by simp),trivial}
 | p::t,a,l,h,w,hl,h1,h2=>by
  refine {w.1,λq hq=>?_,Bb w.2.2 (λq hq=>hl q (d0 _ hq)) h1 h2}
  rcases j1.mp hq with hq|hq
  ·exact w.2.1 q hq
  ·rw [l9] at hq
   subst hq
   have:=hl p g8
   exact v5 this h1
def cG.on {H H':Hp} {xs:List V} {ps:Lm.Ps} (k:∀b a,H b=some (.tup a)->H' b=some (.tup a)) (h:cG H xs ps):cG H' xs ps:=aL (λv q ⟨b,z1,z2⟩=>{b,z1,k _ _ z2}) h
theorem iE.on {H H':Hp} {v:V} {z:Pn} (k:∀b d,H b=some (.tup d)->H' b=some (.tup d)) (h:iE H v z):iE H' v z:=by
 let (b,e,p,j,n,i,g,(m,o,a),l,f):=h;exact {b,e,k _ _ p,j,n,i,g,{m,k _ _ o,a.on k},l,f}
def FA (x:Str) (a:x ∈ dM):eN x/\PyData.strOk x=true:=by
 let h:=F0.mp (show (dM.all λx=>(HY x && x.cps.all (·<128)) && PyData.strOk x)=true by decide +kernel) x a;rw [z8,z8] at h;exact {CW h.1.1 h.1.2,h.2}
inductive Pq (H0:Hp) (lx lf:Addr) (xs:List Int) (i:Nat) (H:Hp):Prop|mk (vs:List V) (zs:List Pn) (_:H lx=some (.lst (xs.map V.int))) (_:aN H0 H) (_:H lf=some (.lst vs)) (_:Paired (iE H) vs zs) (_:zs.map Pn.x=dM.take i) (_:zs.length=i) (_:∀z ∈ zs,z.a.length<=3)
inductive Oq (vs:List V) (H:Hp) (Q:VK) (E0_:XK):Prop|mk (c:Int) (_:vs=[.int c]) (_:∀(r:Addr) (xs:List V) (zs:List Pn) (H':Hp),aN H H'->H' r=some (.tup xs)->Paired (iE H') xs zs->(zs.map Pn.x).Nodup->xs.length<=12->(∀z ∈ zs,z.a.length<=3)->Q (.ref r) H')
def Qg:Sp:=Oq
def Ik:aK ["_law_cell","_law_xs","_law_found","_law_k","_law_low","_law_silences_here","_law_j","_law_high","_law_pace","_law_name"] ["_law_cell"] (aG We):={rfl,rfl,rfl,⋯,rfl,⋯,⋯}
def Se (W:Wd P w K mg base N c):jJ P w K mg base cY "_law_plan" 2 Qg:=W.d23.of λF=>by
 refine F.ok Ik (λvs H Q E h=>?_) (λan A ak s H vs Q E hr h=>?_)
 ·let (c,rfl,_):=h
  rfl
 ·intro X D
  let (c,rfl,q):=h
  let J:=Ik.nd
  refine Wp.ex (cL (n:=1) J rfl (eM (vs:=[.int c,.int 50]) (pL W) hr aQ (by symm) {c,50,rfl,by decide,λlx f H1 s1 hx ap hX=>?_}))
  let pn:∀k:Nat,(hk:k<50)->kX (f.map V.int) (k:Int)=some (.int (f[k]'∎)):=λk hk=>vZ ∎
  let p0:kX (f.map V.int) 0=some (.int f[0]):=pn 0 (by decide)
  refine mD (n:=2) J rfl lT (i8 _) λy H3 hf s3 ef=>?_
  let ag:lx≠y:=aD hX hf
  let Hf:H y=none:=s1.free hf
  let (z1,m1,e1):=qX (ns:=[1,2,3,4,2,0,3,12]) (i:=f[0] % 8) (y9 _ (by decide)) (y7 _ (by decide))
  let b1:0<=z1/\z1<=12:=(by decide:∀z ∈ ([1,2,3,4,2,0,3,12]:List Int),0<=z/\z<=12) z1 m1
  refine mC (n:=3) v4 W.G.range J rfl (eL (vs:=[.int 1,.int 2,.int 3,.int 4,.int 2,.int 0,.int 3,.int 12]) (by symm) (by show 8<=1000;decide) (λH' L=>?_) e1 λH4 s4=>{z1,λi σ H5=>(∃u3 u4 u5 u6 u7 Z u9,σ=[some (.int c),some (.ref lx),some (.ref y),u3,u4,u5,u6,u7,Z,u9])/\Pq H lx y f i H5,rfl,∎,{{_,_,_,_,_,_,_,rfl},[],[],s4 _ _ (s3 _ _ hX),s1.trans (s3.trans s4),s4 _ _ ef,.nil,rfl,rfl,(λ_ z=>nomatch z)},λi σ H5 D' hi h T=>?_,λσ H5 h=>?_})
  ·have:=L _ _ (s3 _ _ hX)
   symm
  ·let ((u3,u4,u5,u6,u7,Z,u9,rfl),vs,zs,a6,s5,M,pr,a1,ln,l3):=h
   let a:i<12:=∎
   let p1:kX (f.map V.int) ((1:Int)+4 * (0+(i:Int)))=some (.int f[1+4 * i]):=by rw [show (1:Int)+4 * (0+(i:Int))=((1+4 * i:Nat):Int) by omega];exact pn _ ∎
   let p2:kX (f.map V.int) ((2:Int)+4 * (0+(i:Int)))=some (.int f[2+4 * i]):=by rw [show (2:Int)+4 * (0+(i:Int))=((2+4 * i:Nat):Int) by omega];exact pn _ ∎
   let p3:kX (f.map V.int) ((3:Int)+4 * (0+(i:Int)))=some (.int f[3+4 * i]):=by rw [show (3:Int)+4 * (0+(i:Int))=((3+4 * i:Nat):Int) by omega];exact pn _ ∎
   let p4:kX (f.map V.int) ((4:Int)+4 * (0+(i:Int)))=some (.int f[4+4 * i]):=by rw [show (4:Int)+4 * (0+(i:Int))=((4+4 * i:Nat):Int) by omega];exact pn _ ∎
   generalize f[1+4 * i]=x1 at p1
   generalize f[2+4 * i]=x2 at p2
   generalize f[3+4 * i]=x3 at p3
   generalize f[4+4 * i]=x4 at p4
   show 4
   refine mD (n:=5) J rfl lT (i8 _) λls H6 hs s6 es=>?_
   let ac:lx≠ls:=aD a6 hs
   let ai:y≠ls:=aD M hs
   let Hs:H ls=none:=s5.free hs
   let a3:=s6 _ _ a6
   let (z2,m2,e2):=qX (ns:=[0,1,2,3,1]) (i:=x1 % 5) (y9 _ (by decide)) (y7 _ (by decide))
   let b2:0<=z2/\z2<=3:=(by decide:∀z ∈ ([0,1,2,3,1]:List Int),0<=z/\z<=3) z2 m2
   refine mC (n:=6) v4 W.G.range J rfl (eL (vs:=[.int 0,.int 1,.int 2,.int 3,.int 1]) (by symm) (by show 5<=1000;decide) (λH' L=>?_) e2 λH7 s7=>{z2,λj σ S=>∃(d:Int) (r:List V) (u:Lm.Ps) (u6 u7 Z u9:Option V),σ=[some (.int c),some (.ref lx),some (.ref y),some (.int (0+(i:Int))),some (.int d),some (.ref ls),u6,u7,Z,u9]/\(∀b o,H6 b=some o->b≠ls->S b=some o)/\S ls=some (.lst r)/\cG S r u/\Lm.Wk u/\(∀q ∈ u,q.2<=d)/\u.length=j,rfl,∎,{0,[],[],_,_,_,_,rfl,λb o e _=>s7 _ _ e,s7 _ _ es,.nil,trivial,(λq hq=>nomatch hq),rfl},λj σ S am hj h T2=>?_,λσ S h=>?_})
   ·have:=L _ _ a3
    symm
   ·let (d,r,u,u6,u7,Z,u9,rfl,k8,a7,pp,wk,m,a9):=h
    let C:=k8 _ _ a3 ac
    let aq:j<3:=∎
    let (z4,m4,e4):=qX (ns:=[1,9,81]) (i:=0+(j:Int)) ∎ (by show _<((3:Nat):Int);omega)
    let b4:1<=z4/\z4<=81:=(by decide:∀z ∈ ([1,9,81]:List Int),1<=z/\z<=81) z4 m4
    let (z5,m5,e5):=qX (ns:=[4,9,9]) (i:=0+(j:Int)) ∎ (by show _<((3:Nat):Int);omega)
    let b5:4<=z5/\z5<=9:=(by decide:∀z ∈ ([4,9,9]:List Int),4<=z/\z<=9) z5 m5
    let (z6,m6,e6):=qX (ns:=[1,8,64]) (i:=0+(j:Int)) ∎ (by show _<((3:Nat):Int);omega)
    let b6:1<=z6/\z6<=64:=(by decide:∀z ∈ ([1,8,64]:List Int),1<=z/\z<=64) z6 m6
    refine cL (n:=4) J rfl {_,cE eK aR (cE iW (cE pJ aR aR) aR),?_}
    refine Vl.to (v:=.int d) (by symm) _ (Vl.to (v:=.int x2) (by symm) _ (eL (vs:=[.int 1,.int 9,.int 81]) (by symm) (by show 3<=1000;decide) (λH' L=>by symm) e4 λH9 s9=>{_,_,rfl,rfl,{ ∎,∎},eL (vs:=[.int 4,.int 9,.int 9]) (by symm) (by show 3<=1000;decide) (λH' L=>by symm) e5 λa4 a2=>{_,_,rfl,rfl,∎,_,_,rfl,rfl,?_}}))
    let q1:0<=x2 / z4 % z5:=y9 _ ∎
    generalize x2 / z4 % z5=d1 at q1 ⊢
    let U:=s9.trans a2
    let al:=U _ _ C
    refine cL (n:=7) J rfl {_,cE eK aR (cE iW (cE pJ aR aR) aR),?_}
    refine Vl.to (v:=.int (d+d1+1)) (by symm) _ (Vl.to (v:=.int x3) (by symm) _ (eL (vs:=[.int 1,.int 8,.int 64]) (by symm) (by show 3<=1000;decide) (λH' L=>by symm) e6 λa5 g=>{_,_,rfl,rfl,{ ∎,∎},Vl.to (v:=.int 8) (by symm) _ {_,_,rfl,rfl,(by decide),_,_,rfl,rfl,?_}}))
    let q2:0<=x3 / z6 % 8:=y9 _ ∎
    generalize x3 / z6 % 8=d2 at q2 ⊢
    let g:=U.trans g
    let Y:=g _ _ a7
    refine jM (vs:=[.int (d+d1),.int (d+d1+1+d2)]) (by symm) (by symm) Y (by have:=Paired.length pp;omega) (by show 2<=1000;decide) (λt B nt a8 ah aj=>?_) rfl (kG PySem.F.plainAttrs_list PySem.F.slot_list_append PySem.F.type_list_append cU aR (aA (cD dD) aF))
    show 4
    refine cJ (T2.nx _ _ {d+d1+1+d2,r++[.ref t],u++[(d+d1,d+d1+1+d2)],_,_,_,_,rfl,λb o e n=>a8 _ _ (g _ _ (k8 _ _ e n)) n,ah,?_,Bb wk m ∎ ∎,λq hq=>?_,by rw [i6,a9];rfl})
    ·refine Paired.snoc (cG.on (λb I e=>a8 _ _ (g _ _ e) (aI (g _ _ e) Y (by intro w;cases w))) pp) {(t),rfl,aj}
    ·rcases j1.mp hq with z|z
     ·have:=m q z
      omega
     ·rw [l9.mp z]
      exact g9 _
   ·let (d,r,u,u6,u7,Z,u9,rfl,k8,a7,pp,wk,m,a9):=h
    let C:=k8 _ _ a3 ac
    let ae:=k8 _ _ (s6 _ _ M) ai
    let s8:aN H S:=λb o e=>k8 _ _ (s6 _ _ (s5 _ _ e)) (aD e Hs)
    let ad:Paired (iE S) vs zs:=aL (λ_ _ z=>z.on λb I e=>k8 _ _ (s6 _ _ e) (aD e hs)) pr
    let r4:1<=1+x4 / 8 % 9/\1+x4 / 8 % 9<=1000:=∎
    let (z7,m7,e7):=qX (ns:=[1,2,3,1+x4 / 8 % 9,1000]) (i:=x4 % 5) (y9 _ (by decide)) (y7 _ (by decide))
    let b7:1<=z7/\z7<=1000:=by
     simp only [g7,N9,or_false] at m7;omega
    refine cL (n:=8) J rfl (eL (vs:=[.int 1,.int 2,.int 3,.int (1+x4 / 8 % 9),.int 1000]) (by symm) (by show 5<=1000;decide) (λH' L=>?_) e7 λH9 s9=>?_)
    ·have:=L _ _ C;symm
    let e8:kX (dM.map V.str) (0+(i:Int))=some (.str (dM[i]'a)):=by
     rw [Int.zero_add];exact bV (by rw [i7,c8 a];rfl)
    refine cL (n:=9) J rfl (eL (vs:=dM.map V.str) (by symm) (by show 12<=1000;decide) (λH' L=>by symm) e8 λa4 a2=>?_);let a0:=s9.trans a2;let aa:=a0 _ _ ae;let af:=a0 _ _ a7;refine {_,aH (cF (kG PySem.F.plainAttrs_list PySem.F.slot_list_append PySem.F.type_list_append cU (pv 2) (aA (cD (aA (pv 9) (aA (pv 8) (aA (dW cX (by rfl) W.G.tuple fM (aA (pv 5) aF)) aF)))) aF))),?_};refine {_,rfl,.inl {rfl,_,cZ.of aa},_,rfl,_,rfl,_,rfl,ls,r,rfl,.inl {cZ.of af,λp np=>?_}};let sp:=aJ (o:=.tup r) np;let ep:(aS a4 p (.tup r)) p=some (.tup r):=aB;generalize aS a4 p (.tup r)=a5 at sp ep ⊢;refine {by show 3<=sizeLine;rw [sizeLine_eq];decide,λb nb=>?_};let sb:=aJ (o:=.tup [.str (dM[i]'a),.int z7,.ref p]) nb;let eb:(aS a5 b (.tup [.str (dM[i]'a),.int z7,.ref p])) b=_:=aB;let ep:=sb _ _ ep;let sT:=a0.trans (sp.trans sb);generalize aS a5 b (.tup [.str (dM[i]'a),.int z7,.ref p])=B at sb eb ep sT ⊢;let ao:vs.length=zs.length:=ad.length;let O:=sT _ _ ae;refine {y,_,_,rfl,rfl,O,gR ∎,?_};let kt:∀x I,B x=some (.tup I)->(aS B y (.lst (vs++[.ref b]))) x=some (.tup I):=λx I e=>by
     rw [aC (aI e O (by intro w;cases w))];exact e
    let k:∀x I,S x=some (.tup I)->(aS B y (.lst (vs++[.ref b]))) x=some (.tup I):=λx I e=>kt _ _ (sT _ _ e);let po:=FA _ (List.getElem_mem (l:=dM) (n:=i) a);refine T.nx _ _ {{_,_,_,_,_,_,_,rfl},vs++[.ref b],zs++[{dM[i]'a,z7,p,u}],?_,λx o e=>?_,aB,Paired.snoc (aL (λ_ _ z=>z.on k) ad) {b,rfl,kt _ _ eb,po.1,po.2,b7.1,b7.2,{r,kt _ _ ep,cG.on k pp},wk,by show u.length<=1000;omega},?_,by rw [i6,ln];rfl,λw hw=>?_}
    ·rw [aC ag];exact sT _ _ C
    ·rw [aC (aD e Hf)];exact sT _ _ (s8 _ _ e)
    ·rw [m9,a1];show dM.take i++[dM[i]'a]=dM.take (i+1);rw [List.take_succ_eq_append_getElem]
    ·rcases j1.mp hw with hw|hw
     ·exact l3 w hw
     ·rw [l9.mp hw];show u.length<=3;omega
  ·let ((u3,u4,u5,u6,u7,Z,u9,rfl),vs,zs,a6,s5,M,pr,a1,ln,l3):=h;refine fV {_,dW cX (by rfl) W.G.tuple fM (aA (pv 2) aF),?_};refine {_,rfl,y,vs,rfl,.inl {cZ.of M,λp hp=>?_}};let sp:=aJ (o:=.tup vs) hp;refine q p vs zs _ (s5.trans sp) aB (aL (λ_ _ ⟨b,e,z⟩=>{b,e,z.same sp}) pr) ?_ (by have:=pr.length;omega) l3;rw [a1];exact List.Sublist.nodup (M5 _ _) ⋯
def sF (x:Int × Option Int × Bool) (q:Int × Int):Int × Option Int × Bool:=
 let k:=x.2.2 && decide (some q.1=x.2.1)
 (x.1+(if 1<q.2/\k=false then 1 else 0),some q.2,k || decide (1<q.2))
def Mm (t:Lm.Ps):∀(x y:Int) (r:Option Int × Bool),(t.foldl sF (x+y,r)).1=(t.foldl sF (x,r)).1+y:=by
 induction t with
 | nil=>intro x y r;rfl
 | cons p t ih=>
  intro x y r;rw [L3,L3,<- ih,show sF (x+y,r) p=((sF (x,r) p).1+y,(sF (x,r) p).2) from Prod.ext (Int.add_right_comm _ _ _) rfl]
def Te {c:Int} {p q:Int × Int} {b:Bool} (e:q.1=p.2):sF (c,some p.2,b) q=(c+(if 1<q.2/\b=false then 1 else 0),some q.2,b || decide (1<q.2)):=by
 have:(b && decide (some q.1=some p.2))=b:=by rw [e,decide_eq_true rfl,Bool.and_true]
 show (c+(if 1<q.2/\(b && decide (some q.1=some p.2))=false then 1 else 0),some q.2,(b && decide (some q.1=some p.2)) || decide (1<q.2))=_;rw [this]
def Dk {c:Int} {s:Option Int} {q:Int × Int} {b:Bool} (e:some q.1≠s):sF (c,s,b) q=(c+(if 1<q.2 then 1 else 0),some q.2,decide (1<q.2)):=by
 have:(b && decide (some q.1=s))=false:=by rw [decide_eq_false e,M0]
 show (c+(if 1<q.2/\(b && decide (some q.1=s))=false then 1 else 0),some q.2,(b && decide (some q.1=s)) || decide (1<q.2))=_;rw [this,Bool.false_or];by_cases z:1<q.2
 ·rw [if_pos z,if_pos {(z),rfl}]
 ·rw [if_neg z,if_neg λy=>z y.1]
theorem AK:∀(t:Lm.Ps) (p:Int × Int) (c:Int),(∀q ∈ t,p.2<=q.1)->Lm.Wk t->(t.foldl sF (c,some p.2,decide (1<p.2))).1+(if 1<p.2 then 1 else 0)=c+(((Lm.mg p t).filter λq=>decide (1<q.2)).length:Int):=by
 intro t
 induction t with
 | nil=>
  intro p c _ _;show c+_=c+(((([p]:Lm.Ps)).filter λq=>decide (1<q.2)).length:Int);by_cases z:1<p.2
  ·rw [if_pos z];simp [z]
  ·rw [if_neg z];simp [z]
 | cons q t a=>
  intro p c d w;let g:=d q (g8 ..);let f:=w.1;rw [L3];unfold Lm.mg;by_cases e:q.1<=p.2
  ·let b:q.1=p.2:=∎;let a:(t.foldl sF (c,some q.2,decide (1<q.2))).1+(if 1<q.2 then 1 else 0)=c+(((Lm.mg (p.1,q.2) t).filter λq=>decide (1<q.2)).length:Int):=a (p.1,q.2) c w.2.1 w.2.2;rw [if_pos e,if_pos (show q.2 > p.2 by omega),<- a,Te b,Mm];by_cases z:1<p.2
   ·rw [decide_eq_true z,decide_eq_true (show 1<q.2 by omega),if_pos z,if_pos (show 1<q.2 by omega),if_neg (λy=>nomatch y.2)];show (t.foldl sF (c,some q.2,true)).1+0+1=_;omega
   ·rw [decide_eq_false z,if_neg z,Bool.false_or];by_cases y:1<q.2
    ·rw [if_pos {(y),rfl},if_pos y];omega
    ·rw [if_neg λw=>y w.1,if_neg y];omega
  ·let a:=a q c w.2.1 w.2.2;let b:some q.1≠some p.2:=λz=>e (by rw [Option.some.inj z];exact g9 _);rw [if_neg e,List.filter_cons,Dk b,Mm];by_cases z:1<p.2
   ·rw [if_pos z,if_pos (decide_eq_true z),j4];omega
   ·rw [if_neg z,if_neg (λy=>z (of_decide_eq_true y))];omega
def Fl {a:Lm.Ps} (w:Lm.Wk a) (c:Int):(a.foldl sF (c,none,false)).1=c+cnt (Lm.merged a) (Lm.merged a).length:=by
 unfold cnt;rw [N8];cases a with
 | nil=>exact(O9 c).symm
 | cons q t=>
  let h:=AK t q c w.2.1 w.2.2;rw [L3,Dk (s:=none) (by intro z;cases z),Mm];exact h
def Xv:Option Int->V
 | none=>.non
 | some x=>.int x
def Xu (x:Int) (s:Option Int):decide (V.int x=Xv s)=decide (some x=s):=by
 cases s with
 | none=>rfl
 | some y=>
  by_cases z:x=y
  ·rw [z,decide_eq_true (show V.int y=Xv (some y) from rfl),decide_eq_true rfl]
  ·rw [decide_eq_false (p:=V.int x=Xv (some y)) (λe=>z (V.int.inj e)),decide_eq_false λe=>z (Option.some.inj e)]
def Xt (x:Int) (s:Option Int):Ih (.int x) (Xv s)=true:=by cases s <;> rfl
inductive Uz (vs:List V) (H:Hp) (Q:VK) (E0_:XK):Prop|mk (p:Addr) (xs:List V) (zs:List Pn) (_:vs=[.ref p]) (_:H p=some (.tup xs)) (_:Paired (iE H) xs zs) (_:Q (.int (many (zs.map λz=>Lm.merged z.a))) H)
def Yh:Sp:=Uz
def Fg {l:List Lm.Ps} {a:Lm.Ps}:many (l++[a])=many l+cnt a a.length:=by unfold many;rw [m9,List.sum_append];simp
def jO {α:Type} {l:List α} {i:Nat} {x:α} (h:l[i]?=some x):l.take (i+1)=l.take i++[x]:=by rw [A2,h];rfl
def Io:aK ["_law_plan_here","_law_many","_law_worker","_law_pace","_law_silences_here","_law_stop","_law_counted","_law_low","_law_high"] ["_law_plan_here"] (aG Wi):={rfl,rfl,rfl,⋯,rfl,⋯,⋯}
def Sj (W:Wd P w K mg base N c):jJ P w K mg base cY "_law_silences" 1 Yh:=W.d24.of λF=>by
 refine F.ok Io (λvs H Q E h=>?_) (λa1 A S s H vs Q E hr h=>?_)
 ·let (p,xs,I,rfl,_):=h
  rfl
 ·intro X D
  let (p,xs,I,rfl,hp,pr,q):=h
  let g:=Io.nd
  refine Wp.ex ?_
  show 1
  refine Ba v4 (dY (n:=3) rfl (aX (aO (i:=2) g rfl (j0 rfl)) (aX (aO (i:=3) g rfl (j0 rfl)) (aX (aO (i:=4) g rfl (j0 rfl)) dA)))) (l:=p) (by symm) hp (λi σ G=>G=H/\∃J U L Y Z t r:Option V,σ=[some (.ref p),some (.int (many ((I.take i).map λz=>Lm.merged z.a))),J,U,L,Y,Z,t,r]) {rfl,_,_,_,_,_,_,_,rfl} (λi σ G _ h=>by rw [h.1];exact hp) (λi v σ G D' hv h T=>?_) (λσ G h=>?_)
  ·let (rfl,J,U,L,Y,Z,t,r,rfl):=h
   let (z,ez,b,rfl,hb,_,_,_,_,(ys,y1,y2),wz,_):=aM pr hv
   refine {b,_,rfl,bN.of hb,rfl,_,_,rfl,_,_,rfl,_,_,rfl,rfl,?_}
   generalize hc0:many ((I.take i).map λz=>Lm.merged z.a)=f
   show 5
   refine jL (n:=6) DM g rfl (j0 rfl) rfl (.inr rfl) ?_
   refine Ba v4 (dY (n:=2) rfl (aX (aO (i:=7) g rfl (j0 rfl)) (aX (aO (i:=8) g rfl (j0 rfl)) dA))) (l:=z.q) (by symm) y1 (λj σ C=>C=G/\∃t r:Option V,σ=[some (.ref p),some (.int ((z.a.take j).foldl sF (f,none,false)).1),some (.str z.x),some (.int z.pc),some (.ref z.q),some (Xv ((z.a.take j).foldl sF (f,none,false)).2.1),some (.bl ((z.a.take j).foldl sF (f,none,false)).2.2),t,r]) {rfl,_,_,rfl} (λj σ C _ h=>by rw [h.1];exact y1) (λj v σ C a0 M h T2=>?_) (λσ C h=>?_)
   ·let (rfl,t,r,rfl):=h
    let (q,hq,b2,rfl,O):=aM y2 M
    refine {b2,_,rfl,bN.of O,rfl,_,_,rfl,_,_,rfl,rfl,?_}
    let o:(z.a.take (j+1)).foldl sF (f,none,false)=sF ((z.a.take j).foldl sF (f,none,false)) q:=by rw [jO hq,List.foldl_append];rfl
    generalize (z.a.take j).foldl sF (f,none,false)=st at o ⊢
    let (m,B,k):=st
    refine jL (n:=6) (DN (c:=k) (d:=decide (V.int q.1=Xv B)) (by symm) λ_=>Vp sB (v:=.int q.1) (w:=Xv B) (by symm) (by symm) (λ_ q=>{Xt _ _,q}) (bQ _)) g rfl (j0 rfl) rfl (.inr rfl) ?_
    rw [Xu]
    let o:(z.a.take (j+1)).foldl sF (f,none,false)=(m+(if 1<q.2/\(k && decide (some q.1=B))=false then 1 else 0),some q.2,(k && decide (some q.1=B)) || decide (1<q.2)):=o
    generalize (k && decide (some q.1=B))=u at o ⊢
    refine He (c:=decide (1<q.2) && !u) (kF (by symm) λ_=>{λ_ q=>{_,bZ (bX (pv 6)),_,rfl,u,rfl,q}}) (λe=>?_) λe=>?_
    ·rw [z8,D2] at e
     let e1:=of_decide_eq_true e.1
     rw [if_pos {(e1),e.2},e.2,e.1] at o
     show 1
     refine jL (n:=6) DM g rfl (j0 rfl) rfl (.inr rfl) (cJ ?_)
     show 5
     exact cJ (T2.nx _ _ {rfl,_,_,by rw [o];rfl})
    ·let e2:(if 1<q.2/\u=false then(1:Int) else 0)=0:=if_neg λy=>by
      rw [decide_eq_true y.1,y.2] at e
      cases e
     let e3:(u || decide (1<q.2))=u:=by
      cases u with
      | true=>rfl
      | false=>rw [Bool.not_false,Bool.and_true] at e;exact e
     rw [e2,O9,e3] at o;show 5;exact cJ (T2.nx _ _ {rfl,_,_,by rw [o];rfl})
   ·let (rfl,t,r,rfl):=h;let ly:z.a.take ys.length=z.a:=o7 (by have:=y2.length;omega);let e:(z.a.foldl sF (f,none,false)).1=many ((I.take (i+1)).map λz=>Lm.merged z.a):=by
     rw [Fl wz,jO ez,m9,<- hc0];exact Fg.symm
    rw [ly,e];exact cJ (T.nx _ _ {rfl,_,_,_,_,_,_,_,rfl})
  ·let (rfl,J,U,L,Y,Z,t,r,rfl):=h;refine Pp (by symm) ?_;rw [o7 (by have:=pr.length;omega)];exact q
inductive Ov (vs:List V) (H:Hp) (Q:VK) (E0_:XK):Prop|mk (p:Addr) (a:Lm.Ps) (_:vs=[.ref p]) (_:bS H p a) (_:a.length<=1000) (_:∀H',aN H H'->Q (.int (gL a)) H')
def Qi:Sp:=Ov
def Wv:(["_law_low","_law_high"]:List Str).Nodup:=⋯
def Qy:aK ["_law_work_here"] ["_law_work_here"] (aG Jl):={rfl,rfl,rfl,⋯,rfl,⋯,⋯}
def Lg (W:Wd P w K mg base N c):jJ P w K mg base cY "_law_size" 1 Qi:=W.d25.of λF=>by
 refine F.ok Qy (λvs H Q E h=>?_) (λO A u s H vs Q E hr h=>?_)
 ·let (p,a,rfl,_):=h
  rfl
 ·intro X D
  let (p,a,rfl,S,la,t):=h
  refine {_,(aH (bF (bB (qH rfl) (by rfl) W.G.sum qJ (aA (cS (NB:=["_law_low","_law_high"]) (n:=2) (js:=[]) (g:=wU K 2 (fG (cI 0) (fG (cI 1) wV))) (cl:=[]) rfl ⋯ ⋯ rfl (lW.all {(rfl),rfl,rfl,rfl}).2.2.2.1 (eR (pv 0)) (λC s H J I=>dY (n:=2) rfl (aX (aO (i:=0) Wv rfl (j0 rfl) (.inr rfl)) (aX (aO (i:=1) Wv rfl (j0 rfl) (.inr rfl)) dA))) (λC s H J I=>dL)
    (λC s H J I=>cE kP (pv 1) (pv 0))) aF)))),?_}
  have sl:sizeLine=16777216:=sizeLine_eq
  let (e,l,L):=id S
  have lx:e.length=a.length:=L.length
  refine {_,rfl,p,rfl,{_,bN.of l},λj d=>?_}
  refine {λi m x v=>m=e.length-i/\i<=e.length/\x=((a.take i).map λq=>q.2-q.1).map V.int/\aN H v/\v j=some (.lst x),{_,rfl,i8 _,rfl,aJ d,aB},?_}
  rintro i m x v ⟨rfl,hi,rfl,f,r⟩
  refine {r,?_}
  by_cases k:i<e.length
  ·refine .inr {{e,_,bN.of (f _ _ l),c8 k},?_}
   rintro y Y ⟨rfl,M⟩
   have Z:=M e (bN.of (f _ _ l))
   let (q,T,b',rfl,B):=aM L Z
   refine {b',_,rfl,bN.of (f _ _ B),rfl,_,_,rfl,_,_,rfl,rfl,?_}
   refine {rfl,eB (cH ?_)}
   refine {_,rfl,_,rfl,_,_,rfl,rfl,r,by rw [f8,f8,l7];omega,_,?_,rfl,k,?_,λb o z=>?_,aB}
   ·omega
   ·rw [jO T]
    simp
   ·rw [aC (aD z d)]
    exact f _ _ z
  ·refine .inl {{e,bN.of (f _ _ l),∎},?_}
   have U:a.take i=a:=o7 ∎
   rw [U] at r
   exact⟨j,a.map λq:Int × Int=>q.2-q.1,rfl,cZ.of r,t _ f⟩
end
end Ls
namespace L2
open PySem PySem.Spec PyProof.Rows PySem.W
def IG (ta tb:TE):TE:=λσ H Q=>ta σ H λx H1=>∃c,x=.bl c/\if c=true then Q (.bl true) H1 else tb σ H1 Q
def FC {X:Cx} {a b:Expr} {rest:List Expr} {pos:Pos} {g tb:TE} (k:PE X a g) (l:PE X (.BoolOp .Or (b::rest) pos) tb):PE X (.BoolOp .Or (a::b::rest) pos) (IG g tb):=by
 intro i s σ H Q I h;refine BoolOp_or (eH (k s σ H _ I h) λv j x e f m d=>?_);let (c,rfl,d):=d;cases m;refine A0 ?_;cases c with
 | false=>exact l j σ e Q f d
 | true=>exact {.bl true,e,f,rfl,d}
end L2
namespace Ls
open PySem L2 PySem.W
theorem mK {K:Frag} {H:Hp}:∀ns:List Int,Ar K H (ns.map V.int) (ns.map PyData.int)
 | []=>.nil
 | n::ns=>.cons (.int n) (mK ns)
def Dm (ns:List Int):∀d ∈ ns.map PyData.int,Gd 0 d:=λd hd=>by
 let (n,_,rfl):=p9.mp hd
 exact Gd.int n
def vC (ds:Lm.Ps):PyData:=.tuple (ds.map λq=>.tuple [.int q.1,.int q.2])
def vW {K:Frag} {H:Hp} {l:Addr} {d:Lm.Ps} (h:bS H l d):As K H (.ref l) (vC d):=by
 let (f,a,p):=h;refine .tup (bN.of a) ?_;clear a;unfold cG at p
 induction p with
 | nil=>exact .nil
 | cons h _ ih=>
  let (b,rfl,e):=h;exact .cons (.tup (bN.of e) (.cons (.int _) (.cons (.int _) .nil))) ih
def vB (b:Lm.Ps):SeqAt.shaped (vC b)=true:=(Gd.tup (n:=1) λd a=>by
 let (q,_,rfl):=p9.mp a
 exact Gd.tup (gJ (Gd.int _) (gJ (Gd.int _) kW))).shaped (by decide)
def Tr {α:Type} (f:α->PyData) (h:∀x,PyData.eqv (f x) (f x)=true) (l:List α):PyData.eqvAll (l.map f) (l.map f)=true:=by
 induction l with
 | nil=>simp [PyData.eqvAll]
 | cons c l ih=>rw [k7,PyData.eqvAll,ih,h];rfl
def wS (ns:List Int):PyData:=.list (ns.map PyData.int)
def Ni (ns:List Int):PyData.eqv (wS ns) (wS ns)=true:=by
 unfold wS;rw [PyData.eqv];exact Tr _ (λn=>by simp [PyData.eqv]) ns
abbrev rC (c:Addr):List (Str × Addr):=[("_law_asked",c)]
def JW {c:Addr}:xZ ["_law_place"] ["_law_asked"] (aG fK) (rC c):=by
 let b:∀p ∈ (aG fK).names,p.2=NameKind.free->((rC c).lookup p.1).isSome=true:=aW (λz=>nomatch z) (aW (λ_=>rfl) (aW (λz=>nomatch z) bW));let a:∀{x:Str} {d:Addr},(rC c).lookup x=some d->x="_law_asked":=λ{x d} h=>(Prod.mk.inj (l9.mp (PySem.mem_of_lookup h))).1;exact {rfl,rfl,rfl,⋯,aW rfl bW,⋯,λx h=>E8.mp (b (x,_) (PySem.mem_of_lookup h) rfl),λx y d f e=>(a f).trans (a e).symm,aW rfl bW}
section
variable {P:Program} {w:World} {K:Frag} {mg:Str->Option Value} {base:Heap} {N:Cn} {c:Nat->Addr}
def GJ (W:Wd P w K mg base N c) {f a c' cy:Addr} {o:Obj} {ctv doc pm:Value} (C:o.data=.cell (some (.ref a))):∃g:Fx,Aw P w K mg base f a g/\∀H:Hp,H f=some (mS f (fnMade "_law_doing" fO (dH fK) (bH fK) (aG fK) (rC cy) doc pm c' ctv))->H c'=some (hG c' fO)->H cy=some (fH cy o)->xW g H:=by
 refine {[(f,λh=>h.get? f=some (fnMade "_law_doing" fO (dH fK) (bH fK) (aG fK) (rC cy) doc pm c' ctv)),(c',λh=>h.CodeRec (.ref c') fO),(cy,λh=>h.get? cy=some o)],λH d k g t U O S Q q=>?_,λH E D I=>aW E (aW D (aW I bW))};let v:H f=some (mS f (fnMade "_law_doing" fO (dH fK) (bH fK) (aG fK) (rC cy) doc pm c' ctv)):=g _ (g8 ..);let L:H c'=some (hG c' fO):=g _ (d0 _ (g8 ..));let y:H cy=some (fH cy o):=g _ (d0 _ (d0 _ (g8 ..)));refine {{_,_,_,_,v},λA m s us G M r=>?_};let (u,rfl,T):=iL r;let l:sY H ((rC cy).map (·.2)):=aW {_,_,y,C} bW;let J:a ∉ (rC cy).map (·.2):=l.out t (by intro _ z;cases z);let j:unc ((rC cy).map (·.2)) H a=some (.lst k):=yG l t;refine Ub (ps:=["_law_place"]) (fr:=["_law_asked"]) (us:=[u]) (vs:=[.int d]) (ws:=[.ref a]) v L JW l (λi x B=>?_) rfl G M (.of_eq rfl) r rfl λp=>?_
 ·cases i with
  | zero=>cases B;exact {cy,_,_,o,rfl,rfl,rfl,y,C}
  | succ i=>cases B
 refine {_,aE (cF (kG PySem.F.plainAttrs_list PySem.F.slot_list_append PySem.F.type_list_append cU (pv 1) (aA (pv 0) aF))) (aH (bF (aV (Db W) p aQ (aA (pv 0) aF)))),?_};refine {_,rfl,.inl {rfl,_,cZ.of j},_,rfl,a,k,.int d,rfl,rfl,j,by rw [sizeLine_eq];omega,?_};refine {_,rfl,d,rfl,∎,∎,?_};show Q (.int (iI d)) (Jy _ H (aS (unc _ H) a (.lst (k++[.int d]))));rw [Rh J,Ri];exact q _ (k++[.int d]) (λb o e n=>by rw [aC n];exact e) aB (by rw [i6];rfl)
end
end Ls
namespace L2
open PySem PySem.Spec PyProof.Rows PySem.W
section
variable {X:Cx} {σ:St} {H:Hp} {a b e:Expr} {pos:Pos}
def DQ (h:Tv X a σ H false) (g:Tv X b σ H false) (k:Tv X e σ H false):Tv X (.BoolOp .Or [a,b,e] pos) σ H false:={λ_ q=>{_,PW.pt (gE eF (gE eF (eQ eF))),h.to _ (bY (g.to _ (bY (k.to _ q))))}}
def Xj {c d:Bool} (h:Tv X a σ H c) (g:Tv X b σ H d) (k:c=true->d=true->Tv X e σ H false):Tv X (.BoolOp .And [a,b,e] pos) σ H false:={λ_ q=>{_,PW.pt (fX eF (fX eF (eW eF))),h.to _ (by
 cases c with
 | false=>exact bY q
 | true=>
  refine cH (g.to _ ?_)
  cases d with
  | false=>exact bY q
  | true=>exact cH ((k rfl rfl).to _ q))}}
end
end L2
namespace Ls
open PySem L2 PySem.W
def AI {l:List Lm.Ps}:0<=many l:=by
 induction l with
 | nil=>exact g9 _
 | cons a l ih=>
  let e:many (a::l)=cnt a a.length+many l:=by unfold many;rw [k7,A6]
  rw [e];exact Int.add_nonneg Nv ih
def Ec.mv {sp f:Int} {a:Lm.Ps} {i:Addr} {g:List Lm.Ps} {d:Nat} {H H':Hp} {o:Ro} (h:Ec sp f a i g d H o) (k:∀b x,H b=some x->(∀ φ,x≠.ext φ)->H' b=some x):Ec sp f a i g d H' o:=
 {k _ _ h.hr (λ_ z=>nomatch z),k _ _ h.h1 (λ_ z=>nomatch z),aL (λ_ _ ⟨b,c,e,h1,h2⟩=>{b,c,e,k _ _ h1 (λ_ z=>nomatch z),k _ _ h2 (λ_ z=>nomatch z)}) h.it,h.sh,h.mm,h.nd,h.sub,h.rv,k _ _ h.hz (λ_ z=>nomatch z),h.zl,h.tot,h.l0,h.ez,h.e0,h.dl,h.de,h.ov,h.tm,h.en}
def Xb {d:List Lm.Ps} {zs:List Pn} (l:d.length=zs.length) (h:∀(k:Nat) b,d[k]?=some b->∃z,zs[k]?=some z/\Lm.Sh b/\∀x,Lm.mem b x↔Lm.mem z.a x) (w:∀z ∈ zs,Lm.Wk z.a):d=zs.map λz=>Lm.merged z.a:=J0 λk=>by
 rw [i7]
 cases e:d[k]? with
 | none=>
  rw [w8 (by have:=E5.mp e;omega)]
  rfl
 | some b=>
  let (z,f,i,g):=h k b e
  rw [f,Ia i (w z (g6 f)) g]
  rfl
def Xh {H H':Hp} {T g:Addr} {pos d:Pos} {q i:Str} (k:cT T H H') (n:g≠T) (t:gD H T pos q) (h:gD H g d i):gD H' g d i:=by
 let (j,e,_):=t;exact iM h (λl z=>k _ _ n z) λa f z=>k _ _ (aI z e (by intro y;cases y)) z
def Gk {cy:Addr} {o:Obj} {u:Option Value} {q:Str} (d:o.data=.cell u):fH cy o≠hG cy q:=λe=>by
 let f:o.isFreed=false:=by cases o;cases d;rfl
 injection e with e
 let e:=congrFun e {Array.replicate (cy+1) o,{}}
 let g:Heap.get? {Array.replicate (cy+1) o,{}} cy=some o:=Heap.get?_some_iff.mpr {by simp,f}
 rw [g] at e
 let (c,k,l,t,j,i,h,_):=e.mp rfl
 cases j
 rw [g] at i
 cases i
 rw [d] at h
 cases h
def Bg {H G:Hp} {T cy:Addr} {o:Obj} {u:Option Value} {pos:Pos} {q:Str} (d:o.data=.cell u) (f:H cy=some (fH cy o)) (k:∀b x,H b=some x->b≠cy->G b=some x) (t:gD H T pos q):gD G T pos q:=by
 let (g,e,j,i):=t;refine {g,k _ _ e (aI e f (by intro z;cases z)),j,i.imp id λ⟨h,e1,e2⟩=>{h,e1,k _ _ e2 λz=>?_}};subst z;rw [f] at e2;exact Gk d (Option.some.inj e2)
def Rp (z:Pn):PyData:=.tuple [.str z.x,.int z.pc,vC z.a]
def EZ {z:Pn} (h:PyData.strOk z.x=true):Gd 3 (Rp z):=Gd.tup (gJ (Gd.str h) (gJ (Gd.int _) (gJ (Gd.tup λd f=>by
 let (q,_,rfl):=p9.mp f
 exact Gd.tup (gJ (Gd.int _) (gJ (Gd.int _) kW))) kW)))
def Ch {K:Frag} {H:Hp} {f:List V} {zs:List Pn} (p:Paired (iE H) f zs):Ar K H f (zs.map Rp)/\∀d ∈ zs.map Rp,Gd 3 d:=by
 induction p with
 | nil=>exact {.nil,kW}
 | cons h _ ih=>
  let (b,rfl,i,_,g,_,_,j,_,_):=h;exact {.cons (.tup (bN.of i) (.cons (.str _) (.cons (.int _) (.cons (vW j) .nil)))) ih.1,gJ (EZ g) ih.2}
def Ge (a:Lm.Ps):PyData.eqv (vC a) (.tuple [])=decide (a=[]):=by
 cases a with
 | nil=>rfl
 | cons q a=>rfl
theorem Bq:∀{ds:Lm.Ps},Lm.Sh ds->ds.Pairwise λp q=>p.1<q.1
 | [],_=>.nil
 | p::t,h=>.cons (λq d=>by have:=h.2.1 q d;have:=h.1;omega) (Bq h.2.2)
def Mi {a:Lm.Ps} (w:∀q ∈ a,q.1<q.2):(a.map λq=>(((q.2-q.1).toNat:Nat):Int)).sum=gL a:=by
 induction a with
 | nil=>rfl
 | cons q a ih=>
  have:=w q (g8 ..);let e:gL (q::a)=(q.2-q.1)+gL a:=by unfold gL;rw [k7,A6]
  rw [k7,A6,ih λp d=>w p (d0 _ d),e];omega
inductive Oo (N:Cn) (vs:List V) (H:Hp) (Q:VK) (E0_:XK):Prop|mk (q bp pl:Addr) (a:Lm.Ps) (sp ev le:Int) (xs:List V) (zs:List Pn) (_:vs=[.ref q,.ref bp,.ref pl]) (_:bS H q a) (_:kY a) (_:H bp=some (.tup [.int sp,.int ev,.int le])) (_:1<=sp) (_:sp<=5) (_:1<=ev) (_:ev<=4) (_:ev<=le) (_:H pl=some (.tup xs)) (_:Paired (iE H) xs zs) (_:(zs.map Pn.x).Nodup) (_:xs.length<=12) (_:∀z ∈ zs,z.a.length<=3) (_:gD H N.T1 kB fF) (_:gD H N.T2 uC fO)
 (_:∀H',(∀a o,H a=some o->Ki o=true->H' a=some o)->gD H' N.T1 kB fF->gD H' N.T2 uC fO->Q (.bl true) H')
def Qd (N:Cn):Sp:=Oo N
def FK:(["_law_one"]:List Str).Nodup:=⋯
def JJ:(["_law_k","_law_low"]:List Str).Nodup:=⋯
def FM:(["_law_low","_law_numbers"]:List Str).Nodup:=⋯
section
variable {P:Program} {w:World} {K:Frag} {mg:Str->Option Value} {base:Heap} {N:Cn} {c:Nat->Addr}
def Bs:aK ["_law_work_here","_law_bounds_here","_law_plan_here","_law_size_here","_law_many","_law_span","_law_every","_law_least","_law_most","_law_asked","_law_doing","_law_ended","_law_done","_law_over","_law_results","_law_lines","_law_low","_law_numbers"] ["_law_work_here","_law_bounds_here","_law_plan_here"] (aG pA):={rfl,rfl,rfl,⋯,rfl,⋯,⋯}
def Lc (nT:N.T1≠N.T2) (W:Wd P w K mg base N c):jJ P w K mg base cY "_law_right" 12 (Qd N):=W.d47.of λF hT=>by
 refine F.ok Bs (λvs H Q E h=>?_) (λA br s H vs Q E hr h=>?_)
 ·let (q,bp,pl,a,sp,ev,le,xs,zs,rfl,_):=h
  rfl
 ·intro X D
  let (q,bp,pl,a,sp,ev,le,xs,zs,rfl,hw,Y,bh,b1,b2,b3,b4,b5,aj,pr,bq,lx,l3,az,ac,t):=h
  let nd:=Bs.nd
  let sl:sizeLine=16777216:=sizeLine_eq
  let GL:=W.G.len
  let wk:=tR Y
  let c3:=Y.few
  let bw:=pr.length
  let wz:∀z ∈ zs,Lm.Wk z.a:=λz hz=>by
   let (k,hk):=j9.mp hz
   obtain⟨v,hv⟩:∃v,xs[k]?=some v:={xs[k]'(by have:=(c9.mp hk).1;omega),c8 _}
   let (z',ez,_,_,_,_,_,_,_,_,w,_):=aM pr hv
   rw [hk] at ez
   cases ez
   exact w
  refine Wp.ex (cL (n:=3) nd rfl (eM (vs:=[.ref q]) (Lg W) hr aQ (by symm) {q,a,rfl,hw,∎,λH1 s1=>?_}))
  let ak:=s1 _ _ bh
  let b6:Paired (iE H1) xs zs:=aL (λ_ _ z=>z.on λ_ _ e=>s1 _ _ e) pr
  refine cL (n:=4) nd rfl (eM (vs:=[.ref pl]) (Sj W) hr aQ (by symm) {pl,xs,zs,rfl,s1 _ _ aj,b6,?_})
  let m0:=AI (l:=zs.map λz=>Lm.merged z.a)
  let m1:=Di (l:=zs.map λz=>Lm.merged z.a) λb hb=>by
   let (z,hz,rfl):=p9.mp hb
   exact n8 (Lm.merged_ok (wz z hz).lo).2.2 (l3 z hz)
  rw [f8] at m1
  generalize hm:many (zs.map λz=>Lm.merged z.a)=m at m0 m1 ⊢
  let bz:0<=gL a/\gL a<=120:=by
   let h1:=sH wk;let h2:=uI (a:=a) λq hq=>by
    let (k,hk,e):=r9 hq;exact(Y.lo k q.1 q.2 (by rw [c8 hk,e])).2.2
   omega
  let y1:0<=m * (sp+1):=P4 m0 ∎;let y2:m * (sp+1)<=36 * (sp+1):=Int.mul_le_mul_of_nonneg_right ∎ ∎;refine {_,aE (yX (pv 1) (dY (n:=3) rfl (aX (aO (i:=5) nd rfl (j0 rfl)) (aX (aO (i:=6) nd rfl (j0 rfl)) (aX (aO (i:=7) nd rfl (j0 rfl)) dA))))) aU,?_};refine {_,rfl,bp,_,rfl,bN.of ak,rfl,_,_,rfl,_,_,rfl,_,_,rfl,rfl,?_};let cm:yA m (sp+1):=.inl { ∎,∎};show 8;let (tt,ao):=F1 (show 0<=gL a+m * (sp+1) by omega);rw [ao];refine mD (n:=9) nd rfl lT (i8 _) λla H3 b7 s3 ax=>?_;let O:=s1.trans s3;refine {_,aE (Zm (T:=N.T2) (q:=fO) (i:=10) (clos:=rC (s.heap.objs.size+1+1)) rfl hT W.M rfl rfl rfl rfl rfl nd rfl (j0 rfl)) aU,ac.same O,λf' c' ctv doc H4 kt nf be ag am=>?_};let (c5,e3,_):=ac.same O;let ap:∀b x,H b=some x->(∀ps,x≠.tbl ps)->H4 b=some x:=λb x e n=>kt _ _ (aI (O _ _ e) e3 (n _)) (O _ _ e);let aw:=Xh kt nT (ac.same O) (az.same O);let kq:∀{b:Addr} {ys:List V},H b=some (.tup ys)->H4 b=some (.tup ys):=λ{b ys} e=>ap _ _ e (λ_ z=>nomatch z);refine {_,aE (yX (Kp (k:=11) (i:=9) (y:="_law_asked") (cy:=s.heap.objs.size+1+1) ((Zz nT W).up 11) hr dD rfl rfl rfl rfl) (dY (n:=5) rfl (aX (aO (i:=11) nd rfl (j0 rfl)) (aX (aO (i:=12) nd rfl (j0 rfl)) (aX (aO (i:=13) nd rfl (j0 rfl)) (aX (aO (i:=14) nd rfl (j0 rfl)) (aX (aO (i:=15) nd rfl (j0 rfl)) dA))))))) aU,?_};refine Av.to (vs:=[.ref q,.int sp,.int ev,.int le,.ref pl,.ref f',.int (tt:Int)]) (by symm) _ {.ref la,rfl,λo u ru od a5=>?_};cases ru;let (fx,dk,fa):=GJ W (f:=f') (c':=c') (cy:=s.heap.objs.size+1+1) (ctv:=ctv) (doc:=doc) (pm:=(mg "__name__").getD .none) od;generalize hcy:s.heap.objs.size+1+1=cy at am a5 dk fa ⊢;let up:∀b x,H4 b=some x->(aS H4 cy (fH cy o)) b=some x:=λb x e=>by rw [aC (aD e a5)];exact e
  let ad:(aS H4 cy (fH cy o)) cy=some (fH cy o):=aB;generalize aS H4 cy (fH cy o)=H5 at up ad ⊢;let a4:H4 la=some (.lst []):=kt _ _ (aI ax e3 (by intro z;cases z)) ax;let b9:bS H5 q a:=by
   let (ys,x1,x2):=hw;exact {ys,up _ _ (kq x1),aL (λ_ _ ⟨b,z1,z2⟩=>{b,z1,up _ _ (kq z2)}) x2}
  let a9:∀{T:Addr} {pos:Pos} {q:Str},gD H4 T pos q->gD H5 T pos q:=λt=>iM t (λps e=>up _ _ e) λa f e=>up _ _ e;refine {f',la,fx,dk,q,pl,a,sp,ev,le,xs,zs,tt,rfl,b9,Y,b1,b3,b4,b5,up _ _ (kq aj),aL (λ_ _ z=>z.on λ_ _ e=>up _ _ (kq e)) pr,bq,lx,l3,∎,a9 aw,a9 be,fa _ (up _ _ am) (up _ _ ag) ad,up _ _ a4,λas B H6 av ar k6 bd bj J=>?_}
  let a7:=k6 _ _ ad rfl λz=>by rw [<- z,a5] at a4;cases a4
  refine {a7,?_};let dl:∀b x,H6 b=some x->b≠cy->(λb=>if b=cy then none else H6 b) b=some x:=λb x e n=>by
   show (if b=cy then none else H6 b)=_;rw [if_neg n];exact e
  generalize (λb=>if b=cy then none else H6 b)=G at dl ⊢;let ai:∀b x,H b=some x->Ki x=true->G b=some x:=λb x e ki=>by
   let e4:=ap b x e λps z=>by rw [z] at ki;cases ki
   exact dl b x (k6 _ _ (up _ _ e4) ki (aD e (s1.free b7))) (aD e4 a5)
  let an:=Bg od a7 dl bd;let au:=Bg od a7 dl bj;let J:=J.mv λb x e n=>dl b x e (aI e a7 (n _));let bg:many as=m:=by rw [Xb av ar wz,hm]
  let bc:(∃z ∈ zs,z.a=[])->[] ∈ as:=λ⟨z,hz,e⟩=>by
   rw [Xb av ar wz];exact p9.mpr {z,hz,by rw [e];rfl}
  refine {B.r,_,rfl,bN.of J.hr,rfl,_,_,rfl,_,_,rfl,_,_,rfl,_,_,rfl,_,_,rfl,rfl,?_};let hz:=J.hz
  let em:B.e<=m:=by rw [<- bg];exact J.e0
  let c6:ev * B.e<=ev * m:=B9 em ∎;let c2:sp * B.e<=sp * m:=B9 em ∎;let ez:=J.ez;let l0:=J.l0;let dl:=J.dl;let ov:=J.ov;generalize hve:(if B.l=0 then V.int (B.t:Int) else .non)=ve;show Wp X ((bH pA).drop 7) D [some (.ref q),some (.ref bp),some (.ref pl),some (.int (gL a)),some (.int m),some (.int sp),some (.int ev),some (.int le),some (.int (tt:Int)),some (.ref la),some (.ref f'),some ve,some (.int B.dn),some (.int B.ov),some (.ref B.r1),some (.ref B.ln),none,none] G;refine oQ (c:=!decide (V.int (B.zs.length:Int)=V.int B.dn)) (by symm) (by rw [decide_eq_true (by rw [J.zl])];rfl) ?_;let c4:yA ev m:=.inl { ∎,∎};refine oQ (c:=false) (DQ (Tv.is (by symm) ?_) (Tv.is (by symm) ?_) (Xj (c:=decide (V.int m=V.int 0)) (d:=!decide (ve=.non)) (by symm) (by symm) λz1 z2=>Tv.is (by symm) ?_)) rfl ?_
  ·exact decide_eq_false ∎
  ·exact decide_eq_false ∎
  ·let z1:=V.int.inj (of_decide_eq_true z1);let le:B.l=0:=by
    by_cases y:B.l=0
    ·exact y
    ·rw [if_neg y] at hve;rw [<- hve] at z2;cases z2
   let de:=J.de ∎;rw [show B.dn=gL a by omega,decide_eq_true rfl];rfl
  let a6:=ai _ _ aj rfl;let ba:Paired (iE G) xs zs:=aL (λ_ _ z=>z.on λb us e=>ai _ _ e rfl) pr;let a2:∀G5,aN G G5->Wp X ((bH pA).drop 10) D [some (.ref q),some (.ref bp),some (.ref pl),some (.int (gL a)),some (.int m),some (.int sp),some (.int ev),some (.int le),some (.int (tt:Int)),some (.ref la),some (.ref f'),some ve,some (.int B.dn),some (.int B.ov),some (.ref B.r1),some (.ref B.ln),none,none] G5:=λG5 s5=>by
   let h1:=s5 _ _ J.h1;let it:=aL (λ_ _ (x:mW B.s.vf G _ _)=>(λ⟨b,c,e,h1,h2⟩=>{b,c,e,s5 _ _ h1,s5 _ _ h2}:mW B.s.vf G _ _->mW B.s.vf G5 _ _) x) J.it;let c0:=it.length;refine {_,aE (eD v4 rfl (jU (pv 14)) (dY (n:=2) rfl (aX (aO (i:=16) nd rfl (E9 rfl)) (aX (aO (i:=17) nd rfl (j0 rfl)) dA))) aU) aU,?_};refine {_,rfl,B.r1,rfl,{_,cZ.of h1},lR (xs:=B.xs) (λi σ G'=>aN G5 G'/\∃ah ae:Option V,σ=[some (.ref q),some (.ref bp),some (.ref pl),some (.int (gL a)),some (.int m),some (.int sp),some (.int ev),some (.int le),some (.int (tt:Int)),some (.ref la),some (.ref f'),some ve,some (.int B.dn),some (.int B.ov),some (.ref B.r1),some (.ref B.ln),ah,ae]) {aN.refl _,_,_,rfl} (λi σ G' _ h=>cZ.of (h.1 _ _ h1)) (λi v σ G' hv h=>?_) (λσ G' h=>?_)}
   ·let (sm,ah,ae,rfl):=h;let (L,bt,b,cc,rfl,hb,hc):=aM it hv;let hc:=sm _ _ hc;refine {b,_,rfl,bN.of (sm _ _ hb),rfl,_,_,rfl,_,_,rfl,rfl,?_};let mq:=g6 bt;let aa:∀y,L.1<=y->y<L.2->y ∈ B.s.ns/\-1000000000000000000<=y/\y<=1000000000000000000:=λy y1 y2=>by
     let hy:=(J.mm y).mp {(L),mq,y1,y2};let (p,hp,h1,h2):=J.sub y hy;let (k,hk,e):=r9 hp;have:=Y.lo k p.1 p.2 (by rw [c8 hk,e]);exact {hy,∎,∎}
    let er:row B.s.vf L.1 (L.2-L.1).toNat=(gM L.1 (L.2-L.1).toNat).map V.int:=by
     unfold row gM;congr 1;refine List.map_congr_left λi hi=>?_;let hi:=C3.mp hi;exact J.rv _ (aa _ ∎ ∎).1
    rw [er] at hc;generalize hn:(L.2-L.1).toNat=n at hc;refine {_,aH (bP (cN (zE hr.units) (dW uQ (by rfl) W.G.list BH (aA (pv 17) aF)) aR (bQ _)) aU aZ),?_};refine {_,rfl,cc,_,rfl,.inr (bN.of hc),λl6 n6=>?_};let (H7,bu,s7,f7):=Oh n6 (.lst ((gM L.1 n).map V.int));rw [bu];let c1:=s7 _ _ hc;let nb:n<=120:=by
     let h1:=dI (kQ L.1 n) λy hy=>by
      have:=dP.mp hy;exact(aa y ∎ ∎).1
     let h2:=J.tot;unfold fQ at h1;rw [f8,x6] at h1;omega
    refine Ae (NB:=["_law_k","_law_low"]) (js:=[16]) (cl:=[("_law_low",s.heap.objs.size+1)]) (j:=(n:Int)) (out:=λi=>.int (iI (L.1+(0+(i:Int))))) rfl ⋯ ⋯ (lW.all {(rfl),rfl,rfl,rfl}).2.2.2.1 W.G.range (Vl.is (by symm) (by rw [f8,fB])) ∎ JJ rfl (λi hi G8 sg R z C s S fp pn=>?_) λa3 G8 s8 hA=>?_
    ·rw [G4] at hi;have:=(aa (L.1+(0+(i:Int))) ∎ ∎).2;exact eM (vs:=[.int (L.1+(0+(i:Int)))]) (Db W) (by exact hr) aQ (by symm) {_,rfl,∎,∎,z G8 (aN.refl _)}
    ·let eA:(List.range (n:Int).toNat).map (λi:Nat=>V.int (iI (L.1+(0+(i:Int)))))=(gM L.1 n).map V.int:=by
      rw [G4];unfold gM;rw [O8];exact List.map_congr_left λi _=>by show V.int (iI (L.1+(0+(i:Int))))=V.int (iI (L.1+(i:Int)));rw [Int.zero_add]
     rw [eA] at hA;refine {wS (gM L.1 n),wS (gM L.1 n),.lst (cZ.of (s8 _ _ f7)) (mK _),.lst (cZ.of hA) (mK _),(Gd.lst (Dm _)).shaped (by decide),(Gd.lst (Dm _)).shaped (by decide),_,rfl,?_};rw [Ni];exact bY {sm.trans (s7.trans s8),_,_,rfl}
   ·let (sm,ah,ae,rfl):=h;let a8:=sm _ _ h1;let al:∀S,aN G' S->D.rt (.bl true) S:=λS s'=>by
     let sG:=s5.trans (sm.trans s');exact t S (λb x e ki=>sG _ _ (ai b x e ki)) (an.same sG) (au.same sG)
    refine fV {_,FC aR (fL (dU sB (bB (qH rfl) (by rfl) W.G.sum qJ (aA (cS (NB:=["_law_low","_law_numbers"]) (n:=2) (js:=[]) (g:=wU K 2 (fG (cI 0) (fG (cI 1) wV))) (cl:=[]) rfl ⋯ ⋯ rfl (lW.all {(rfl),rfl,rfl,rfl}).2.2.2.1 (jU (pv 14)) (λC s H fp pn=>dY (n:=2) rfl (aX (aO (i:=0) FM rfl (j0 rfl) (.inr rfl)) (aX (aO (i:=1) FM rfl (j0 rfl) (.inr rfl)) dA))) (λC s H fp pn=>dL)
     (te:=Bx X ["_law_low","_law_numbers"] _ [] _) (λC s S fp pn _ s2 σ2 H2 Q2 I h=>aR s2 σ2 H2 Q2 I (h C s S fp pn))) aF)) (pv 3) (bQ _))),?_};refine Vl.to (v:=.bl (decide (ve=.non))) (Vp zG (by symm) vE (λ_ q=>{(rfl),q}) (bQ _)) _ {_,rfl,?_};by_cases y:B.l=0
    ·rw [show decide (ve=.non)=false by rw [<- hve,if_pos y];rfl];refine bY ?_;refine {_,rfl,B.r1,rfl,{_,cZ.of a8},λa3 Z=>?_};refine {λi mm ys S=>mm=B.xs.length-i/\i<=B.xs.length/\ys=((B.ds.take i).map λq=>(((q.2-q.1).toNat:Nat):Int)).map V.int/\aN G' S/\S a3=some (.lst ys),{_,rfl,i8 _,rfl,aJ Z,aB},?_};rintro i mm ys S ⟨rfl,hi,rfl,a1,hA⟩;refine {hA,?_};let ld:B.ds.length<=120:=by
      let w1:=Lm.Sh.wk J.sh;let h1:=sH w1;let h2:=(xQ w1 J.nd λx hx=>(J.mm x).mpr hx).mpr λx hx=>(J.mm x).mp hx;let h3:=dI (l:=B.ds.map λq=>q.1) (m:=kA B.ds) (pP (List.pairwise_map.mpr (Bq J.sh))) λx hx=>by
       let (p,hp,rfl):=p9.mp hx;exact fE.mpr {p,hp,g9 _,Lm.Sh.lt J.sh p hp}
      let h4:=J.tot;rw [f8] at h3;omega
     by_cases a0:i<B.xs.length
     ·refine .inr {{B.xs,_,cZ.of (a1 _ _ a8),c8 a0},?_};rintro yv bv ⟨rfl,hy⟩;let ey:=hy B.xs (cZ.of (a1 _ _ a8));let (L,hq,b',c',rfl,bn,ag):=aM it ey;let tr:=sm.trans a1;refine {b',_,rfl,bN.of (tr _ _ bn),rfl,_,_,rfl,_,_,rfl,rfl,?_};refine {rfl,eB (cH ?_)};refine λC s S fp pn=>{_,bB bU (by rfl) W.G.len PySem.boot_len (aA (pv 1) aF),?_};refine {_,rfl,c',_,rfl,.inr (bN.of (tr _ _ ag)),hA,by rw [f8,f8,l7];omega,_,?_,rfl,a0,?_,λb o z=>?_,aB}
      ·omega
      ·rw [jO hq];simp [row]
      ·rw [aC (aD z Z)];exact a1 _ _ z
     ·refine .inl {{B.xs,cZ.of (a1 _ _ a8),∎},?_};rw [o7 (show B.ds.length<=i by omega)] at hA;refine {a3,_,rfl,cZ.of hA,_,rfl,rfl,?_};let h2:=(xQ (Lm.Sh.wk J.sh) J.nd λx hx=>(J.mm x).mpr hx).mpr λx hx=>(J.mm x).mp hx;let h4:=J.tot;rw [Mi λp hp=>Lm.Sh.lt J.sh p hp,show gL B.ds=gL a by omega,decide_eq_true rfl];exact al _ a1
    ·rw [show decide (ve=.non)=true by rw [<- hve,if_neg y];rfl];exact cH (al _ (aN.refl _))
  refine {_,aE (bP (PW.pt (fX (cN (zE hr.units) (cS (NB:=["_law_one"]) (n:=1) (js:=[]) (g:=cI 0) (cl:=[]) rfl ⋯ ⋯ rfl (lW.all {(rfl),rfl,rfl,rfl}).2.2.2.1 (eR (pv 2)) (λC s H fp pn=>aO (i:=0) FK rfl (j0 rfl) (.inr rfl)) (tc:=Bt X ["_law_one"] _ [] _) (λC s S fp pn=>oC λ_ s2 σ2 H2 Q2 I h=>eF s2 σ2 H2 Q2 I (h C s S fp pn)) (λC s H fp pn=>pv 0)) (pH aF) (bQ _)) (eW eF))) aU aZ) aU,?_};refine {_,rfl,pl,rfl,{_,bN.of a6},λa3 Z=>?_};refine⟨λi mm ys S=>mm=xs.length-i/\i<=xs.length/\aN G S/\S a3=some (.lst ys)/\∃U:List Pn,Paired (iE G) ys U/\U.length<=i/\(U=[]\/∃z ∈ zs,z.a=[]),{_,rfl,i8 _,aJ Z,aB,[],.nil,d7 _,.inl rfl},?_⟩;rintro i mm ys S ⟨rfl,hi,sm,hA,U,p',bx,aq⟩;refine {hA,?_};by_cases a0:i<xs.length
  ·refine .inr {{xs,_,bN.of (sm _ _ a6),c8 a0},?_};rintro yv bv ⟨rfl,hy⟩;let ey:=hy xs (bN.of (sm _ _ a6));let (z,b8,b,rfl,hb,wx,sx,p1,p2,ay,bo,bi):=aM ba ey;refine {rfl,λC s S fp pn=>{_,cN (Zx (by exact hr.units)) (dN dJ (pv 0) aY (λ_ _=>rfl)) (cD aF) (bQ _),?_}};refine {_,rfl,_,_,_,_,rfl,rfl,bN.of (sm _ _ hb),bV (j:=2) rfl,i8 _,λt2 n2=>?_};let (H3,af,s3,f3):=Oh n2 (.tup []);rw [af];refine {vC z.a,.tuple [],vW ((ay.same sm).same s3),.tup (bN.of f3) .nil,vB _,(Gd.tup (n:=0) kW).shaped (by decide),_,rfl,?_};rw [Ge];let lp:=p'.length;by_cases ea:z.a=[]
   ·rw [decide_eq_true ea];refine cH {_,rfl,s3 _ _ hA,∎,xs.length-(i+1),∎,rfl,a0,λb o e=>?_,aB,U++[z],Paired.snoc p' {(b),rfl,hb,wx,sx,p1,p2,ay,bo,bi},by rw [i6,B0];omega,.inr {z,g6 b8,ea}};rw [aC (aD e Z)];exact s3 _ _ (sm _ _ e)
   ·rw [decide_eq_false ea];exact bY {xs.length-(i+1),∎,rfl,a0,sm.trans s3,s3 _ _ hA,U,p',∎,aq}
  ·refine .inl {{xs,bN.of (sm _ _ a6),∎},?_};refine {i8 _,λl2 n2=>?_};let (H3,af,s3,f3):=Oh n2 (.lst []);rw [af];let O:=sm.trans s3;let (rd,gd):=Ch (K:=K) (aL (λ_ _ z=>z.on λ_ _ e=>O _ _ e) p');refine {.list (U.map Rp),.list [],.lst (cZ.of (s3 _ _ hA)) rd,.lst (cZ.of f3) .nil,(Gd.lst gd).shaped (by decide),(Gd.lst (n:=0) kW).shaped (by decide),_,rfl,?_};by_cases y:B.l=0
   ·let b0:decide (ve=.non)=false:=by rw [<- hve,if_pos y];rfl
    generalize (!PyData.eqv (.list (U.map Rp)) (.list []))=bb;cases bb with
    | false=>exact bY (bY (a2 H3 O))
    | true=>exact cH (Tv.to (b:=false) (Tv.is (by symm) b0) _ (bY (a2 H3 O)))
   ·let e0:U=[]:=aq.resolve_right λz=>by
     let h1:=J.tm (bc z);let h2:=J.en.resolve_left y;rw [h2] at h1;rw [Int.mul_add,Int.mul_comm m sp] at ao;omega
    subst e0;rw [show (!PyData.eqv (.list (([]:List Pn).map Rp)) (.list []))=false by simp [PyData.eqv,PyData.eqvAll]];exact bY (bY (a2 H3 O))
end
end Ls
namespace L2
open PySem PySem.Spec PyProof.Rows PySem.W
section
def Uc {prog:Program} {w:World} {A:Around} {E:Value->Shared->Prop} {s:Shared} {t b:Addr} {vs ws:List Value} {Q:Value->Shared->Prop} (u:IsTup s.heap t vs.toArray) (v:IsTup s.heap b ws.toArray) (o:vs≠[])
  (x:ws=[]->Q (.ref t) s) (h2:ws≠[]->Q (.ref s.heap.objs.size) { s with heap:=s.heap.push { cls:=.type "tuple",data:=.seq (vs++ws).toArray } })
  (hsz:vs.length+ws.length<=sizeLine):wpAny (model prog w) A (binaryOp .Add (.ref t) (.ref b)) Q E s:=by
 let ((cls,dd,data,m),i,l,n,q):=id u;let ((r,g,k,d),a,f,p,h):=id v;simp only at l q f h;subst l q f h;let e:vs.toArray++ws.toArray=(vs++ws).toArray:=by simp
 by_cases j:ws=[]
 ·exact concat_meets {_,i,rfl} {_,a,rfl} noFill_tuple_add seq_tuple_add PySem.F.slot_tuple_add PySem.F.entry_tuple_add (PySem.F.args_tuple_add_2 _ _)
   (tuple_addW1 t b vs.toArray ws.toArray n p dd g m d (by simpa using o) (by simp [j])) {i,a,x j}
 ·refine concat_meets {_,i,rfl} {_,a,rfl} noFill_tuple_add seq_tuple_add PySem.F.slot_tuple_add PySem.F.entry_tuple_add (PySem.F.args_tuple_add_2 _ _)
   (tuple_addW2 t b vs.toArray ws.toArray n p dd g m d (by simpa using o) (by simpa using j) (by rw [j6,j6];exact hsz)) {i,a,?_}
  rw [e];exact h2 j
end
section
variable {X:Cx}
def EY (K:Frag):R2:=λx y H Q=>∃a b xs ys,x=.ref a/\y=.ref b/\bN K H a xs/\bN K H b ys/\xs≠[]/\xs.length+ys.length<=sizeLine /\
 (ys=[]->Q (.ref a) H)/\(ys≠[]->∀p,H p=none->Q (.ref p) (aS H p (.tup (xs++ys))))
def bG.nil_iff {xs:List V} {us:List Value} (r:bG xs us):us=[]↔xs=[]:=by
 cases r with
 | nil=>simp
 | cons _ _=>simp
def Ry:kK X (binaryOp .Add) (EY X.K):=by
 intro i s σ H x y v u Q I B l h;let (a,b,r,n,rfl,rfl,m,t,C,f,j,p):=h;cases B;cases l;let (k,e,A,_):=I.tuple m;let (g,d,D,_):=I.tuple t;refine Uc A D (λz=>C (e.nil_iff.mp z)) (λz=>{.ref a,H,I,rfl,j (d.nil_iff.mp z)}) (λz=>?_) (by rw [<- e.length,<- d.length];exact f);refine {.ref s.heap.objs.size,_,I.laid (t':=s.toks) (o:=.tup (r++n)) (λb E q=>f1 _ q) (d7 _) ?_,rfl,p (λw=>z (d.nil_iff.mpr w)) _ (I.hok.fresh (d7 _))};exact {by rw [i6];exact f,_,e.append d,IsTup.new _ _}
end
end L2
namespace Ls
open PySem L2 PySem.W
def GE:Stmt->List Stmt
 | .For _ _ b _ _=>b
 | _=>[]
abbrev FO:List Str:=["_law_script","_law_work_here","_law_bounds_here","_law_most","_law_cell","_law_plan_here"]
abbrev AL:List Stmt:=GE ((bH Et).getD 3 (.Pass ⟨0,0,0,0⟩))
def Im:aK FO ["_law_script"] (aG Et):={rfl,rfl,rfl,⋯,rfl,⋯,⋯}
abbrev HX (P:Program) (w:World) (K:Frag) (mg:Str->Option Value) (base:Heap) (f:Addr) (cdv:Value) (A:Around) (outer:List Env) (s:Shared) (H:Hp) (E:XK):Cx:=(jC cY P w K mg base FO "law" (aG Et) f cdv A outer s H E).nox
def Nr (xs:List V) (m:Nat):jD xs none (some (m:Int))=xs.take m:=by
 unfold jD;rw [HT.sIx_none,HT.sIx_nat,E7,Nat.sub_zero];by_cases z:m<=xs.length
 ·rw [x0 z]
 ·rw [Nat.min_eq_right ∎,o7 (d7 _),o7 ∎]
def wE {α β:Type} {F:α->β->Prop} {xs:List α} {a:List β} (p:Paired F xs a):∀m,Paired F (xs.take m) (a.take m):=by
 induction p with
 | nil=>intro m;rw [Q1,Q1];exact .nil
 | cons h _ ih=>
  intro m;cases m with
  | zero=>exact .nil
  | succ m=>exact .cons h (ih m)
def Tz (v:V) (xs:List V):jD (v::xs) (some (1:Int)) none=xs:=by
 unfold jD;rw [HT.sIx_none,show (1:Int)=((1:Nat):Int) from rfl,HT.sIx_nat,x0 (by rw [j4];omega),List.drop_one,List.tail_cons,j4,Nat.add_sub_cancel,o7 (d7 _)]
structure HN (N:Cn) (a:Lm.Ps) (q bd:Addr) (sp ev le:Int) (H:Hp):Prop where
 w:bS H q a
 b:H bd=some (.tup [.int sp,.int ev,.int le])
 t1:gD H N.T1 kB fF
 t2:gD H N.T2 uC fO
def Kq (H H':Hp):Prop:=∀a o,H a=some o->Ki o=true->H' a=some o
section
variable {P:Program} {w:World} {K:Frag} {mg:Str->Option Value} {base:Heap} {N:Cn} {c:Nat->Addr}
def Xf {f:Addr} {cdv:Value} {A:Around} {outer:List Env} {s:Shared} {H:Hp} {E:XK} {D:eO} {a:Lm.Ps} {q F:Addr} {sp Q le g:Int} {d:Nat} {o0 o5:Option V} {H0:Hp} (nT:N.T1≠N.T2) (W:Wd P w K mg base N c) (hr:Room 12 (A.deeper (PyProof.Rows.envOfC "law" (aG Et) s.heap.objs.size f cdv))) (T:HN N a q F sp Q le H0) (a3:kY a) (b1:1<=sp) (b2:sp<=5) (b3:1<=Q) (b4:Q<=4) (b5:Q<=le)
  (k:∀o5 H',Kq H0 H'->HN N a q F sp Q le H'->D.nx [o0,some (.ref q),some (.ref F),some (.int ((4:Nat):Int)),some (.int g),o5] H'):
  let X:=HX P w K mg base f cdv A outer s H E;Wp X AL D [o0,some (.ref q),some (.ref F),some (.int (d:Int)),some (.int g),o5] H0:=by
 intro X;let nd:=Im.nd;let sl:sizeLine=16777216:=sizeLine_eq;let h:∀(p:Addr) (t:List V) (m:List Pn) (G:Hp),aN H0 G->G p=some (.tup t)->Paired (iE G) t m->(m.map Pn.x).Nodup->t.length<=12->(∀z ∈ m,z.a.length<=3)->Wp X (AL.drop 3) D [o0,some (.ref q),some (.ref F),some (.int ((4:Nat):Int)),some (.int g),some (.ref p)] G:=λp t m G J O pr L lx l3=>by
  refine {_,aH (bP (bZ (bX (aV (Lc nT W) hr aQ (aA (pv 1) (aA (pv 2) (aA (pv 5) aF)))))) aU aZ),?_};refine {_,rfl,_,rfl,_,rfl,q,F,p,a,sp,Q,le,t,m,rfl,T.w.same J,a3,J _ _ T.b,b1,b2,b3,b4,b5,O,pr,L,lx,l3,T.t1.same J,T.t2.same J,λH' kk t1 t2=>{_,rfl,bY ?_}};let (ws,w1,w2):=T.w.same J;exact k _ H' (λx o e ki=>kk _ _ (J _ _ e) ki) {{ws,kk _ _ w1 rfl,aL (λ_ _ ⟨b,z1,z2⟩=>{b,z1,kk _ _ z2 rfl}) w2},kk _ _ (J _ _ T.b) rfl,t1,t2}
 refine cL (n:=5) nd rfl {_,iU yQ (aV (Se W) hr aQ (aA aR aF)) tW (hV (pv 3)),?_};refine Vl.to (v:=.int (g / 2)) (by symm) _ {g / 2,rfl,λr t m H2 s2 ad pr L lx l3=>{_,rfl,_,rfl,r,t,rfl,ad,λp H3 s3 O=>?_}};rw [Nr] at O;let a2:=s2.trans s3;let y:Paired (iE H3) (t.take d) (m.take d):=wE (aL (λ_ _ z=>z.on λ_ _ e=>s3 _ _ e) pr) d;let u:((m.take d).map Pn.x).Nodup:=by rw [List.map_take];exact List.Sublist.nodup (M5 _ _) L
 let l:(t.take d).length<=12:=by rw [l7];omega
 let B:∀z ∈ m.take d,z.a.length<=3:=λz hz=>l3 z (y4 hz);generalize t.take d=ys at O y l;generalize m.take d=M at y u B;show 3;refine {_,aE (bP (PW.pt (fX eF (eW (cN (zE hr.units) (pv 5) (cD aF) (bQ _))))) aU aZ) aU,?_};refine Tv.to (b:=decide (V.int (g % 2)=V.int 1)) (by symm) _ ?_;cases decide (V.int (g % 2)=V.int 1) with
 | false=>exact bY (bY (h p ys M H3 a2 O y u l B))
 | true=>
  refine cH {_,rfl,i8 _,λt4 n4=>?_};let (H4,a9,s4,f4):=Oh n4 (.tup []);rw [a9];let a5:Paired (iE H4) ys M:=aL (λ_ _ z=>z.on λ_ _ e=>s4 _ _ e) y;let (rd,gd):=Ch (K:=K) a5;let I:=s4 _ _ O;let a6:=a2.trans s4;refine {.tuple (M.map Rp),.tuple [],.tup (bN.of I) rd,.tup (bN.of f4) .nil,(Gd.tup gd).shaped (by decide),(Gd.tup (n:=0) kW).shaped (by decide),_,rfl,?_};cases a5 with
  | nil=>
   rw [show (!PyData.eqv (.tuple (([]:List Pn).map Rp)) (.tuple []))=false by simp [PyData.eqv,PyData.eqvAll]];exact bY (h p [] [] H4 a6 I .nil u l B)
  | @cons v z vt M h0 ht=>
   rw [show (!PyData.eqv (.tuple ((z::M).map Rp)) (.tuple []))=true by simp [PyData.eqv,PyData.eqvAll]];let (b0,rfl,ag,wx,sx,p1,p2,hz,wz,lz):=h0;refine cH {_,aH (dX (i:=5) nd rfl (j0 rfl) (cE Ry (cD (aA (cD (aA aR (aA aR (aA (cD aF) aF)))) aF)) (iU yQ (pv 5) (hV aY) tW))),?_};let a0:kX (V.ref b0::vt) 0=some (.ref b0):=bV (j:=0) rfl;refine Vl.to (v:=.str z.x) (by symm) _ (Vl.to (v:=.int z.pc) (by symm) _ {i8 _,λt5 n5=>?_});let (H5,ae,s5,f5):=Oh n5 (.tup []);rw [ae];refine {by show 3<=sizeLine;omega,λt6 n6=>?_};let (H6,ac,s6,f6):=Oh n6 (.tup [.str z.x,.int z.pc,.ref t5]);rw [ac];refine {by show 1<=sizeLine;omega,λt7 n7=>?_};let (H7,af,s7,f7):=Oh n7 (.tup [.ref t6]);rw [af];let a1:=s5.trans (s6.trans s7);refine {_,rfl,_,rfl,p,_,rfl,a1 _ _ I,λp8 H8 U a4=>?_};rw [Tz] at a4;let aa:=a1.trans U;let Y:∀(S:Addr) (C:Hp),aN H8 C->C S=some (.tup (.ref t6::vt))->Wp X (AL.drop 3) D [o0,some (.ref q),some (.ref F),some (.int ((4:Nat):Int)),some (.int g),some (.ref S)] C:=λS C Z h9=>by
    let a7:=aa.trans Z;exact h S _ ({ z with a:=[],q:=t5 }::M) C (a6.trans a7) h9 (.cons {t6,rfl,Z _ _ (U _ _ (s7 _ _ f6)),wx,sx,p1,p2,{[],Z _ _ (U _ _ (s7 _ _ (s6 _ _ f5))),.nil},trivial,i8 _} (aL (λ_ _ z=>z.on λ_ _ e=>a7 _ _ e) ht)) u l (λw hw=>by
     rcases g7.mp hw with rfl|hw
     ·exact i8 _
     ·exact B w (d0 _ hw))
   refine {t7,p8,_,_,rfl,rfl,bN.of (U _ _ f7),bN.of a4,(by intro z;cases z),by rw [j4] at l;show 1+vt.length<=_;omega,λe=>?_,λe S n9=>?_}
   ·subst e;exact Y t7 H8 (aN.refl _) (U _ _ f7)
   ·let (C,a8,Z,f9):=Oh n9 (.tup ([V.ref t6]++vt));rw [a8];exact Y S C Z f9
inductive BV (K:Frag) (TG TP:Addr) (vs:List V) (H:Hp) (Q:VK) (E0_:XK):Prop|mk (a:Addr) (ns:List Int) (_:vs=[.ref a]) (_:cZ K H a (ns.map V.int)) (_:ns.length<=63) (_:H TG=some (.tbl #[])) (_:H TP=some (.tbl #[])) (_:∀H',Q (.bl true) H')
def Bk (K:Frag) (TG TP:Addr):Sp:=BV K TG TP
def AC {f:Addr} {fd:FuncData} (F:rH K "law" "law" Et f fd) (nT:N.T1≠N.T2) (W:Wd P w K mg base N c):bM P w K mg base cY 13 f fd ["_law_script"] (Bk K N.T1 N.T2):=by
 refine F.ok Im (λvs H Q E h=>?_) (λa0 A J s H vs Q E j h=>?_)
 ·let (a,e,rfl,_):=h;rfl
 intro X D;let (a,e,rfl,u,y,O,I,q):=h;let B:=Im.nd;let sl:sizeLine=16777216:=sizeLine_eq;refine Wp.ex (cL (n:=1) B rfl {_,aV (Sf W) j aQ (aA aR aF),eM (vs:=[.ref a,.int 0]) (uG W) j aQ (by symm) {a,e,0,rfl,u,y,λc0=>{c0,rfl,λp wk H1 s1 S=>?_}}});refine cL (n:=2) B rfl {_,aV (AD W) j aQ (aA aR aF),eM (vs:=[.ref a,.int 1]) (uG W) j aQ (by symm) {a,e,1,rfl,s1.seq u,y,λc1=>{c1,rfl,λC sp ev le H2 s2 L b1 b2 b3 b4 b5 b6=>?_}}};let Y:=s1.trans s2;let (us,u1,u2,o):=S.same s2;show 3;refine {_,aE (eD v4 rfl (jU (cE Zy (iU Bo (pv 0) (hV aY) (hV aY)) (pH (aA (aV (uG W) j aQ (aA (pv 0) (aA aY aF))) aF)))) (aO (i:=4) B rfl (j0 rfl)) aU) aU,?_};refine {_,rfl,_,rfl,_,rfl,a,_,rfl,Y.seq u,λl nl=>?_};rw [Nt];let Z:(fS e (some 2) (some 8)).length<=63:=n8 (Nb _ _ _) y;let (H3,m,s3,f3):=Oh nl (.lst ((fS e (some 2) (some 8)).map V.int));rw [m];let t3:=Y.trans s3;refine {_,rfl,a,e,8,rfl,t3.seq u,y,λr=>{by show 1<=sizeLine;omega,λl4 n4=>?_}};let (H4,m,s4,f4):=Oh n4 (.lst [.int r]);rw [m];refine {l,l4,_,_,rfl,rfl,s4 _ _ f3,f4,by rw [f8];show _+1<=_;omega,λl5 n5=>?_};let (H5,m,s5,v):=Oh n5 (.lst ((fS e (some 2) (some 8)).map V.int++[.int r]));rw [m];let e5:(fS e (some 2) (some 8)).map V.int++[.int r]=(fS e (some 2) (some 8)++[r]).map V.int:=by rw [m9];rfl
 rw [e5] at v;let g:=s3.trans (s4.trans s5);let t5:=Y.trans g;generalize fS e (some 2) (some 8)++[r]=b at v;let T5:HN N wk p C sp ev le H5:={bS.same g {(us),u1,u2},g _ _ L,Bf (t5 _ _ O),Bf (t5 _ _ I)};refine {l5,rfl,{_,cZ.of v},lR (xs:=b.map V.int) (λk σ G=>(∃(d:Nat) (M z:Option V),σ=[some (.ref a),some (.ref p),some (.ref C),some (.int (d:Int)),M,z])/\G l5=some (.lst (b.map V.int))/\HN N wk p C sp ev le G) {{12,_,_,rfl},v,T5} (λk σ G _ h=>cZ.of h.2.1) (λk x σ G t h=>?_) (λσ G h=>?_)}
 ·let ((d,M,z,rfl),U,T):=h;rw [i7] at t;cases ex:b[k]? with
  | none=>rw [ex] at t;cases t
  | some cell=>
   rw [ex] at t;cases t;exact Xf nT W j T o b1 b2 b3 b4 b5 λz H' kk T'=>{{4,_,_,rfl},kk _ _ U rfl,T'}
 ·let ((d,M,z,rfl),_,_):=h;exact fV {_,lK,q _}
section
variable {h:Heap} {C f c T:Addr} {x q:Str} {st:Stmt} {oc:Value} {od an:Option Addr} {osl:Array (Option Value)} {kV doc pm cdv ct:Value} {fd:FuncData}
def Df.mk (X:K.In h) (G:h.Ns mainGlobals mg) (a:nsIn K mainGlobals x=some (some (.ref f))) (l:K.lookup f=some ⟨oc,od,.func (fnOf x x (dH st) (bH st) (aG st) .none kV doc pm an cdv ct),osl⟩) (h:codeIn K cdv x=true) (k:keepIn K (.ref f)=true):Df K mg x st:=⟨f,_,mg_of X G a,zY l h k⟩
def Dc.mk (X:K.In h) (G:h.Ns mainGlobals mg) (a:nsIn K mainGlobals x=some (some (.ref f))) (l:K.lookup f=some ⟨oc,od,.func (fnOf x x (dH st) (bH st) (aG st) .none kV doc pm an (.ref c) ct),osl⟩) (h:codeIn K (.ref c) x=true) (k:keepIn K (.ref f)=true) (t:codeHdIn K c T=true):Dc K mg x st T:=⟨f,_,c,mg_of X G a,Dn l h k,t⟩
def Mf.mk (a:findIn K (.ref C) x=some (some (.ref f))) (i:isFn K (.ref f)=true) (l:K.lookup f=some ⟨oc,od,.func (fnOf x q (dH st) (bH st) (aG st) .none kV doc pm an cdv ct),osl⟩) (h:codeIn K cdv q=true) (k:keepIn K (.ref f)=true):Mf K C x q st:=⟨f,_,⟨a,i,k⟩,zY l h k⟩
def Mc.mk (a:findIn K (.ref C) x=some (some (.ref f))) (i:isFn K (.ref f)=true) (l:K.lookup f=some ⟨oc,od,.func (fnOf x q (dH st) (bH st) (aG st) .none kV doc pm an (.ref c) ct),osl⟩) (h:codeIn K (.ref c) q=true) (k:keepIn K (.ref f)=true) (t:codeHdIn K c T=true):Mc K C x q st T:=⟨f,_,c,⟨a,i,k⟩,Dn l h k,t⟩
end
def JG (K:Frag) (l:List Addr):Bool:=(List.range 9).all λj=>(List.range 9).all λi=>kitOne K (.ref (l.getD j 0)) (.ref (l.getD i 0)) == some (decide (i=j))
def Zl {K:Frag} {l:List Addr} (h:JG K l=true) {j i:Nat} (hj:j<9) (hi:i<9):kitOne K (.ref (l.getD j 0)) (.ref (l.getD i 0))=some (decide (i=j)):=by
 unfold JG at h;rw [F0] at h;have h:=h j (C3.mpr hj);rw [F0] at h;exact eq_of_beq (h i (C3.mpr hi))
def nine {p:Nat->Prop} (h0:p 0) (h1:p 1) (h2:p 2) (h3:p 3) (h4:p 4) (h5:p 5) (h6:p 6) (h7:p 7) (h8:p 8) (j:Nat) (h:j<9):p j:=
 match j,h with
 | 0,_=>h0|1,_=>h1|2,_=>h2|3,_=>h3|4,_=>h4|5,_=>h5|6,_=>h6|7,_=>h7|8,_=>h8
def wcs {K:Frag} {l:List Addr} (e:∀j,j<9->uU K (l.getD j 0)) (pw:JG K l=true) (j:Nat) (hj:j<9):KW K (λi=>l.getD i 0) (l.getD j 0) j:=⟨e j hj,λ_ hi=>Zl pw hj hi⟩
def all_mk {l:OpenLaw} {w:World} {K:Frag} {mg:Str->Option Value} {fa:Addr} {N:Cn} {c:Nat->Addr} (nT:N.T1≠N.T2) (hfa:mg "law"=some (.ref fa)) (D:Df K mg "law" Et) (W:∀base,rJ base mg->Wd l.prog w K mg base N c):
  ∃fd:FuncData,(∀(s:Shared) (v:Value),BindsTo s fd ⟨[v],[]⟩ [("_law_script",v)])/\∀base:Heap,K.In base->base.Ns mainGlobals mg->rJ base mg->bM l.prog w K mg base cY 13 fa fd ["_law_script"] (Bk K N.T1 N.T2):=by
 obtain⟨f,fd,m,F⟩:=D;cases hfa.symm.trans m;obtain⟨oc,od,kV,doc,pm,an,cdv,ct,osl,rfl,lk,hcd⟩:=F.ex;have F:=zY lk hcd F.kp;exact⟨_,λs v=>.of_eq rfl,λbase _ _ hB=>AC F nT (W base hB)⟩
def tabsOk {h:Heap} {TG cTG:Addr} {TP cTP:Addr} (aTG:h.get? TG=some (tabObj #[])) (bTG:CodeHd h cTG TG) (aTP:h.get? TP=some (tabObj #[])) (bTP:CodeHd h cTP TP):∀p ∈ [TG,TP],h.get? p=some (tabObj #[])/\isCodeTable h p:=aW ⟨aTG,(bTG.tab aTG).isCodeTable⟩ (aW ⟨aTP,(bTP.tab aTP).isCodeTable⟩ bW)
def walk {l:OpenLaw} {q:Program} {loose:List Str} {XP:(Str->Option Value)->Heap->Prop} {YP:World->Heap->Prop} {d:DefRec} {K:Params->Frag} {TG TP:Addr} (hn:l.most=some 63) (hdf:d.params.defaults=[])
  (hY:∀(w:World) (h:Heap),YP w h->(K w.params).In h/\noTabs (K w.params)=true/\∀p ∈ [TG,TP],h.get? p=some (tabObj #[])/\isCodeTable h p)
  (F:∀(w:World) (mg:Str->Option Value) (fa:Addr) (h:Heap),(K w.params).In h->h.Ns mainGlobals mg->mg d.name=some (.ref fa) ->
   ∃fd:FuncData,(∀(s:Shared) (u:Value),BindsTo s fd ⟨[u],[]⟩ [("_law_script",u)])/\∀base:Heap,(K w.params).In base->base.Ns mainGlobals mg->rJ base mg->bM l.prog w (K w.params) mg base cY 13 fa fd ["_law_script"] (Bk (K w.params) TG TP)):
  WalkO q loose XP YP l.row.toRowW d [] (λf vs=>PySem.call f vs):=
 L2.walk_ofT (z:=[TG,TP]) (n:=63) (k:=13) (x:="_law_script") (CX:=λ_=>cY) (sp:=λw=>Bk (K w.params) TG TP) hn (by decide) hdf ⟨rfl,by decide,by decide⟩ hY F (λ_ _ a ns hl _ hT hS=>⟨a,ns,rfl,hS,hl,hT _ (by simp),hT _ (by simp),λ_=>rfl⟩) λ_ _ _ _ _ z=>z
end
end Ls
end
local macro_rules | `(command|#check $s:str)=>do
 let l:=s.getString.toList
 let c<-(List.range (l.length/10)).mapM fun i=>`(command|theorem $(Lean.mkIdent (.str `PySem.W.Fast s!"tw{((l.drop (10*i)).take 10).foldl (fun n c=>n*90+c.toNat-35-(if c.toNat>64 then 1 else 0)-if c.toNat>92 then 1 else 0) 0}")):ident:True:=⟨⟩)
 return Lean.mkNullNode (c.toArray.map (·.raw))
#check ";,/+y}r|atCsc3W?ZBi<*(=8THeWGSG:Ii?S.v8R5$I66nT'nu*^|lUmGvSxI)fTq;[O+URe'yE7pUv{SXLZ>_Ub82%w#~tPvruvIyu`_?>][>*t)tIu(ctL.VqA-L:GXjJt>'xW4l9+P*mo2T5-%Z2<F^<sIfTI9ZCGkM9~>KGE8JdD:1bXNEKi(vS;Y`RU>ypVI*z:%QA^bVlu?I.F9c~p});TN,`N<m[U:fJTRZ`uAJ<82A[BFFjch*G^^i/v6-n20tt]25sv/|61d{?2ha}.FH*O(az$dCF]2DEr+=r{A-;|Hsd'zc(LBFEleBxTBl*/Q}OQ8s0N=x4vQMI#(2H(m31uR':LLQer}FP`#L<V^)tC?2R32D<k8q<E*5U?T?CYI0$(%pFne2?c%1]Pr;b#L^;k8T<S2d|r:i2$K<8nHE7u/h^-2?*(.xm:61xw=g0OE[th&-h#Pj+)??3vzn'D)qjF^>C5GR{#IGre]fL</_fTTLM'Oa5gfl1bGV7&vfJ6-sL9INS2'>?$a:?(dOP.hYnMEi)>G/`Qgp'=0>Ege(lU3iDFZJa`kl'Nu7dE3UKNHjoN1bJlL[M`NdK]'#CRI=T2U+F*,n3S(/r$vQi=JJw81HdtC=P11UdU>n(%FV>+|Q95BCD+-pHOG;~|&x5d8C^^0ZR91E|TiP|YBQ/`~V${%N=a'^U7`NF~10rOGbT-xaIK$6=QT*EK')(NGwt,RZ0KV/nUV0+pBLP?y#+iXT5=u.-7'F&C%#XQ4+M[xaBTjv14awTA#$9aNpl2DGOK5u9U.TR(&h|+5%>~JA:t{'<R.*D40n##9<v<g=)|{l{*Yms5+QUss#Vca$RH%,e(*}fP?dS-cEiY+>BA}Lt0xyy'=#pdM,[R7m0f,%fl*y`A3.AGBq`fQwN7xb`1c&?}HU=l*0UMqs=Ib6<]%Rr+I[SNT%kmi]O+,})c|d1E3eF-U~rup0=2Vh8A`d2'OP]>UYod=_BTM9;1f|Q($zfgEk671VQc,fXeJjkV6R$).$)q-64[f#,g8<*[R$v6xY].tF8$FQrlcAuK;]svw{0K84-MGbv%D_L$SG8Q[hh3JK/)xC_,[(Y8+u<BPEWeOBDeR|==,;it/hD,zb*3NfG9S9'vL)QJ5A5ybY]Tl,<Su3sUHR9AQIEcK=}#KzF-:7M*ju|?4bSUx-g(5x5[,W|vnMGiDB*VYm;W/w?LDGvMIHh|Fb3,yU=n'QLafQutd)hN,_[r&^7(Q:5,-lIY{W|BRrD#<BRkcf<mnE23ea'e)HNr<~Q(^AB6')ao-'s2>=medbfz/*LBAKFrmjyV9|RVDno?Qq?ouJEHPk=cEovi^~Y`C$=,}K5X-=5M.](ElpOpKo'23.-(spVC4W:T3J&UCmLy<Is7#(V-4JSO(J;$M~-1pR;t+U.[QNr=-D|rLsP<Q4?9>7^FN(d%)mq/3,0/uwrLDM}m#Pu}5U{+n+#~avcS{r:l'ZpRJG-_$.2-we6mS7yI$Jz(#Q~1?]Rp'O>8g51_OCd1L]99p9B1}5,ipQU[*%i-5&a'It;vm|aSL52J<cmXZ>3Q{q*m$F6H5KuGIZ'|Ythl55Hx_<dptT8hLp2~Qc>hGh5`th*nNWak8WL^1f8j[2JtzEwwX'uF?Ur%EtHN2|4kOnOz7A$BPRtIWY)EKW#>0x}_mz]&J6z-;2T[oaJ/*lwb=dy0?%:+1s/*xZQ&,9W(2HIVL#k/6/0?Q1>ppQ?3bl62D0u{o`E{B/7rpsX:u5RR#AfCw0=pdZB0WI`$g;yyPkYS;>Fi`[GRN(eL&QXLQl4d|=+zLTBPt-Bo#%g&8)*ZXRnLSmL>*L_%N3M_9c:Y{jITmC;=?R_1FT=UMx&OL#2TH'H~o6O%E*AH*si;Pr8P^j&N_'vcWGPt30x.,^sM[T>J8w1CeO_,97)k>OlEO1E9sS<3jP}J#(T6IX398UHc=gKgq`??4)8~'N)CLKR2uP];RJUo<j}oroAMlq?QjD%?93>P69ltJX(l#>*X=+/|xstYDApx*x.%.JRhK;:<E7#_<=IFB8i5a-?7Jmq;[]4{C+.{yLM0l[ORXbxn`?W2Aq~Sii$Q+'C$1vJXC)4_1~%jsIX_v(.}7fC*89YD<V#y0~_zRX6FOXzs'le<K*RnT>P{/#NdqY>I{>};Q#iJghkcTF?^b+BJKuF_5B$]]Vn9,O?HFmn-yb>mJF=LsZH>%HCo.,ROj0[sO]opiEx>VERGZ~,:X}w}4b6DqOk9]IPc=`|%.?1aNK'7s/qNDN1dxWE#L)HqG;os&,kGN^7meezwSScb/BH.3_L:~`/p8hCJ_Dv$<(Yhr^II,),;&z`LAj6~>]ooV?)4}p4ZTLE0v{SZ:(fCo|)lA-43x4FBSLGDNu9#1}FIIkC#EC}8^>>n+J/q+Jy01P'NJ?7p$}9L+:(]|pu}RS-GI{>}N;V#NVdqgU8Ww-&D%v*?':^bDe^8o=q0JAPB/cnc9PEYCl%Oq'7zd];?Mnf=;rdo4w-p/k.>S1S3%50=[bi<R{GV{p1<%CC4~[I~kjvm$lqC<R+vNA;)uU?NrD]EHO%G<,m~mA+~IwA%w7|P17P&VzbZUZG3]7]}~eKG;NJ)_.c}$>RqLcDaP18=K2EM}&8BP`)v~,Hu(zcf=W`(sdS>u]0YFPGGCtF7AAKqkauD8XM~iU=V;SMWMP+T5ietNw52;pPm`,c)O9$W]J^9n;B8VfQ7S(=7CY(5iIh5W:5#FKJeTuoD'[UK:Gaf%_.FuGW8d{ytS5jp.e*Hw$49%[D4V~{r+U'OL(}zNHJoBK3jbYt78V-}0^6i];A6qbS=G`~%QTJ'^?_HlWAE;6TM8gHW#8K.3#mINQ'0*d/N;gaB+kj<4=5^,PC,=f,h)Yn3(nnMt(3-6e'l>#7>{2}^(Xp_2cqqHd?,V/Rxj=ku?`2(rThEg]7&1vM8_BbQGQqL;6%7^'1P8XtBcWA/6X(=SQo5(O2f:2WDIQHC*mlM_#F)}JQOcKg5nUa.7i]D0uD?~G'C|6kcZCT,OE|RcP'8MvE[7g#,{c0,OiFpKl^~{{MN2h67kv:{A&/K0ZaDw,Aow)Wo'}t>P$Qsw;NIg[/^&K}N|V=POmvtNtca0d-FlFwHsh`J<v=|D:B7F+J3F+_:kh/3FYg~*O8dM2DvN*YwxTbp>X.u#V77hf.4[:7uMj(AM:x;c^p()H-Do-F]aX;CE)f{.h-G|J3cjN>&C,r%;.P?lie,GB/Pg9LX()2b,|Y~_F<O+;8D_t7tLzzy2+]'bsWkvNMKv8CMJx)'$q$M]d(I|)AVO$QOOyX+'B~^v|+r`c'X%glJl:O~=&O`udR#u{Ox^~-^&8I~*zQ(L$0iS*0hv5ZLmj=[)q&*G&9W;1#7{3^eqXcA1>Pc1L_5;W/-a;(~'WU02;>H9X|Q=(C%(Sd{P<V+9-uf2brO-[({adq?oiudS#Od'xWgyKI{KApGRO?M#^:j6z8*)86n8Agi;D|F'BUIZymOJE>.%/f*w9xxD1o'thM^,z9/-sn+#`P~CTg_X07v#D1[mLh^gY3K8~#/7&pKrfIru$-JvyfQ>blawYFegt*2&oZ;^^W-RD_#43/#f4({3-SVA'E)I7Fmv?V36KMp2,&r|3#VRU$rKV$g^1;qu~hg%`z)0^&V?zig&r96b*v,fZ,[=FvpJ&7Yi1/xf,eAD#,H1]e[&Yo#ZYLkbArn(ln<3V&flNtqcJN^g95D`to<6z&)#v3_rn.Fmy&uK]$u#5gd9FXT9;1_BF;SMjvRAZH,(,^`]$0naxN544A8L~1BMBXRl-2{VRqHP%|3K,b>)6.vv&&IGwFFlH^HJ19::Vn7vS.BSYI,RB&T&N+sZ^Y;pe#aniPD.Ka<;SQ6did~+V.qE%(bKR&x?W_j<vse:}0-vZ?TN8[BIcsZ3<;2JsDQg[d8Tp;g6`e~9<L,RgM5'P&WB$j/7w?c'dl78b5AhqzMjd6p8sv&ro6^Zi3h`*u'vVJpHC`vKP_&i&DO`D96Xgp*#*0H9f39l$7:yYG~Rp+y,hUC$*QHyb#z|2|JxvFU)1JTvP^B>.E+`Y_gTeE<Ie-rJ%q'3IPd-]7T5?)YQv(L:9#.Jq%vdMGgr8.)Qh(yJ[M*xDO?*Z44$Pt7.[_N%Ca+F6;-+lsaQC;WSWS+H1Lk=B.eOGNEz%T^'~yR*r=J^&.o8FtqV%#'1_FE=Lla]b'SWuJOdm$D6+w;m=wNU:Cln(TP:64$PPL(1?f|Yb#|9bn|fm=h-#&RZ6$j8C>d+GfuMA%(El0dx`mPcoF$>8h_DyYW5A<byvPVC(47Y>$29OgeH_Q&fTsuCI8$3G8z5j#'4a#SR'|[|D>E(q]y^s(u0x2]VC_+20JivP>d-{C<+8C]t+A3;dR$<K;7ikJKJvl7uxu+{A#BP.;=941E&XMBhOBR,eEwQ`Qww*dN32W..KX0&~&q^)dH7eHE/{=woBf/q34JrT~HM,'='3q3m^QjYD,/=v|QJLe66(nXsA2._CRRq6gS>=mkE304ij#,|-FlggJbPSJ$AC(vAkyo6hH57)];YF<G,-&iRF%O7p%CW>mIaR/K.mvDgKv{[=SS^98Y;)$F:Mj-O=H`008Kc)`DdE?W6K:jPglL:W*qyo=8Cb%BB1xciL$1a]Qy<Nn}l,w==M.O=~z|yl/'kbV8el&XQB&QE0hNCc#~F8Z^=M$a4bezF=0_|O(B3>IXD^}SJS]J|km*eZ')4O2)dew9+E~C.+H*j%<&X>vN5xQ<ESR~dVl(.|=GR?wvx:hM31W5Pw=t.)85O%+fI0]}IHWNlvw)(I#FaFD<pYbTA/9bU^LeEU9yI_b-DqN*AM$nfi(QI|0KNquTfZ+p250wG?-xJNLw-h7S9|>sRH}AUX1/nk2'o1P=U'+$Gw2gWXU{T3>3V>':UE(|$IA%NJNhZ00HX^}B^X*>7(r~n;UKN_<TK,g'(w>9Qjt'*BIMvjRHek]t}x2jO+z['D]T+JBh_(u0w%H$4Iw?IU>k3WRC#I.nRIxo.#)-bPY}sy&m&:n<&LvaMsVd[mBgRvD[[<Z&%Yl41=ZWvp}5};S+nzG0H(^Z?2Lq&6`v4/1Au]t3zyMfK}vFa+[x-pKb&~Oltr|c4S/+b0L`)k:d)O0}LHMDChgppi=f4j>|Rw$3v-7CCWa6fpe7If3X.u(?vGd]SH]iA~)>t[Ef?BEx+R(<5;]ahCj>JL,dZR>~OFh'KOy`,`v~f1%28X(?^lvn$D}oAUV{LuHIWM6HQrGM6$92Z]L/WY?XRdDTTSm18-*<~%=&^<;I&?-vZ68I;emKLCi_`4*V[+)%jo(m7u1s&p*J{B(]iPj,6[YgMtJIVo^LadP{nM_Ojj|z582j62f*mwG[~73iNzf-6F9}c:dXH)*'O6G1aW}tGNwi]cD8'fOXt<vKo&/k8:=f27t/8gK`v_eLHA$6MCT5vQGi*I;O|7zX3OS}EWJJ.I&a5c&~75emZBf61v8rWqr2z/$iL-N3h~}~Mb'e,Nz%d5>7C_;w-i6sB09(+{Y:#oS)3dW+3N$1,{xe#p`aKm/)9}Tpjc<).RGj3(u^#AOfDg-},.Zj=nFFD*$?`vKwQz<yz3?`Pl6$v/i0#44tOqYhR91b*ZeA%eFJ2ORvLj]QVt(h$4^OD<8U]c#(o:5G2s~f$++#`66={U=Nt>VOLS,3=Q]*5u_1rx'SDKkzgLR[.?_D~VjST}*ySl-PK|Q):b4$K^-&ya;G`/=yil|{9>pbkpEH4TPyAu%_M2D{*#|96BFIP3*BYHh:'ql*D&%E<nt=LE9MC_1V'yrWG2LA_K']`i:BGzrG?<7y9pqY|QHMq1Hw?k_*;Pub$Sg#<k[.+2Nw|zl=#?B[P3PG(6ju^LH[oAT6](qy'`_h0nYid;*ql~$)F3v;H;#$+'|pX'0>rx3/t8T)K.J{XZupMaQN5P36f/3$L}76kupH<IKl_h;/t1N(95*a8lSnN11Yu3`#B-o',M/UVAHpiw(BsqZi3<)X)jMl_{u&hbBx=I_QzPOO*B/Q}N7OtB8vMcsP:`;>NT8o#e&]$O.fqAn%X_7g,UsoT#X}3G0Ul^Dd+cdR'+h}AeQLUcElEfTn$1wAHTW0'<F9|gA9i;eV;MQ',P9Z&sI;=+):%1yfm6PeRDj)8`R-OB'GZQ.w{&GmOC.4XHu.tt$h_OXHV<05G;p_+O%{2kF<])8[?/fIE[VQ-Z>p'7:Y0?tf32SgPr3I:9DdU<HjN+T'`zKTPJ_,5jfEKyD~tYd**.bF'P^Eb&3/1WI7rMP'q}0e79|vMkr%f=)m18pcN``GFA.,bWGT7u-=IE]v]_W`5$y31F2B)u#WqDPw2kRp:pzO&do(~36r,kvl)uJy$t^,rVm}[QGUr~v:lY0SPRVn,v:b>iA?TcZ=JsZ_QOHL.GQH(p#6N^bV/?>W,XJUE}f.jc%)pU>4f)wKPmnA<0?^oNJVTK;1)ol[Plql&htI8|=M$T|wfloG/zU?.|_o#[H&0^C]=tj0EDHx*A0={u9q16V`t`/F;e=a.ngf#fOZUJ)=+yaLK-J?JrL}~JIA'52EGrteLIMkSh-6QnGksbr/p^ySGq[m;UT?Gl,<oUKGe}1sAy2_):UH$}GVUm}vxroi&S),12_6*0QThct-2lzAM&jB?3N2%B?y}H|<F5nS'ndsk>g30I07t=m(h|gX*Eu4M<6-300kwJjdy/wo7f?O<TIFgYGAZm5T_|2=9rZ}tR+CH$5:lA0(Bv*,F.7V1USpjqALW-Pd5DVh>N[AhEN5>t6$II1U7uUq=+l7q#Ag}x+GNWdU=A,p<-R?S%^f9EK.;-|^<TH%.^5*-EDY*P.~~3GL5+W0,QJ=[U';C-JGIt5wEo:T&W|x9sE:y{<P#gTB~:u]P}X#P>/HZ~2Z>Y{;>iTw+X>r^9^K^P3T;3-,1W/?MfsMEAMT:{Kc$3+*i6NPJ$qEw$c{S;8U,pVQy~5:=E]RGX?Pi2Q`L;yJ[v(|FWl22+qeJ$+~`>DtqQ9z$mOq#zD,_,&uY/}<>='65HrqBr.f{q##?>&H#:Vu0+Y]:X(?CK(:P$0n?HU}?;DpxwbWjk36<8_^qb+J7<Gq&d$?pv%kV=>DgW:X8d3#Q0(s(cF}gjW/TVl^FVd1q;z8s['S=yy8/%OB49?#yfT8X'DQRVe`a|Zw=.*HsXn:%F?J'tR+qw}{,xhV/{g60MQ3py'br&`*3^jV3m5rgY:Q-5P8sHK.8c+.h#csM$O1:=DQKw#ID)y'%`1m>c5B6ig9'q[&#7D?LrTP.w&,-38>0)?eR+q,z9H=R'9~Eiss]7}g*hldc8Xn<e(<15GI/r]KR'+>SEYa?L-Y&^rlq+0()W<wM]dXpzPWiPqyK'`</yDy?;Cf:d';ODkFNtoY%8h9&mWU+(6Bh]K:EnVBOF%l[^MhSPA+a=3b0NLKCZqi7{uvSk)Tb[WdZAaiK=y.4o%0tP5U688Ta5Aj4JR=yRo^Jc)Kxu1Q`^Ql3?Mh&v?5Nr4_YuZaOIN;RBx0p=ZKcH3SGxK[ra<wE&_LfcFi-w:4~L|u;r.s3(%~VT5;%N2mJXZrBVQw;SS-Hd{rjKCqU0LPjNb6Geu(~rQ~4|7RRzR|)8d.E5-{o{hlwoKl3Gi%W$k?E?QMEZeUEc.f_(QW.sB/(fk4Xluk'))UsKi?lX+CK7WtcBWmJ?&QjKp/2T'09{0wvt:IT#:rT7']5#mV?ez1t-[kI4P#gbjve0qw$d$llLb30_C5}kq7E-/:9RY{mmPdYt14oXyF)uN:*IU%)YBQ-2Be-,D.5=`SI*d/yiq{krIoRzor{zjkO0P?TU8RgC']mI~qr6#|?WT/`_*Fl9Qag07{aT,2)*u#>3{5$5I,Lx`v8TYe8esbdL&Ygk)[0`:3cA3UQ{xS[V76N^E`WwSUXIi]K'*L:c2oML%=zo(k^fWUG1dvRm0Dy)4],ZEFU.}E41EUru*gyPHv)4q;G)Cb*{4f0I3&]''RGpa2H9z7B>#V_Me/g;/[6-|<i87J7NqVZ(kbl42ezO%^mDRt8NJ4{Q.x;{$rgB]oEhfV8OMA?P9J3QJJmT}n9F{979xyIP5)^&*sgzL_557Z*S5PV#u$.p62hR9Y,tr*9s|<1gc5bMJ]vl`haHI-;rC}dMv'/tBpcd5R>#EuLW({LYhJ_K"
open PySem PySem.W PyProof.Rows
set_option maxRecDepth 100000 in
set_option maxHeartbeats 0 in
theorem PySem.Challenge.cw_lentwork_k84_whole_done_again_and_in_tim_holds : PySem.Challenge.rw_lentwork_k84_whole_done_again_and_in_tim.Holds := by
  w_on; o_law; k_head; (case hw => w_witness2)
  k_fill
  refine Ls.walk (l := PySem.Challenge.rw_lentwork_k84_whole_done_again_and_in_tim) (TG := 402) (TP := 754) rfl rfl (fun w h Y => ⟨km_in_of Y, by kernel_rfl, Ls.tabsOk (km_tabs_of Y 402 (by k_mem)) (codeHd_of_K (c := 406) (P := 402) (km_in_of Y) (by kernel_rfl)) (km_tabs_of Y 754 (by k_mem)) (codeHd_of_K (c := 756) (P := 754) (km_in_of Y) (by kernel_rfl))⟩) ?F
  case F =>
    intro w mg fa h KX G hmg
    refine Ls.all_mk (N := ⟨567, 377, 263, 402, 754, 621, 689⟩) (c := fun i => ([92, 104, 116, 128, 140, 152, 164, 176, 188, 68] : List Addr).getD i 0) (by decide) hmg (Ls.Df.mk KX G (by k_is) (by k_is) (by k_is) (by k_is)) fun base hB => ?_
    refine ⟨?G, hB, ?S, ?P, ?B, ?T, ?R, ?Q, ?iR, ?iC, ?iP, ?iS, ?iB, ?W, Ls.wcs (Ls.nine ?e0 ?e1 ?e2 ?e3 ?e4 ?e5 ?e6 ?e7 ?e8) (by kernel_rfl), by kernel_rfl, Ls.Df.mk KX G (by k_is) (by k_is) (by k_is) (by k_is), Ls.Df.mk KX G (by k_is) (by k_is) (by k_is) (by k_is), Ls.Df.mk KX G (by k_is) (by k_is) (by k_is) (by k_is), Ls.Df.mk KX G (by k_is) (by k_is) (by k_is) (by k_is), Ls.Df.mk KX G (by k_is) (by k_is) (by k_is) (by k_is), Ls.Df.mk KX G (by k_is) (by k_is) (by k_is) (by k_is), Ls.Df.mk KX G (by k_is) (by k_is) (by k_is) (by k_is), Ls.Df.mk KX G (by k_is) (by k_is) (by k_is) (by k_is), Ls.Df.mk KX G (by k_is) (by k_is) (by k_is) (by k_is), Ls.Df.mk KX G (by k_is) (by k_is) (by k_is) (by k_is), Ls.Dc.mk KX G (by k_is) (by k_is) (by k_is) (by k_is) (by kernel_rfl), Ls.Df.mk KX G (by k_is) (by k_is) (by k_is) (by k_is), Ls.Df.mk KX G (by k_is) (by k_is) (by k_is) (by k_is), Ls.Df.mk KX G (by k_is) (by k_is) (by k_is) (by k_is), Ls.Df.mk KX G (by k_is) (by k_is) (by k_is) (by k_is), Ls.Df.mk KX G (by k_is) (by k_is) (by k_is) (by k_is), Ls.Mf.mk (by k_is) (by k_is) (by k_is) (by k_is) (by k_is), Ls.Mf.mk (by k_is) (by k_is) (by k_is) (by k_is) (by k_is), Ls.Mf.mk (by k_is) (by k_is) (by k_is) (by k_is) (by k_is), Ls.Mf.mk (by k_is) (by k_is) (by k_is) (by k_is) (by k_is), Ls.Mf.mk (by k_is) (by k_is) (by k_is) (by k_is) (by k_is), Ls.Mf.mk (by k_is) (by k_is) (by k_is) (by k_is) (by k_is), Ls.Mf.mk (by k_is) (by k_is) (by k_is) (by k_is) (by k_is), Ls.Mf.mk (by k_is) (by k_is) (by k_is) (by k_is) (by k_is), Ls.Mf.mk (by k_is) (by k_is) (by k_is) (by k_is) (by k_is), Ls.Mf.mk (by k_is) (by k_is) (by k_is) (by k_is) (by k_is), Ls.Mf.mk (by k_is) (by k_is) (by k_is) (by k_is) (by k_is), Ls.Mf.mk (by k_is) (by k_is) (by k_is) (by k_is) (by k_is), Ls.Mf.mk (by k_is) (by k_is) (by k_is) (by k_is) (by k_is), Ls.Mf.mk (by k_is) (by k_is) (by k_is) (by k_is) (by k_is), Ls.Mf.mk (by k_is) (by k_is) (by k_is) (by k_is) (by k_is), Ls.Mf.mk (by k_is) (by k_is) (by k_is) (by k_is) (by k_is), Ls.Mf.mk (by k_is) (by k_is) (by k_is) (by k_is) (by k_is), Ls.Mf.mk (by k_is) (by k_is) (by k_is) (by k_is) (by k_is), Ls.Mf.mk (by k_is) (by k_is) (by k_is) (by k_is) (by k_is), Ls.Mf.mk (by k_is) (by k_is) (by k_is) (by k_is) (by k_is), Ls.Mf.mk (by k_is) (by k_is) (by k_is) (by k_is) (by k_is), Ls.Mf.mk (by k_is) (by k_is) (by k_is) (by k_is) (by k_is), Ls.Mf.mk (by k_is) (by k_is) (by k_is) (by k_is) (by k_is), Ls.Mf.mk (by k_is) (by k_is) (by k_is) (by k_is) (by k_is), Ls.Mf.mk (by k_is) (by k_is) (by k_is) (by k_is) (by k_is), Ls.Mf.mk (by k_is) (by k_is) (by k_is) (by k_is) (by k_is), Ls.Df.mk KX G (by k_is) (by k_is) (by k_is) (by k_is), Ls.Df.mk KX G (by k_is) (by k_is) (by k_is) (by k_is), Ls.Df.mk KX G (by k_is) (by k_is) (by k_is) (by k_is), Ls.Df.mk KX G (by k_is) (by k_is) (by k_is) (by k_is), Ls.Df.mk KX G (by k_is) (by k_is) (by k_is) (by k_is), Ls.Df.mk KX G (by k_is) (by k_is) (by k_is) (by k_is), Ls.Df.mk KX G (by k_is) (by k_is) (by k_is) (by k_is), Ls.Df.mk KX G (by k_is) (by k_is) (by k_is) (by k_is), Ls.Dc.mk KX G (by k_is) (by k_is) (by k_is) (by k_is) (by kernel_rfl), Ls.Mf.mk (by k_is) (by k_is) (by k_is) (by k_is) (by k_is), Ls.Mf.mk (by k_is) (by k_is) (by k_is) (by k_is) (by k_is), Ls.Mf.mk (by k_is) (by k_is) (by k_is) (by k_is) (by k_is), Ls.Mf.mk (by k_is) (by k_is) (by k_is) (by k_is) (by k_is), Ls.Mf.mk (by k_is) (by k_is) (by k_is) (by k_is) (by k_is), Ls.Mf.mk (by k_is) (by k_is) (by k_is) (by k_is) (by k_is), Ls.Mf.mk (by k_is) (by k_is) (by k_is) (by k_is) (by k_is), Ls.Mf.mk (by k_is) (by k_is) (by k_is) (by k_is) (by k_is), Ls.Mf.mk (by k_is) (by k_is) (by k_is) (by k_is) (by k_is), Ls.Mf.mk (by k_is) (by k_is) (by k_is) (by k_is) (by k_is), Ls.Mf.mk (by k_is) (by k_is) (by k_is) (by k_is) (by k_is)⟩
    case G => exact ⟨mg_none_of KX G (by k_is), mg_none_of KX G (by k_is), mg_none_of KX G (by k_is), mg_none_of KX G (by k_is), mg_none_of KX G (by k_is), mg_none_of KX G (by k_is), mg_none_of KX G (by k_is), mg_none_of KX G (by k_is), mg_none_of KX G (by k_is), mg_none_of KX G (by k_is), mg_none_of KX G (by k_is), mg_none_of KX G (by k_is), mg_none_of KX G (by k_is), mg_none_of KX G (by k_is), mg_none_of KX G (by k_is), mg_none_of KX G (by k_is)⟩
    case S => exact ⟨by refine ⟨?_,?_,?_,?_⟩ <;> k_is, by (unfold L2.NoAttr; k_is), by (unfold L2.NoAttr; k_is), mg_of KX G (by k_is)⟩
    case P => exact ⟨by refine ⟨?_,?_,?_,?_⟩ <;> k_is, by (unfold L2.NoAttr; k_is), by (unfold L2.NoAttr; k_is), by (unfold L2.NoAttr; k_is), by (unfold L2.NoAttr; k_is), by (unfold L2.NoAttr; k_is), mg_of KX G (by k_is)⟩
    case B => exact ⟨by refine ⟨?_,?_,?_,?_⟩ <;> k_is, by (unfold L2.NoAttr; k_is), by (unfold L2.NoAttr; k_is), by (unfold L2.NoAttr; k_is), by (unfold L2.NoAttr; k_is), by (unfold L2.NoAttr; k_is), by (unfold L2.NoAttr; k_is), by (unfold L2.NoAttr; k_is), by (unfold L2.NoAttr; k_is), by (unfold L2.NoAttr; k_is), mg_of KX G (by k_is)⟩
    case R => exact ⟨by refine ⟨?_,?_,?_,?_⟩ <;> k_is, by (unfold L2.NoAttr; k_is), by (unfold L2.NoAttr; k_is), by (unfold L2.NoAttr; k_is), by (unfold L2.NoAttr; k_is), by (unfold L2.NoAttr; k_is), by (unfold L2.NoAttr; k_is), by (unfold L2.NoAttr; k_is), by (unfold L2.NoAttr; k_is), by (unfold L2.NoAttr; k_is), mg_of KX G (by k_is)⟩
    case Q => exact ⟨by refine ⟨?_,?_,?_,?_⟩ <;> k_is, by (unfold L2.NoAttr; k_is), by (unfold L2.NoAttr; k_is), by (unfold L2.NoAttr; k_is), by (unfold L2.NoAttr; k_is), by (unfold L2.NoAttr; k_is), by (unfold L2.NoAttr; k_is), by (unfold L2.NoAttr; k_is), mg_of KX G (by k_is)⟩
    case T => exact ⟨mg_of KX G (by k_is), by unfold L2.ExcIs; k_exc⟩
    case iR | iC | iP | iS | iB => exact ⟨by k_is, by k_is⟩
    case W => exact ⟨mg_of KX G (by k_is), mg_of KX G (by k_is), mg_of KX G (by k_is), mg_of KX G (by k_is), mg_of KX G (by k_is), mg_of KX G (by k_is), mg_of KX G (by k_is), mg_of KX G (by k_is), mg_of KX G (by k_is)⟩
    case e0 | e1 | e2 | e3 | e4 | e5 | e6 | e7 | e8 => exact ⟨by unfold L2.ExcIs; k_exc, by kernel_rfl, by k_is, by k_is, by k_is, by k_is, by k_is, by k_is, by k_is⟩

