import PyProof.Rows.All
import Wide.All
import OpenK.AllK
import Wide.FinOn
import Lean
import PyProof.EqAt
import PyProof.EqKinds
import PyProof.TupleCall
import PySem.Challenge.RW_lentwork_k81_whole_told_once
set_option Elab.async false
set_option linter.all false
set_option maxRecDepth 100000
set_option compiler.extract_closed false
set_option autoImplicit true
open Lean Parser Tactic in
local macro_rules(kind:=«term{_}»)|s=>return s.setKind ``Term.anonymousCtor
open Lean Parser Tactic in
local macro_rules(kind:=Lean.Parser.Tactic.tacticLet__)
|s=>do
 let p:=s[2][0]
 let f s:=mkNode ``rcasesPatLo #[mkNode ``rcasesPatMed #[mkNullNode #[s]],mkNullNode]
 if p[0].isOfKind ``Term.tuple then
  let q<-p[0].rewriteBottomUpM fun s=>return if s.isIdent then f (mkNode ``rcasesPat.one #[s]) else if s.isOfKind ``Term.hole then f (mkNode ``rcasesPat.ignore s.getArgs) else if s.isOfKind ``Term.tuple then f (mkNode ``rcasesPat.tuple #[mkAtom "",mkNullNode (#[s[1][0],s[1][1]]++s[1][2].getArgs),mkAtom ""]) else s
  return mkNode ``obtain #[mkAtom "",mkNullNode #[q[0]],mkNullNode,mkNullNode #[p[3],mkNullNode #[p[4]]]]
 else return s.setKind ``tacticHave__
local macro_rules|`(∎)=>`(by omega)
local macro_rules|`(⋯)=>`(by decide +kernel)
set_option maxHeartbeats 4000000
open scoped BitVec
set_option hygiene false
local macro_rules|`(1#0)=>`((by intro z;cases z))
local macro_rules|`(2#0)=>`({rfl,rfl,rfl,⋯,rfl,⋯,⋯})
local macro_rules|`(3#0)=>`((Wd P w K mg base N c))
local macro_rules|`(4#0)=>`((model X.prog X.w))
local macro_rules|`(5#0)=>`((aW X pins σ H s))
local macro_rules|`(6#0)=>`((by simp))
local macro_rules|`(7#0)=>`((by decide))
local macro_rules|`(8#0)=>`((model prog w))
local macro_rules|`(9#0)=>`((hV CB CP H b pw sh d sp ev le nn nt mo ps cs))
local macro_rules|`(10#0)=>`((Addr × Obj))
local macro_rules|`(11#0)=>`((λvs H Q E h=>?_))
local macro_rules|`(12#0)=>`((λ_ _=>rfl))
local macro_rules|`(13#0)=>`((λz=>nomatch z))
local macro_rules|`(14#0)=>`((MA prog w A E s κ a₀ rk))
local macro_rules|`(15#0)=>`((by symm))
section
open PySem PySem.Spec PyProof.Rows PySem.W
abbrev g7:=@wpAny_bind
abbrev i3:=@List.getElem?_eq_getElem
abbrev i4:=@List.mem_cons_of_mem
abbrev i5:=@List.getElem?_eq_some_iff
abbrev i6:=@List.length_map
abbrev i7:=@Nat.le_refl
abbrev i8:=@Heap.get?_push_of_some
abbrev i9:=@List.mem_cons
abbrev j1:=@List.mem_cons_self
abbrev j3:=@wpAny_pure
abbrev j5:=@wpS_bind
abbrev j6:=@Heap.lt_size
abbrev j7:=@List.getElem?_map
abbrev j8:=@List.mem_of_getElem?
abbrev j9:=@Or.inl
abbrev k7:=@List.mem_append_right
abbrev l7:=@Nat.zero_le
abbrev n9:=@Heap.get?_push_size
abbrev p8:=@List.length_append
abbrev p9:=@List.size_toArray
abbrev q0:=@Int.le_refl
abbrev q5:=@Nat.ne_of_lt
abbrev q7:=@wpS_pure
abbrev q8:=@List.mem_append
abbrev r6:=@Bool.false_ne_true
abbrev t7:=@List.length_cons
abbrev t9:=@List.length_take
abbrev u5:=@Nat.lt_of_lt_of_le
abbrev u6:=@List.mem_filter
abbrev u7:=@List.map_append
abbrev u8:=@Nat.le_trans
abbrev u9:=@Array.length_toList
abbrev v5:=@List.pairwise_cons
abbrev v6:=@List.length_range
abbrev v7:=@PassesOwn.never
abbrev v8:=@Array.toList_append
abbrev v9:=@List.getElem?_drop
abbrev w5:=@List.take_of_length_le
abbrev w8:=@List.append_assoc
abbrev w9:=@Array.getElem?_eq_getElem
abbrev x9:=@List.map_cons
abbrev y0:=@List.mem_map
abbrev y4:=@wpAny_holding
abbrev y6:=@List.mem_iff_getElem?
abbrev y7:=@wpAny_mono
abbrev y9:=@List.getElem?_take_of_lt
abbrev z4:=@Int.le_of_lt
abbrev z5:=@Bool.false_eq_true
abbrev z6:=@List.take_append_drop
abbrev z7:=@List.pairwise_iff_getElem
abbrev z8:=@List.getElem?_zip_eq_some
abbrev z9:=@wpAny_field
abbrev A0:=@List.map_map
abbrev A1:=@List.getD_eq_getElem?_getD
abbrev A2:=@Int.emod_lt_of_pos
abbrev A3:=@List.getElem?_eq_none
abbrev A4:=@List.length_zip
abbrev A5:=@Nat.lt_irrefl
abbrev A6:=@List.take_add_one
abbrev A7:=@Heap.get?_update_other
abbrev A8:=@Int.le_trans
abbrev A9:=@List.nodup_cons
abbrev B0:=@List.getElem_of_mem
abbrev B1:=@List.getElem?_append_right
abbrev B2:=@wpAny_callSpecial?_slot
abbrev B6:=@List.mem_append_left
abbrev B7:=@List.getElem?_append_left
abbrev B8:=@List.drop_eq_getElem_cons
abbrev B9:=@Nat.min_eq_left
abbrev C0:=@Int.emod_nonneg
abbrev C1:=@List.length_filter_le
abbrev C2:=@wpAny_newObj_type
abbrev C3:=@wpAny_passesOwn
abbrev C4:=@List.mem_of_mem_take
abbrev C5:=@List.mem_singleton
abbrev C6:=@Bool.and_eq_true
abbrev C7:=@wpAny_truthy_bool
abbrev C8:=@List.of_mem_zip
abbrev C9:=@wpAny_of_eq
abbrev D0:=@List.length_drop
abbrev D3:=@Heap.SameBut.update
abbrev D4:=@wpAny_ite_false
abbrev D5:=@List.length_replicate
abbrev D6:=@Nat.le_of_eq
abbrev D7:=@wpAny_Call_Name_kw
abbrev D8:=@wpAny_call_entry
abbrev D9:=@List.mem_range
abbrev E1:=@True.intro
abbrev E2:=@List.pairwise_append
abbrev E3:=@Int.toNat_natCast
abbrev E4:=@List.append_nil
abbrev E5:=@Nat.le_of_lt
abbrev E6:=@List.getElem?_set_self
abbrev E7:=@List.drop_drop
abbrev E8:=@PyProof.Rows.slot_tuple_getitem
abbrev E9:=@List.getElem?_set_ne
abbrev F0:=@Bool.eq_iff_iff
abbrev F1:=@wpAny_rule
abbrev F2:=@wpS_forRange
abbrev F3:=@List.mem_of_mem_drop
abbrev F4:=@Bool.eq_false_iff
abbrev F6:=@List.filter_eq_self
abbrev F7:=@Ne.symm
abbrev F8:=@wpAny_setField
abbrev F9:=@List.countP_cons
abbrev G4:=@List.map_snd_zip
abbrev G9:=@codeAny_mono
abbrev J0:=@List.filter_append
abbrev J3:=@Heap.get?_update_self
abbrev J4:=@List.find?_cons
abbrev J5:=@Array.getElem?_toList
abbrev J6:=@wpAny_attempt
abbrev J7:=@List.Pairwise.nil
abbrev J8:=@Bool.not_eq_true'
abbrev J9:=@Array.toList_push
abbrev K0:=@Nat.lt_succ_of_lt
abbrev K1:=@List.nodup_append
abbrev K2:=@List.extract_eq_take_drop
abbrev K3:=@Array.toList_reverse
abbrev K4:=@wpAny_seqItems
abbrev K5:=@List.replicate_succ
abbrev K6:=@List.any_cons
abbrev K7:=@List.mem_filterMap
abbrev K8:=@wpAny_execs_nil
abbrev K9:=@Or.inr
abbrev L0:=@codeAny_builtin
abbrev L1:=@wpAny_setField_rec
abbrev L3:=@Nat.eq_or_lt_of_le
abbrev L4:=@Nat.not_lt_zero
abbrev L5:=@Nat.le_succ
abbrev L7:=@Calls.callWith_builtin
abbrev L8:=@List.drop_of_length_le
abbrev L9:=@List.ext_getElem?
abbrev M0:=@Nat.lt_trichotomy
abbrev M3:=@Nat.ne_of_gt
abbrev M4:=@Heap.size_push
abbrev M5:=@List.length_singleton
abbrev M6:=@F.slot_enumerate_next
abbrev M7:=@wpAny_tryCatch
abbrev M8:=@PyProof.Rows.callWith_type1
abbrev M9:=@wpAny_call
abbrev N0:=@Calls.evalArgs_plain
abbrev N1:=@wpS_mono
abbrev N2:=@Array.toList_extract
abbrev N3:=@List.all_eq_true
abbrev N4:=@Around.under_plainId
abbrev N5:=@wpAny_standAt
abbrev N6:=@wpAny_newFunctionEnv_cells
abbrev N7:=@Array.getElem?_eq_some_iff
abbrev N8:=@Array.perm_iff_toList_perm
abbrev N9:=@List.perm_ext_iff_of_nodup
abbrev O0:=@wpS_get
abbrev O1:=@List.filterMap_cons
abbrev O2:=@List.getElem?_range
abbrev O3:=@List.reverse_append
abbrev O4:=@List.length_nil
abbrev O5:=@PyProof.Rows.evalArgs_kw2
abbrev O6:=@Array.size_push
abbrev O7:=@List.getElem?_eq_none_iff
abbrev O8:=@Option.isSome_iff_exists
abbrev O9:=@List.map_nil
abbrev P0:=@Nat.lt_of_le_of_lt
abbrev P1:=@Obj.data_mapFields
abbrev P2:=@List.getElem?_take
abbrev P3:=@Int.not_lt
abbrev P4:=@wpS_modify
abbrev P5:=@List.drop_zero
abbrev P6:=@List.take_take
abbrev P7:=@wpAny_pyIter_list
abbrev P8:=@List.flatten_cons
abbrev P9:=@Array.size_append
abbrev Q0:=@PassesOwn.leaving
abbrev Q1:=@List.getElem?_set
abbrev Q3:=@wpAny_letGo
abbrev Q4:=@List.drop_eq_nil_of_le
abbrev Q5:=@wpAny_newList
abbrev Q6:=@Nat.lt_succ_self
abbrev Q7:=@List.filter_cons
abbrev Q8:=@wpAny_isInstance
abbrev Q9:=@Nat.le_add_right
abbrev R1:=@Nat.succ_le_succ
abbrev R6:=@Obj.isFreed_of_fields
abbrev R7:=@List.set_append_right
abbrev R8:=@wpAny_loadPart'
abbrev R9:=@List.length_set
abbrev S0:=@codeAny_call_builtin
abbrev S5:=@Array.Perm.refl
abbrev S6:=@wpAny_ite_true
abbrev S7:=@wpAny_newTuple
abbrev S9:=@wpS_lift
abbrev T0:=@wpAny_pyIter_tuple
abbrev T3:=@Calls.spliced_cons
abbrev T4:=@List.take_add
end
namespace L2
open PySem PySem.Spec PyProof.Rows
abbrev bK:=Sum Int Str
def sO:bK->Value->Bool
 | .inl k,v=>Value.isInt k v
 | .inr x,v=>Value.isStrOf x v
def KB (w:World):bK->Int
 | .inl k=>hashInt k
 | .inr x=>hashStr w x
theorem cZ:∀{k:bK} {v:Value},sO k v=true->(∃i t,k=Sum.inl i/\v=Value.int i t)\/(∃x t,k=Sum.inr x/\v=Value.str x t)
 | .inl i,v,h=>by
  let (t,e):=Value.isInt_shape (k:=i) (v:=v) h
  exact .inl {(i),t,rfl,e}
 | .inr x,v,h=>by
  let (t,e):=Value.isStrOf_shape (x:=x) (v:=v) h
  exact .inr {(x),t,rfl,e}
def Ie (i:Int) (t:Tok):sO (.inl i) (.int i t)=true:=by simp [sO,Value.isInt]
def Ic (x:Str) (t:Tok):sO (.inr x) (.str x t)=true:=by simp [sO,Value.isStrOf]
def BZ (a b:Int):decide ((Sum.inl a:bK)=Sum.inl b)=(a == b):=by
 by_cases e:a=b
 ·subst e;simp
 ·let h:¬ (Sum.inl a:bK)=Sum.inl b:=λq=>e (Sum.inl.inj q);rw [decide_eq_false h];exact(beq_eq_false_iff_ne.mpr e).symm
def BW (a b:Str):decide ((Sum.inr a:bK)=Sum.inr b)=decide (a=b):=by
 by_cases e:a=b
 ·subst e;simp
 ·let h:¬ (Sum.inr a:bK)=Sum.inr b:=λq=>e (Sum.inr.inj q);rw [decide_eq_false h,decide_eq_false e]
def BY (a:Int) (b:Str):decide ((Sum.inl a:bK)=Sum.inr b)=false:=decide_eq_false (λq=>nomatch q)
def BX (a:Str) (b:Int):decide ((Sum.inr a:bK)=Sum.inl b)=false:=decide_eq_false (λq=>nomatch q)
def cC (prog:Program) (w:World):PySem.KeyKind prog w bK where
 is:=sO
 hash:=KB w
 inj:=λv a b ha hb=>by
  rcases cZ ha with ⟨i,t,rfl,rfl⟩|⟨x,t,rfl,rfl⟩
  ·rcases cZ hb with ⟨j,u,rfl,e⟩|⟨y,u,rfl,e⟩
   ·injection e with e1 _;rw [e1]
   ·exact nomatch e
  ·rcases cZ hb with ⟨j,u,rfl,e⟩|⟨y,u,rfl,e⟩
   ·exact nomatch e
   ·injection e with e1 _;rw [e1]
 byValue:=λk v h=>by
  rcases cZ h with ⟨i,t,rfl,rfl⟩|⟨x,t,rfl,rfl⟩ <;> rfl
 pyHash:=λhv h=>by
  rcases cZ hv with ⟨i,t,rfl,rfl⟩|⟨x,t,rfl,rfl⟩
  ·exact wpAny_pyHash_int h
  ·exact wpAny_pyHash_str h
 eqBool:=λhu hv h=>by
  rcases cZ hu with ⟨i,t,rfl,rfl⟩|⟨x,t,rfl,rfl⟩
  ·rcases cZ hv with ⟨j,u,rfl,rfl⟩|⟨y,u,rfl,rfl⟩
   ·rw [BZ] at h;exact wpAny_eqBool_int h
   ·rw [BY] at h;exact SeqAt.EqAt.int_str i t y u _ _ _ _ h
  ·rcases cZ hv with ⟨j,u,rfl,rfl⟩|⟨y,u,rfl,rfl⟩
   ·rw [BX] at h;exact SeqAt.EqAt.str_int x t j u _ _ _ _ h
   ·rw [BW] at h;exact wpAny_eqBool_str h
 «strs»:=λk x t v h=>by
  rcases cZ h with ⟨i,u,rfl,e⟩|⟨y,u,rfl,e⟩
  ·exact nomatch e
  ·injection e with e1 _
   subst e1
   cases v <;> rfl
def By (prog:Program) (w:World) (k:bK) (v:Value):(cC prog w).is k v=sO k v:=rfl
def yT (prog:Program) (w:World) (i:Int) (t:Tok):(cC prog w).is (.inl i) (.int i t)=true:=Ie i t
def yS (prog:Program) (w:World) (x:Str) (t:Tok):(cC prog w).is (.inr x) (.str x t)=true:=Ic x t
inductive V where
 | non|bl (b:Bool)|int (i:Int)|str (x:Str)|byt (b:Array UInt8)|flt (b:UInt64)|ref (a:Addr)|ty (n:String)
 deriving DecidableEq
def bF:V->Value->Prop
 | .non,u=>u=Value.none
 | .bl b,u=>u=Value.bool b
 | .int i,u=>∃t,u=Value.int i t
 | .str x,u=>∃t,u=Value.str x t
 | .byt b,u=>∃t,u=Value.bytes b t
 | .flt b,u=>∃t,u=Value.float b t
 | .ref a,u=>u=Value.ref a
 | .ty n,u=>u=Value.type n
abbrev bB:List V->List Value->Prop:=Paired bF
theorem bB.length {xs:List V} {us:List Value} (r:bB xs us):xs.length=us.length:=Paired.length r
def aN {α β:Type} {F:α->β->Prop} {xs:List α} {ys:List β} {i:Nat} {x:α} (p:Paired F xs ys) (e:xs[i]?=some x):∃y,ys[i]?=some y/\F x y:=by
 induction p generalizing i with
 | nil=>cases e
 | cons r t ih=>
  cases i with
  | zero=>cases e;exact {_,rfl,r}
  | succ i=>exact ih (i:=i) e
def bB.get {xs:List V} {us:List Value} {i:Nat} {x:V} (p:bB xs us) (e:xs[i]?=some x):∃u,us[i]?=some u/\bF x u:=aN p e
theorem bB.set (r:bF x u) {xs:List V} {us:List Value} (i:Nat) (p:bB xs us):bB (xs.set i x) (us.set i u):=by
 induction p generalizing i with
 | nil=>exact .nil
 | cons q t ih=>
  cases i with
  | zero=>exact .cons r t
  | succ i=>exact .cons q (ih i)
def bB.append (p:bB xs us) (s:bB ys d):bB (xs++ys) (us++d):=by
 induction p with
 | nil=>exact s
 | cons r _ t=>exact .cons r t
theorem bB.take (n:Nat) (p:bB xs us):bB (xs.take n) (us.take n):=by
 induction p generalizing n with
 | nil=>rw [List.take_nil,List.take_nil];exact .nil
 | cons q t ih=>
  cases n with
  | zero=>exact .nil
  | succ n=>exact .cons q (ih n)
theorem bB.drop (n:Nat) (p:bB xs us):bB (xs.drop n) (us.drop n):=by
 induction p generalizing n with
 | nil=>rw [List.drop_nil,List.drop_nil];exact .nil
 | cons q t ih=>
  cases n with
  | zero=>exact .cons q t
  | succ n=>exact ih n
def jC:Option V->Option Value->Prop
 | some v,some u=>bF v u
 | none,none=>True
 | _,_=>False
def KV {κ:Type}:List (κ × V)->List (κ × Value)->Prop:=Paired λ(p:κ × V) (q:κ × Value)=>p.1=q.1/\bF p.2 q.2
def kV:bK->V
 | .inl i=>.int i
 | .inr x=>.str x
inductive HO where
 | lst (xs:List V)
 | tup (xs:List V)
 | dK (kvs:List (bK × V))|dT (kvs:List (List bK × V))
 | set (S:Int->Bool) (n:Nat)
 | ins (C dx:Addr) (fs:List (Str × V))
 | own (x:Addr)
 | xd (fs:List (Str × V))
 | met (f x:Addr)
 | rng (lo hi:Int)
 | frz (o:Obj) (u:HO)
 | tbl (ps:Array Value)
 | ext (φ:Heap->Prop)
abbrev Hp:=Addr->Option HO
def upd (H:Hp) (a:Addr) (o:HO):Hp:=λb=>if b=a then some o else H b
def aB:upd H a o a=some o:=by unfold upd;rw [if_pos rfl]
def aE (h:b≠a):upd H a o b=H b:=by unfold upd;rw [if_neg h]
def eR:upd (upd H a o) a u=upd H a u:=by
 funext b;unfold upd;split <;> rfl
def aL {H:Hp} {a b:Addr} {o u:HO} (h:H a=some o) (h':H b=some u) (d:o≠u):a≠b:=by
 intro e;subst e;rw [h] at h';exact d (Option.some.inj h')
def aF {H:Hp} {a b:Addr} {o:HO} (h:H a=some o) (h':H b=none):a≠b:=by
 intro e;subst e;rw [h] at h';cases h'
section
variable (P:Program) (w:World)
def bN (H:Hp) (h:Heap) (a:Addr):HO->Prop
 | .lst xs=>xs.length<=sizeLine/\∃(its:List Value) (n:Nat),bB xs its/\h.get? a=some { cls:=.type "list",data:=.seq its.toArray n }
 | .tup xs=>xs.length<=sizeLine/\∃its:List Value,bB xs its/\IsTup h a its.toArray
 | .dK kvs=>kvs.length<=sizeLine/\(a == sysModules)=false/\∃vs,KV kvs vs/\h.DictOf (cC P w) a vs
 | .dT kvs=>kvs.length<=sizeLine/\(a == sysModules)=false/\∃xs:List (List bK × Addr × Value),
   Paired (λ(p:List bK × V) (q:List bK × Addr × Value)=>p.1=q.1/\H q.2.1=some (.tup (p.1.map kV))/\bF p.2 q.2.2) kvs xs /\
   ∃o es ep,h.get? a=some o/\o.ExactDict/\o.data=.dict es ep/\es.toList=xs.map (entryOfKey (tupleKind (cC P w)))/\(xs.map (·.1)).Nodup
 | .set S n=>h.SetOf (intKind P w) a S n
 | .ins C dx fs=>H dx=some (.own a)/\fs.length<=1000/\dx≠a/\h.get? a=some (PySem.W.instObj C dx) /\
   ∃mA,h.Ns1 dx mA/\(∀f,jC (fs.lookup f) (mA f))/\PySem.Within mA (fs.map (·.1))
 | .own _=>∃o,h.get? a=some o
 | .xd fs=>∃mA,h.Ns1 a mA/\∀f,jC (fs.lookup f) (mA f)
 | .rng lo hi=>∃t u v,h.get? a=some { cls:=.type "range",data:=.fields #[.int lo t,.int hi u,.int 1 v] }
 | .frz o u=>h.get? a=some o/\bN H h a u
 | .tbl ps=>h.get? a=some { cls:=.none,data:=.fields ps }
 | .met f x=>h.get? a=some (PySem.W.methodObj (.ref f) (.ref x))
 | .ext φ=>φ h/\(∃o,h.get? a=some o)/\∀h1 h2:Heap,φ h1->(∀o,h1.get? a=some o->h2.get? a=some o)->φ h2
def lJ (H:Hp) (h:Heap):Prop:=∀a o,H a=some o->bN P w H h a o
end
section
variable {P:Program} {w:World} {H H':Hp} {h h':Heap} {a:Addr} {o:HO}
theorem bN.lt (x:bN P w H h a o):a<h.objs.size:=by
 cases o with
 | lst xs=>let (_,_,_,_,e):=x;exact j6 e
 | tup xs=>let (_,_,_,p):=x;exact p.lt
 | dK kvs=>let (_,_,_,_,o,_,_,e,_):=x;exact j6 e
 | dT kvs=>let (_,_,_,_,o,_,_,e,_):=x;exact j6 e
 | set S n=>let (o,_,_,_,e,_):=x;exact j6 e
 | ins C dx fs=>let (_,_,_,e,_):=x;exact j6 e
 | own y=>let (_,e):=x;exact j6 e
 | xd fs=>let (_,(_,_,_,e,_),_):=x;exact j6 e
 | rng lo hi=>let (_,_,_,e):=x;exact j6 e
 | frz ob u=>let (e,_):=x;exact j6 e
 | tbl ps=>exact j6 (show h.get? a=some _ from x)
 | met f y=>exact j6 (show h.get? a=some _ from x)
 | ext φ=>let (_,(_,e),_):=x;exact j6 e
def Paired.mapP (p:Paired F l₁ d) (f:∀a b,F a b->G a b):Paired G l₁ d:=PySem.Paired.mono f p
def bN.stay (x:bN P w H h a o) (k:∀b u,(b=a\/H b=some (.own a))->h.get? b=some u->h'.get? b=some u)
  (J:∀b,H b=some (.own a)->H' b=some (.own a)) (I:∀b xs,H b=some (.tup xs)->H' b=some (.tup xs)):bN P w H' h' a o:=by
 induction o with
 | lst xs=>let (z,B,n,r,e):=x;exact {z,B,n,r,k _ _ (.inl rfl) e}
 | tup xs=>let (z,B,r,i,e,c):=x;exact {z,B,r,i,k _ _ (.inl rfl) e,c}
 | dK kvs=>let (z,y,L,r,i,es,j,e,c):=x;exact {z,y,L,r,i,es,j,k _ _ (.inl rfl) e,c}
 | dT kvs=>
  let (z,y,xs,r,i,es,j,e,c):=x;exact {z,y,xs,Paired.mapP r λp q z=>{z.1,I _ _ z.2.1,z.2.2},i,es,j,k _ _ (.inl rfl) e,c}
 | set S n=>let (i,es,j,t,e,c):=x;exact {i,es,j,t,k _ _ (.inl rfl) e,c}
 | ins C dx fs=>
  let (d,z,F,e,mA,(D,es,j,G,c),r):=x;exact {J _ d,z,F,k _ _ (.inl rfl) e,mA,{D,es,j,k _ _ (.inr d) G,c},r}
 | own y=>let (i,e):=x;exact {i,k _ _ (.inl rfl) e}
 | xd fs=>let (mA,(D,es,j,e,c),r):=x;exact {mA,{D,es,j,k _ _ (.inl rfl) e,c},r}
 | rng lo hi=>let (t,u,v,e):=x;exact {t,u,v,k _ _ (.inl rfl) e}
 | frz i u ih=>let (e,q):=x;exact {k _ _ (.inl rfl) e,ih q}
 | tbl ps=>
  let e:h.get? a=some { cls:=.none,data:=.fields ps }:=x;show h'.get? a=some { cls:=.none,data:=.fields ps };exact k a _ (.inl rfl) e
 | met f y=>
  let e:h.get? a=some (PySem.W.methodObj (.ref f) (.ref y)):=x;show h'.get? a=some (PySem.W.methodObj (.ref f) (.ref y));exact k a _ (.inl rfl) e
 | ext φ=>let (p,(o,e),st):=x;exact {st _ _ p λo q=>k _ _ (.inl rfl) q,{o,k _ _ (.inl rfl) e},st}
theorem lJ.lt (x:lJ P w H h) (e:H a=some o):a<h.objs.size:=(x a o e).lt
def lJ.fresh (x:lJ P w H h) (e:h.objs.size<=a):H a=none:=by
 cases q:H a with
 | none=>rfl
 | some u=>exact absurd (u5 (x.lt q) e) (A5 _)
def lJ.kept (x:lJ P w H h) (k:∀b u,h.get? b=some u->h'.get? b=some u):lJ P w H h':=λa o e=>
 (x a o e).stay (λb u _ q=>k b u q) (λ_ q=>q) λ_ _ q=>q
def lJ.laid (x:lJ P w H h) (k:∀b u,h.get? b=some u->h'.get? b=some u) (n:h.objs.size<=a) (d:bN P w (upd H a o) h' a o):lJ P w (upd H a o) h':=λb u e=>by
 have j:=x.fresh n
 by_cases i:b=a
 ·subst i;rw [aB] at e;cases e;exact d
 ·rw [aE i] at e
  exact(x b u e).stay (λc v _ q=>k c v q) (λc q=>by rw [aE (aF q j)];exact q) λc xs q=>by rw [aE (aF q j)];exact q
end
def Rd (H:Hp) (a:Addr) (u:HO):Prop:=H a=some u\/∃o,H a=some (.frz o u)
def Rd.ok {P:Program} {w:World} {H:Hp} {h:Heap} {a:Addr} {u:HO} (r:Rd H a u) (x:lJ P w H h):bN P w H h a u:=by
 rcases r with r|⟨o,r⟩
 ·exact x a u r
 ·let (_,q):=x a _ r;exact q
def IF:Option HO->Prop
 | some (.lst _)=>True
 | some (.dK _)=>True
 | some (.dT _)=>True
 | some (.set _ _)=>True
 | some (.ins _ _ _)=>True
 | some (.ext _)=>True
 | _=>False
section
variable {P:Program} {w:World} {H:Hp} {h h':Heap} {x e:Addr} {o':HO}
def lJ.write (L:lJ P w H h) (n:IF (H x)) (I:e=x\/H e=some (.own x)) (k:∀b u,b≠e->h.get? b=some u->h'.get? b=some u) (D:∃u,h'.get? e=some u)
  (F:bN P w (upd H x o') h' x o'):lJ P w (upd H x o') h':=λb u q=>by
 let i:∀c y,H c=some (.own y)->c≠x:=λc y r z=>by subst z;rw [r] at n;exact n
 let j:∀c xs,H c=some (.tup xs)->c≠x:=λc xs r z=>by subst z;rw [r] at n;exact n
 by_cases B:b=x
 ·subst B;rw [aB] at q;cases q;exact F
 ·rw [aE B] at q
  by_cases d:b=e
  ·let G:H b=some (.own x):=by
    rcases I with z|z
    ·exact absurd (d.trans z) B
    ·rw [d];exact z
   rw [q] at G;cases G;let (v,J):=D;exact {v,by rw [d];exact J}
  ·refine(L b u q).stay (λc v hc r=>k c v ?_ r) (λc r=>by rw [aE (i c b r)];exact r) λc xs r=>by rw [aE (j c xs r)];exact r
   rcases hc with rfl|hc
   ·exact d
   ·rintro rfl;rcases I with z|z
    ·exact i c b hc z
    ·rw [hc] at z;cases z;exact B rfl
end
structure Un (fs ex:List Addr) (H H':Hp) (h h':Heap):Prop where
 keep:∀b o,h.get? b=some o->H b=none->b ∉ fs->b ∉ ex->h'.get? b=some o
 slot:∀b o,h.get? b=some o->H b=none->b ∈ fs->b ∉ ex->∃sl,h'.get? b=some { o with slots:=sl }
 free:∀b o,h.get? b=some o->H b=none->b ∉ ex->H' b=none
 there:∀b o,h.get? b=some o->b ∉ ex->∃o',h'.get? b=some o'
 tups:∀b xs,H b=some (.tup xs)->H' b=some (.tup xs)
 frzs:∀b o u,H b=some (.frz o u)->H' b=some (.frz o u)
 tbls:∀b ps,H b=some (.tbl ps)->∃more,H' b=some (.tbl (ps++more))
section
variable {fs fs' ex ex':List Addr} {H H1 H2:Hp} {h h1 h2 h':Heap} {a x e:Addr} {o:HO}
def Un.any (u:Un fs ex H H1 h h1) {b:Addr} {d:Obj} (q:h.get? b=some d) (n:H b=none) (i:b ∉ ex):∃y,h1.get? b=some { d with slots:=y }:=by
 by_cases j:b ∈ fs
 ·exact u.slot b d q n j i
 ·exact {d.slots,u.keep b d q n j i}
def Un.kept (k:∀b u,h.get? b=some u->h'.get? b=some u):Un fs ex H H h h':=
 {λb d q _ _ _=>k b d q,λb d q _ _ _=>{d.slots,k b d q},λ_ _ _ n _=>n,λb d q _=>{d,k b d q},λ_ _ q=>q,λ_ _ _ q=>q,λ_ ps q=>{#[],by rw [q];simp}}
def Un.refl:Un fs ex H H h h:=Un.kept λ_ _ q=>q
def Un.laid (k:∀b u,h.get? b=some u->h'.get? b=some u) (i:h.objs.size<=a) (d:H a=none):Un fs ex H (upd H a o) h h' where
 keep:=λb u q _ _ _=>k b u q
 slot:=λb u q _ _ _=>{u.slots,k b u q}
 free:=λb u q n _=>by rw [aE (q5 (u5 (j6 q) i))];exact n
 there:=λb u q _=>{u,k b u q}
 tups:=λb xs q=>by rw [aE (aF q d)];exact q
 frzs:=λb u xs q=>by rw [aE (aF q d)];exact q
 tbls:=λb ps q=>{#[],by rw [aE (aF q d),q];simp}
def Un.write (i:IF (H x)) (F:e=x\/H e=some (.own x)) (k:∀b u,b≠e->h.get? b=some u->h'.get? b=some u) (j:∃u,h'.get? e=some u):Un fs ex H (upd H x o) h h':=by
 let B:∀b,H b=none->b≠x:=λb n z=>by subst z;rw [n] at i;exact i
 let D:∀b,H b=none->b≠e:=λb n z=>by
  subst z;rcases F with r|r
  ·exact B b n r
  ·rw [n] at r;cases r
 let y:∀b u,H b=some u->¬ IF (some u)->b≠x:=λb u q nm z=>by subst z;rw [q] at i;exact nm i
 refine {λb u q n _ _=>k b u (D b n) q,λb u q n _ _=>{u.slots,k b u (D b n) q},λb u q n _=>by rw [aE (B b n)];exact n,λb u q _=>?_,
  λb xs q=>by rw [aE (y b _ q λz=>z)];exact q,λb u xs q=>by rw [aE (y b _ q λz=>z)];exact q,λb ps q=>{#[],by rw [aE (y b _ q λz=>z),q];simp}};by_cases d:b=e
 ·subst d;exact j
 ·exact {u,k b u d q}
end
def IN (h:Heap) (H:Hp):List Addr:=(List.range h.objs.size).filter λa=>(H a).isSome
def uA (h:Heap) (H:Hp):Heap:=PySem.W.hideAll h (IN h H)
def Ij (h:Heap) (H:Hp):(uA h H).objs.size=h.objs.size:=PySem.W.hideAll_size _ _
def Qa (e:h.get? b=some o) (n:H b=none):(uA h H).get? b=some o:=
 PySem.W.hideAll_get _ e λd=>by
  have q:(H b).isSome=true:=(u6.mp d).2
  rw [n] at q;simp at q
def Vf (e:(uA h H).get? b=some o):h.get? b=some o/\H b=none:=by
 let d:h.get? b=some o:=PySem.W.of_hideAll (IN h H) e;refine {d,?_};cases q:H b with
 | none=>rfl
 | some x=>
  let i:b ∈ IN h H:=u6.mpr {D9.mpr (j6 d),by simp [q]};let z:(uA h H).get? b=none:=PySem.W.hideAll_none (IN h H) i;rw [z] at e;cases e
def qQ (g h:Heap) (L:Addr):List 10#0:=(List.range h.objs.size).filterMap λa=>if a=L\/(g.get? a).isSome=true then none else(h.get? a).map λo=>(a,o)
def jV (h1:a≠L) (h2:g.get? a=none) (d:h.get? a=some o):(a,o) ∈ qQ g h L:=
 K7.mpr {a,D9.mpr (j6 d),by simp [h1,h2,d]}
def sI (hp:p ∈ qQ g h L):p.1≠L/\g.get? p.1=none/\h.get? p.1=some p.2:=by
 let (b,_,e):=K7.mp hp;split at e
 ·cases e
 ·rename_i hn;cases q:h.get? b with
  | none=>rw [q] at e;simp at e
  | some u=>
   rw [q] at e;simp only [Option.map_some,Option.some.injEq] at e;subst e;refine {λz=>hn (.inl z),?_,q};show g.get? b=none;cases r:g.get? b with
   | none=>rfl
   | some v=>exact(hn (.inr (by simp [r]))).elim
def sK:News g L h (qQ g h L):=λp d=>let ⟨a,b,c⟩:=sI d;{(c),a,b}
structure Mod (K:PySem.W.Frag) (mg:Str->Option Value) (base:Heap):Prop where
 kin:K.In base
 glob:base.Ns mainGlobals mg
 blt:∃mb,base.Ns builtinsNs mb/\∀x:Str,x≠"__name__"->mb x=bootBuiltins x
 nolimit:base.NoLimit
structure Cx where
 prog:Program
 w:World
 K:PySem.W.Frag
 mg:Str->Option Value
 base:Heap
 A:Around
 N:List Str
 s₀:Shared
 H₀:Hp
 env:Env
 outer:List Env
 stack:List Env
 ex:List Addr
 fn:Str->Bool
 calm:Bool
 pn:List 10#0
 xe:Value->Shared->Prop
def mD (l:List Env):List Addr:=l.filterMap (·.frame)
abbrev Cx.fs (X:Cx):List Addr:=mD X.outer
def ED (sc:Scope) (x:Str):Prop:=sc.names.lookup x=some .local\/sc.names.lookup x=some .cell\/sc.names.lookup x=some .free
def vN (sc:Scope) (x:Str):Prop:=sc.names.lookup x=some .local\/sc.names.lookup x=some .cell
def KZ (env:Env) (h:Heap) (m:Str->Option Value) (x:Str) (u:Value):Prop:=
 (env.kindOf x=some .local/\m x=some u)\/((env.kindOf x=some .cell\/env.kindOf x=some .free)/\∃c,env.cells.lookup x=some c/\h.IsCell c (some u))
structure Cx.Ok (X:Cx):Prop where
 mod:Mod X.K X.mg X.base
 kind:X.env.scope.kind=.function
 glob:X.env.globals=mainGlobals
 blt:X.env.builtins=builtinsNs
 above:X.s₀.heap.objs.size<=X.env.locals
 inj:∀x y c,X.env.cells.lookup x=some c->X.env.cells.lookup y=some c->x=y
 has:∀x,(X.env.kindOf x=some .cell\/X.env.kindOf x=some .free)->∃c,X.env.cells.lookup x=some c
 cab:∀x c,X.fn x=true->X.env.cells.lookup x=some c->X.s₀.heap.objs.size<=c
 hd:X.calm=true->X.A.handled=none
 frames:X.A.frames=some X.stack
 stk:X.stack=X.outer\/(X.stack=X.env::X.outer/\X.env.frame=some X.env.locals)
 exf:∀b ∈ X.ex,b≠X.env.locals/\∀x c,X.env.cells.lookup x=some c->c≠b
 bs:∀b o,X.base.get? b=some o->X.s₀.heap.get? b=some o/\X.H₀ b=none
 bsz:X.base.objs.size<=X.s₀.heap.objs.size
 noex:∀b o,X.base.get? b=some o->b ∉ X.ex
 exfs:∀b ∈ X.ex,b ∉ X.fs
 funs:X.s₀.heap.FunFrames X.base X.outer
 frf:∀b ∈ X.fs,X.H₀ b=none
structure aW (X:Cx) (pins:List 10#0) (σ:List (Option V)) (H:Hp) (s:Shared):Prop where
 ok:X.Ok
 os:s.os=X.s₀.os
 bare:AllBare s.gens
 base:Un X.fs X.ex X.H₀ H X.s₀.heap s.heap
 loc:∃m,s.heap.Ns X.env.locals m/\∀(i:Nat) (x:Str) (v:V),X.N[i]?=some x->σ[i]?=some (some v)->ED X.env.scope x->∃u,bF v u/\KZ X.env s.heap m x u
 cell:∀x c,X.env.cells.lookup x=some c->∃v,s.heap.IsCell c v
 free:H X.env.locals=none
 freeC:∀x c,X.env.cells.lookup x=some c->H c=none
 pin:∀p ∈ X.pn++pins,s.heap.get? p.1=some p.2/\H p.1=none/\p.1≠X.env.locals/\p.1 ∉ X.fs/\∀v,p.2.data≠.cell v
 hok:lJ X.prog X.w H s.heap
 len:σ.length=X.N.length
section
variable {X:Cx} {pins:List (Addr × Obj)} {σ:List (Option V)} {H H':Hp} {s:Shared} {h':Heap}
def Cx.Ok.nofr (d:X.Ok) {b:Addr} {o:Obj} (e:X.base.get? b=some o):b ∉ X.fs:=λi=>by
 have:=(d.funs.mem i).1
 rw [e] at this;cases this
theorem aW.bs (I:5#0):∀b o,X.base.get? b=some o->s.heap.get? b=some o/\H b=none:=λb o e=>
 {I.base.keep b o (I.ok.bs b o e).1 (I.ok.bs b o e).2 (I.ok.nofr e) (I.ok.noex b o e),I.base.free b o (I.ok.bs b o e).1 (I.ok.bs b o e).2 (I.ok.noex b o e)}
def aW.bk (I:5#0):∀b o,X.base.get? b=some o->s.heap.get? b=some o:=λb o e=>(I.bs b o e).1
theorem aW.mod (I:5#0):Mod X.K X.mg X.base:=I.ok.mod
def aW.kIn (I:5#0):X.K.In s.heap:=I.ok.mod.kin.keeps I.bk
def aW.fr (I:5#0):∃m,Fr X.base X.env.locals s.heap m:=
 let ⟨m,hn,_⟩:=I.loc
 {m,hn,I.bk,u8 I.ok.bsz I.ok.above}
theorem aW.lt (I:5#0):X.env.locals<s.heap.objs.size:=let ⟨_,hn,_⟩:=I.loc;hn.lt
def aW.sz (I:5#0):X.s₀.heap.objs.size<=s.heap.objs.size:=u8 I.ok.above (E5 I.lt)
def aW.nofs (I:5#0) {a:Addr} (h:s.heap.objs.size<=a):a ∉ X.fs:=λd=>by
 let (_,o,i,_):=I.ok.funs.mem d
 exact absurd (u5 (j6 i) (u8 I.sz h)) (A5 _)
def aW.cne (I:5#0):∀x c,X.env.cells.lookup x=some c->c≠X.env.locals:=λx c e z=>by
 let (v,o,j,n):=I.cell x c e
 let (m,(o',es,q,i,d,_),_):=I.loc
 rw [z,i] at j;cases j;rw [d] at n;cases n
theorem aW.funs (I:5#0):s.heap.FunFrames X.base X.outer:=by
 let n:∀(l:List Env),(∀b ∈ mD l,b ∈ X.fs)->X.s₀.heap.FunFrames X.base l->s.heap.FunFrames X.base l:=by
  intro l
  induction l with
  | nil=>intro _ _;trivial
  | cons env r ih=>
   intro q F;let (B,(L,o,d,D,G,J),y):=F;let j:L ∈ X.fs:=q L (by unfold mD;rw [O1,d];exact j1);let (M,e):=I.base.slot L o G (I.ok.frf L j) j λz=>I.ok.exfs L z j;exact {B,{L,_,d,D,e,J},ih (λb i=>q b (by unfold mD;rw [O1,d];exact i4 _ i)) y}
 exact n X.outer (λ_ i=>i) I.ok.funs
theorem aW.stack (I:5#0):s.heap.FunFrames X.base X.stack:=by
 rcases I.ok.stk with e|⟨e,d⟩
 ·rw [e];exact I.funs
 ·rw [e];let (m,i,_):=I.loc;refine .cons (by rw [I.ok.kind];decide) d i ?_ I.funs;exact Heap.get?_none_of_le (u8 I.ok.bsz I.ok.above)
def aW.stkSub (I:5#0):∀b ∈ mD X.stack,b ∈ X.env.locals::X.fs:=λb d=>by
 rcases I.ok.stk with e|⟨e,i⟩
 ·rw [e] at d;exact i4 _ d
 ·rw [e] at d
  unfold mD at d
  rw [O1,i] at d
  exact d
def aW.stkFree (I:5#0):∀b ∈ mD X.stack,H b=none:=λb hb=>by
 rcases i9.mp (I.stkSub b hb) with e|hb
 ·rw [e];exact I.free
 ·let (_,o,d,_):=I.ok.funs.mem hb
  exact I.base.free b o d (I.ok.frf b hb) λz=>I.ok.exfs b z hb
def aW.step {g':Array GenState} {t':Nat} {d':Drawn} {ch:List Addr} (I:5#0)
  (G:∀b ∈ ch,(b ∈ X.ex\/X.s₀.heap.objs.size<=b)/\b≠X.env.locals/\(∀x c,X.env.cells.lookup x=some c->c≠b)/\∀p ∈ X.pn++pins,p.1≠b)
  (D:∀b o,b≠X.env.locals->b ∉ X.fs->b ∉ ch->s.heap.get? b=some o->H b=none->h'.get? b=some o)
  (M:∀b o,b≠X.env.locals->b ∈ X.fs->b ∉ ch->s.heap.get? b=some o->H b=none->∃sl,h'.get? b=some { o with slots:=sl }) (y:∀b o,b ∉ ch->s.heap.get? b=some o->H b=none->H' b=none)
  (O:∀b o,b ∉ ch->s.heap.get? b=some o->∃o',h'.get? b=some o')
  (U:∀b xs,H b=some (.tup xs)->H' b=some (.tup xs)) (Y:∀b o u,H b=some (.frz o u)->H' b=some (.frz o u)) (a0:∀b ps,H b=some (.tbl ps)->∃W,H' b=some (.tbl (ps++W)))
  (ns:∀m,s.heap.Ns X.env.locals m->h'.Ns X.env.locals m) (a1:lJ X.prog X.w H' h') (hg:AllBare g'):
  aW X pins σ H' { s with heap:=h',gens:=g',drawn:=d',toks:=t' }:=by
 let Z:∀b o,X.s₀.heap.get? b=some o->b≠X.env.locals:=λb o e=>q5 (u5 (j6 e) I.ok.above);let L:∀b o,X.s₀.heap.get? b=some o->b ∉ X.ex->b ∉ ch:=λb o e j N=>by
  rcases (G b N).1 with z|z
  ·exact j z
  ·exact absurd (u5 (j6 e) z) (A5 _)
 let B:∀x c,X.env.cells.lookup x=some c->∀v,s.heap.IsCell c v->h'.IsCell c v:=λx c e v ⟨o,S,hd⟩=>by
  let F:c ∉ ch:=λz=>(G c z).2.2.1 x c e rfl;by_cases hc:c ∈ X.fs
  ·let (sl,q):=M c o (I.cne x c e) hc F S (I.freeC x c e);exact {_,q,hd}
  ·exact {o,D c o (I.cne x c e) hc F S (I.freeC x c e),hd}
 refine {I.ok,I.os,hg,{λb o e n N j=>?_,λb o e n N j=>?_,λb o e n j=>?_,λb o e j=>?_,λb xs e=>U b xs (I.base.tups b xs e),λb o xs e=>Y b o xs (I.base.frzs b o xs e),λb ps e=>?_},?_,λx c e=>?_,?_,λx c e=>?_,λp hp=>?_,a1,I.len}
 ·exact D b o (Z b o e) N (L b o e j) (I.base.keep b o e n N j) (I.base.free b o e n j)
 ·let (sl,J):=I.base.slot b o e n N j;let (a2,e2):=M b _ (Z b o e) N (L b o e j) J (I.base.free b o e n j);exact {(a2),e2}
 ·let (o',J):=I.base.there b o e j;exact y b o' (L b o e j) J (I.base.free b o e n j)
 ·let (o',J):=I.base.there b o e j;exact O b o' (L b o e j) J
 ·let (m1,J):=I.base.tbls b ps e;let (m2,e2):=a0 b _ J;exact {m1++m2,by rw [e2,Array.append_assoc]}
 ·let (m,hn,hl):=I.loc;refine {m,ns m hn,λi x v J e2 e3=>?_};let (u,r,l):=hl i x v J e2 e3;refine {u,r,?_};rcases l with l|⟨k,c,e,z⟩
  ·exact .inl l
  ·exact .inr {k,c,e,B x c e _ z}
 ·let (v,z):=I.cell x c e;exact {v,B x c e v z}
 ·let (m,(o,_,_,S,_),_):=I.loc;exact y _ o (λz=>(G _ z).2.1 rfl) S I.free
 ·let (v,o,S,hd):=I.cell x c e;exact y c o (λz=>(G c z).2.2.1 x c e rfl) S (I.freeC x c e)
 ·let (e,n,ne,nf,d):=I.pin p hp;let F:p.1 ∉ ch:=λz=>(G p.1 z).2.2.2 p hp rfl;exact {D p.1 p.2 ne nf F e n,y p.1 p.2 F e n,ne,nf,d}
def aW.un {t':Nat} (I:5#0) (u:Un X.fs [] H H' s.heap h') (j:lJ X.prog X.w H' h'):aW X pins σ H' { s with heap:=h',toks:=t' }:=by
 let (m,(o,es,J,B,r),_):=id I.loc;let (M,G):=u.any B I.free 6#0;exact I.step (g':=s.gens) (d':=s.drawn) (ch:=[]) (λ_ z=>nomatch z) (λb o _ q _ e n=>u.keep b o e n q 6#0) (λb o _ q _ e n=>u.slot b o e n q 6#0) (λb o _ e n=>u.free b o e n 6#0) (λb o _ e=>u.there b o e 6#0) u.tups u.frzs u.tbls (λL F=>by
  let (o',y,i,d,D):=F
  rw [B] at d;cases d
  exact {_,y,i,G,D}) j I.bare
def aW.call {g':Array GenState} {t':Nat} {d':Drawn} {ch:List Addr} (I:5#0) (u:Un (mD X.stack) ch H H' s.heap h') (y:lJ X.prog X.w H' h') (M:AllBare g')
  (j:∀b ∈ ch,(b ∈ X.ex\/X.s₀.heap.objs.size<=b)/\b≠X.env.locals/\(∀x c,X.env.cells.lookup x=some c->c≠b)/\∀p ∈ X.pn++pins,p.1≠b):
  aW X pins σ H' { s with heap:=h',gens:=g',drawn:=d',toks:=t' }:=by
 let (m,(o,es,N,F,r),_):=id I.loc;let (S,B):=u.any F I.free λz=>(j _ z).2.1 rfl;exact I.step (ch:=ch) j (λb o B G d e n=>u.keep b o e n (λz=>(i9.mp (I.stkSub b z)).elim B G) d) (λb o _ _ d e n=>u.any e n d) (λb o d e n=>u.free b o e n d) (λb o d e=>u.there b o e d) u.tups u.frzs u.tbls (λO L=>by
  let (o',D,q,i,J):=L
  rw [F] at i;cases i
  exact {_,D,q,B,J}) y M
def aW.turned {t':Nat} {it:Addr} (I:5#0) (k:∀b o,b≠it->s.heap.get? b=some o->h'.get? b=some o) (B:H it=none) (j:it≠X.env.locals)
  (h1:it ∈ X.ex\/X.s₀.heap.objs.size<=it) (h2:∀x c,X.env.cells.lookup x=some c->c≠it) (J:∀p ∈ X.pn++pins,p.1≠it):aW X pins σ H { s with heap:=h',toks:=t' }:=by
 let i:∀b u,H b=some u->b≠it:=λb u e z=>by rw [z,B] at e;cases e
 refine I.step (g':=s.gens) (d':=s.drawn) (ch:=[it]) (λb y=>?_) (λb o _ _ d e _=>k b o (λz=>d (by simp [z])) e) (λb o _ _ d e _=>{o.slots,k b o (λz=>d (by simp [z])) e}) (λ_ _ _ _ n=>n)
  (λb o d e=>{o,k b o (λz=>d (by simp [z])) e}) (λ_ _ e=>e) (λ_ _ _ e=>e) (λb ps e=>{#[],by rw [e];simp}) (λm F=>?_) (λb u e=>?_) I.bare
 ·let e:b=it:=by simpa using y
  subst e;exact {(h1),j,h2,J}
 ·let (o,es,D,G,r):=F;exact {o,es,D,k _ o (F7 j) G,r}
 ·refine(I.hok b u e).stay (λc v d q=>k c v ?_ q) (λ_ q=>q) λ_ _ q=>q;rcases d with z|z
  ·rw [z];exact i b u e
  ·exact i c _ z
def aW.tok (I:5#0) (t:Nat):aW X pins σ H { s with toks:=t }:=I.un (h':=s.heap) (t':=t) Un.refl I.hok
theorem aW.kept (I:5#0) (k:∀b u,s.heap.get? b=some u->h'.get? b=some u):aW X pins σ H { s with heap:=h',toks:=t' }:=I.un (Un.kept k) (I.hok.kept k)
theorem aW.laid (I:5#0) (k:∀b u,s.heap.get? b=some u->h'.get? b=some u) (d:s.heap.objs.size<=a) (i:bN X.prog X.w (upd H a o) h' a o):
  aW X pins σ (upd H a o) { s with heap:=h',toks:=t' }:=I.un (Un.laid k d (I.hok.fresh d)) (I.hok.laid k d i)
theorem aW.write (I:5#0) (n:IF (H x)) (j:e=x\/H e=some (.own x)) (k:∀b u,b≠e->s.heap.get? b=some u->h'.get? b=some u) (d:∃u,h'.get? e=some u)
  (i:bN X.prog X.w (upd H x o) h' x o):aW X pins σ (upd H x o) { s with heap:=h',toks:=t' }:=I.un (Un.write n j k d) (I.hok.write n j k d i)
def aW.weak (I:5#0) (y:d.length=σ.length) (w:∀(i:Nat) v,d[i]?=some (some v)->σ[i]?=some (some v)):aW X pins d H s:=
 ⟨I.ok,I.os,I.bare,I.base,let ⟨m,hn,hl'⟩:=I.loc;{m,hn,λi x v j q n=>hl' i x v j (w i v q) n},I.cell,I.free,I.freeC,I.pin,I.hok,y.trans I.len⟩
def aW.pins_of {pins':List 10#0} (I:5#0) (h:∀p ∈ pins',s.heap.get? p.1=some p.2/\H p.1=none/\p.1≠X.env.locals/\p.1 ∉ X.fs/\∀v,p.2.data≠.cell v):aW X pins' σ H s:=
 {I.ok,I.os,I.bare,I.base,I.loc,I.cell,I.free,I.freeC,λp d=>(q8.mp d).elim (λz=>I.pin p (B6 _ z)) (h p),I.hok,I.len}
def sJ {N:List Str} (q:N.Nodup) {i j:Nat} {x:Str} (a:N[i]?=some x) (b:N[j]?=some x):i=j:=by
 let (h1,n):=i5.mp a;let (h2,d):=i5.mp b;exact(List.getElem_inj q).mp (n.trans d.symm)
def uN {M:Model} {A:Around} {E:Value->Shared->Prop} {i:Nat} {x:Str} {v:V} {u:Value} {Q:Unit->Shared->Prop} (I:5#0) (hN:X.N.Nodup) (hi:X.N[i]?=some x) (G:vN X.env.scope x) (r:bF v u)
  (h:∀s',aW X pins (σ.set i (some v)) H s'->(∃a,Heap.SameBut a s.heap s'.heap/\(a=X.env.locals\/X.env.cells.lookup x=some a))->Q () s') (hf:X.fn x=true\/X.env.scope.names.lookup x=some .local:=by first|exact .inl rfl|exact .inr rfl|assumption):wpAny M A (storeName X.env x u) Q E s:=by
 let (m,hn,hl):=id I.loc;let a1:(X.env.scope.kind == .class || (X.env.scope.kind == .module && X.env.locals != X.env.globals))=false:=by rw [I.ok.kind];rfl
 let Z:i<σ.length:=by rw [I.len];exact(i5.mp hi).1
 let O:=I.cne;let D:∀{a:Addr} {h':Heap},(∃o,s.heap.get? a=some o/\H a=none)->Heap.SameBut a s.heap h'->lJ X.prog X.w H h':=λ{a h'} ha B b ob e=>by
  let (_,_,J):=ha;refine(I.hok b ob e).stay (λc w' hc q=>(B.2 c ?_).trans q) (λ_ q=>q) λ_ _ q=>q;rintro rfl;rcases hc with rfl|hc
  ·rw [J] at e;cases e
  ·rw [J] at hc;cases hc
 rcases G with hk|hk
 ·refine wpAny_storeName_local hk hn (λh' a4 B=>?_) a1;let (oL,_,_,a5,_):=id hn;refine h _ {I.ok,I.os,I.bare,{λb o e n S G=>?_,λb o e n S G=>?_,I.base.free,λb o e G=>?_,I.base.tups,I.base.frzs,I.base.tbls},{_,a4,λj y v' F L e3=>?_},λy c e=>?_,I.free,I.freeC,λp hp=>?_,D {(oL),a5,I.free} B,by simpa using I.len} {_,B,.inl rfl}
  ·exact(B.2 b (q5 (u5 (j6 e) I.ok.above))).trans (I.base.keep b o e n S G)
  ·let (sl,F):=I.base.slot b o e n S G;exact {sl,(B.2 b (q5 (u5 (j6 e) I.ok.above))).trans F}
  ·let (o',F):=I.base.there b o e G;exact {o',(B.2 b (q5 (u5 (j6 e) I.ok.above))).trans F}
  ·by_cases W:j=i
   ·subst W;rw [hi] at F;cases F;rw [E6 Z] at L;cases L;exact {u,r,.inl {hk,by simp}}
   ·rw [E9 (F7 W)] at L;let (u',r',q):=hl j y v' F L e3;refine {u',r',?_};rcases q with ⟨k,e⟩|⟨k,c,e,z⟩
    ·refine .inl {k,?_};have:y≠x:=λe=>W (sJ hN F (e ▸ hi));simp [this,e]
    ·exact .inr {k,c,e,z.sameBut B (O y c e)}
  ·let (w',z):=I.cell y c e;exact {w',z.sameBut B (O y c e)}
  ·let (e,n,ne,nf,d):=I.pin p hp;exact {(B.2 p.1 ne).trans e,n,ne,nf,d}
 ·let U:X.fn x=true:=by
   rcases hf with z|z
   ·exact z
   ·rw [z] at hk;cases hk
  let (c,hc):=I.ok.has x (.inl hk);let (w',z):=I.cell x c hc;refine wpAny_storeName_cell I.ok.kind hk hc z (λh' Y B=>?_);let (oc,a3,a0):=id z;refine h { s with heap:=h' } {I.ok,I.os,I.bare,{λb o e n S G=>?_,λb o e n S G=>?_,I.base.free,λb o e G=>?_,I.base.tups,I.base.frzs,I.base.tbls},{m,hn.sameBut B (F7 (O x c hc)),λj y v' F L e3=>?_},λy c' e=>?_,I.free,I.freeC,λp hp=>?_,D {oc,a3,I.freeC x c hc} B,by simpa using I.len} {c,B,.inr hc}
  ·exact(B.2 b (q5 (u5 (j6 e) (I.ok.cab x c U hc)))).trans (I.base.keep b o e n S G)
  ·let (sl,F):=I.base.slot b o e n S G;exact {sl,(B.2 b (q5 (u5 (j6 e) (I.ok.cab x c U hc)))).trans F}
  ·let (o',F):=I.base.there b o e G;exact {o',(B.2 b (q5 (u5 (j6 e) (I.ok.cab x c U hc)))).trans F}
  ·by_cases W:j=i
   ·subst W;rw [hi] at F;cases F;rw [E6 Z] at L;cases L;exact {u,r,.inr {.inl hk,c,hc,Y}}
   ·rw [E9 (F7 W)] at L;let (u',r',q):=hl j y v' F L e3;refine {u',r',?_};rcases q with q|⟨k,c',e,z'⟩
    ·exact .inl q
    ·refine .inr {k,c',e,z'.sameBut B ?_};rintro rfl;exact W (sJ hN F (I.ok.inj _ _ _ e hc ▸ hi))
  ·by_cases a2:c'=c
   ·subst a2;exact {_,Y}
   ·let (w2,z2):=I.cell y c' e;exact {w2,z2.sameBut B a2}
  ·let (e,n,ne,nf,d):=I.pin p hp;refine {(B.2 p.1 ?_).trans e,n,ne,nf,d};intro q;rw [q,a3] at e;let q':oc=p.2:=Option.some.inj e;exact d w' (by rw [<- q'];exact a0)
def mK {M:Model} {A:Around} {E:Value->Shared->Prop} {i:Nat} {x:Str} {v:V} {u:Value} {Q:Unit->Shared->Prop} (I:5#0) (d:X.N.Nodup) (hi:X.N[i]?=some x) (j:vN X.env.scope x) (r:bF v u)
  (h:∀s',aW X pins (σ.set i (some v)) H s'->Q () s') (n:X.fn x=true\/X.env.scope.names.lookup x=some .local:=by first|exact .inl rfl|exact .inr rfl|assumption):wpAny M A (storeName X.env x u) Q E s:=
 uN I d hi j r (λs' q _=>h s' q) n
def aW.call' (I:5#0) (n:s'.os=s.os) (u:Un (mD X.stack) ch H H' s.heap s'.heap) (d:lJ X.prog X.w H' s'.heap) (j:AllBare s'.gens)
  (i:∀b ∈ ch,(b ∈ X.ex\/X.s₀.heap.objs.size<=b)/\b≠X.env.locals/\(∀x c,X.env.cells.lookup x=some c->c≠b)/\∀p ∈ X.pn++pins,p.1≠b):aW X pins σ H' s':=by
 let (h',g',d',t',o'):=s';let e:o'=s.os:=n;subst e;exact I.call (g':=g') (t':=t') (d':=d') u d j i
end
abbrev XK:=Value->Option Addr->Hp->Prop
abbrev St:=List (Option V)
abbrev VK:=V->Hp->Prop
abbrev TE:=St->Hp->VK->Prop
abbrev TT:=St->Hp->(Bool->Hp->Prop)->Prop
abbrev TA:=St->Hp->(List V->Hp->Prop)->Prop
structure eM where
 nx:St->Hp->Prop
 rt:VK
 bk:St->Hp->Prop:=λ_ _=>False
 ct:St->Hp->Prop:=λ_ _=>False
abbrev TS:=eM->St->Hp->Prop
def EP (X:Cx) (pins:List 10#0) (σ:St) (Q:VK) (u:Value) (s':Shared):Prop:=∃v H',aW X pins σ H' s'/\bF v u/\Q v H'
def TP (X:Cx) (pins:List 10#0) (σ:St) (Q:Bool->Hp->Prop) (b:Bool) (s':Shared):Prop:=∃H',aW X pins σ H' s'/\Q b H'
def AP (X:Cx) (pins:List 10#0) (σ:St) (Q:List V->Hp->Prop) (us:List Value) (s':Shared):Prop:=∃vs H',aW X pins σ H' s'/\bB vs us/\Q vs H'
def SP (X:Cx) (pins:List 10#0) (D:eM) (f:Flow) (s':Shared):Prop:=
 match f with
 | .next=>∃ σ' H',aW X pins σ' H' s'/\D.nx σ' H'
 | .brk=>∃ σ' H',aW X pins σ' H' s'/\D.bk σ' H'
 | .cont=>∃ σ' H',aW X pins σ' H' s'/\D.ct σ' H'
 | .ret u=>∃v σ' H',aW X pins σ' H' s'/\bF v u/\D.rt v H'
def PE (X:Cx) (e:Expr) (t:TE):Prop:=
 ∀ ⦃pins:List 10#0⦄ (s:Shared) (σ:St) (H:Hp) (Q:VK),aW X pins σ H s->t σ H Q->wpAny 4#0 X.A (eval e X.env) (EP X pins σ Q) X.xe s
def PT (X:Cx) (e:Expr) (t:TT):Prop:=
 ∀ ⦃pins:List 10#0⦄ (s:Shared) (σ:St) (H:Hp) (Q:Bool->Hp->Prop),aW X pins σ H s->t σ H Q->wpAny 4#0 X.A (isTrue e X.env (eval e X.env)) (TP X pins σ Q) X.xe s
def PW (X:Cx) (e:Expr) (t:TT):Prop:=
 ∀ ⦃whole:Sem Value⦄ (pins:List 10#0) (s:Shared) (σ:St) (H:Hp) (Q:Bool->Hp->Prop),aW X pins σ H s->t σ H Q->wpAny 4#0 X.A (isTrue e X.env whole) (TP X pins σ Q) X.xe s
def PW.pt {X:Cx} {e:Expr} {t:TT} (h:PW X e t):PT X e t:=@h _
def PA (X:Cx) (es:List Expr) (t:TA):Prop:=
 ∀ ⦃pos:Pos⦄ (pins:List 10#0) (s:Shared) (σ:St) (H:Hp) (Q:List V->Hp->Prop),aW X pins σ H s->t σ H Q->wpAny 4#0 X.A (spliced (backTo pos (starEach es X.env))) (AP X pins σ Q) X.xe s
def PS (X:Cx) (st:Stmt) (t:TS):Prop:=
 ∀ ⦃pins:List 10#0⦄ (s:Shared) (σ:St) (H:Hp) (D:eM),aW X pins σ H s->t D σ H->wpAny 4#0 X.A (exec st X.env) (SP X pins D) X.xe s
def pJ (X:Cx) (st:List Stmt) (t:TS):Prop:=
 ∀ ⦃pins:List 10#0⦄ (s:Shared) (σ:St) (H:Hp) (D:eM),aW X pins σ H s->t D σ H->wpAny 4#0 X.A (execs st X.env) (SP X pins D) X.xe s
def fY {α:Type} {t:Sem α} {Q d:α->Shared->Prop} {M:Model} {A:Around} {E:Value->Shared->Prop} {s:Shared} (h:wpAny M A t Q E s) (i:∀a s,Q a s->d a s):wpAny M A t d E s:=y7 h i λ_ _ x=>x
def eN {X:Cx} {pins:List 10#0} {σ:St} {Q:VK} {R:Value->Shared->Prop} {t:Sem Value} {M:Model} {A:Around} {E:Value->Shared->Prop} {s:Shared} (h:wpAny M A t (EP X pins σ Q) E s) (k:∀v s x H,aW X pins σ H s->bF x v->Q x H->R v s):wpAny M A t R E s:=fY h λ_ _ z=>z.elim λ_ z=>z.elim λ_ z=>k _ _ _ _ z.1 z.2.1 z.2.2
def vT {X:Cx} {pins:List 10#0} {σ:St} {Q:List V->Hp->Prop} {R:List Value->Shared->Prop} {t:Sem (List Value)} {M:Model} {A:Around} {E:Value->Shared->Prop} {s:Shared} (h:wpAny M A t (AP X pins σ Q) E s) (k:∀v s x H,aW X pins σ H s->bB x v->Q x H->R v s):wpAny M A t R E s:=fY h λ_ _ z=>z.elim λ_ z=>z.elim λ_ z=>k _ _ _ _ z.1 z.2.1 z.2.2
section
variable {X:Cx}
inductive DW (i:Nat) (σ:St) (H:Hp) (Q:VK):Prop|mk (v:_) (_:σ[i]?=some (some v)) (_:Q v H)
def iU (i:Nat):TE:=λσ H Q=>DW i σ H Q
def tC (v:V):TE:=λ_ H Q=>Q v H
def Nc (G:X.N[i]?=some x) (z:ED X.env.scope x) (q:(x == ("__debug__":Str))=false:=by decide) (n:(x == ("__classdict__":Str))=false:=by decide):PE X (.Name x pos) (iU i):=by
 intro pins s σ H Q I h;let (v,e,h):=h;let (m,B,D):=I.loc;let (u,r,l):=D i x v G e z;let j:EP X pins σ Q u s:={(v),H,I,r,h};rcases l with ⟨hk,F⟩|⟨hk,c,y,d⟩
 ·exact wpAny_Name (wpAny_loadName_local I.ok.kind hk B F j) q
 ·rcases hk with hk|hk
  ·exact wpAny_Name (wpAny_loadName_cell I.ok.kind hk y d j) q
  ·exact wpAny_Name (wpAny_loadName_free I.ok.kind hk y d j n) q
def aR:PE X (.Constant (.int i) j pos) (tC (.int i)):=λ_ _ _ H _ I h=>wpAny_Constant_int {.int i,H,I.tok _,{_,rfl},h}
def uV:PE X (.Constant (.bool b) j pos) (tC (.bl b)):=λ_ _ _ H _ I h=>Constant_bool {.bl b,H,I,rfl,h}
def eU:PE X (.Constant .none j pos) (tC .non):=λ_ _ _ H _ I h=>Constant_none {.non,H,I,rfl,h}
def bC:PE X (.Constant (.str x) j pos) (tC (.str x)):=λ_ _ _ H _ I h=>Calls.Constant_str {.str x,H,I.tok _,{_,rfl},h}
def Gl (X:Cx) (x:Str):Prop:=X.env.kindOf x=some .globalImplicit
def lC {E:Value->Shared->Prop} {pins:List 10#0} {s:Shared} {σ:St} {H:Hp} {x:Str} {u:Value} {pos:Pos} {Q:Value->Shared->Prop} (I:5#0) (d:Gl X x) (i:X.mg x=some u) (h:Q u s)
  (j:(x == ("__debug__":Str))=false:=by decide):wpAny 4#0 X.A (eval (.Name x pos) X.env) Q E s:=
 Calls.Name_function_global I.ok.kind d (Calls.loadGlobal_global (by rw [I.ok.glob];exact I.mod.glob.keeps I.bk) i h) j
def jX {E:Value->Shared->Prop} {pins:List 10#0} {s:Shared} {σ:St} {H:Hp} {x:Str} {u:Value} {pos:Pos} {Q:Value->Shared->Prop} (I:5#0) (n:Gl X x) (j:X.mg x=none) (d:bootBuiltins x=some u) (h:Q u s)
  (i:x≠"__name__":=by decide) (q:(x == ("__debug__":Str))=false:=by decide):wpAny 4#0 X.A (eval (.Name x pos) X.env) Q E s:=by
 let (y,h1,h2):=I.mod.blt;exact Calls.Name_function_global I.ok.kind n (Calls.loadGlobal_builtin (by rw [I.ok.glob];exact I.mod.glob.keeps I.bk) j (by rw [I.ok.blt];exact h1.keeps I.bk) ((h2 x i).trans d) h) q
def fZ (d:Gl X x) (i:X.mg x=some u) (r:bF v u) (j:(x == ("__debug__":Str))=false:=by decide):PE X (.Name x pos) (tC v):=
 λ_ _ _ H _ I h=>lC I d i {(v),H,I,r,h} j
def kX (n:Gl X x) (j:X.mg x=none) (d:bootBuiltins x=some u) (r:bF v u) (i:x≠"__name__":=by decide) (q:(x == ("__debug__":Str))=false:=by decide):PE X (.Name x pos) (tC v):=
 λ_ _ _ H _ I h=>jX I n j d {(v),H,I,r,h} i q
variable {a b:Expr} {ta tb:TE} {pos:Pos}
def PC (X:Cx) (op:CmpOp) (a b:Expr) (t:TE):Prop:=
 ∀ ⦃pins:List 10#0⦄ (s:Shared) (σ:St) (H:Hp) (Q:VK),aW X pins σ H s->t σ H Q ->
  wpAny 4#0 X.A (eval a X.env) (λv s₁=>wpAny 4#0 X.A (eval b X.env) (λu s₂=>wpAny 4#0 X.A (compareOp op v u) (EP X pins σ Q) X.xe s₂) X.xe s₁) X.xe s
def tB (t:TE):TT:=λσ H Q=>t σ H λx H1=>∃c,x=.bl c/\Q c H1
def rT (h:PC X op a b t) (h1:behindInMarks op b=false:=by first|exact nobehind _ (by decide) (by decide)|rfl):PT X (.Compare a [op] [b] pos) (tB t):=by
 intro pins s σ H Q I j;refine wpAny_isTrue_Compare1 (fY (h s σ H _ I j) λv F h1=>fY h1 λu B h2=>fY h2 λc D i=>?_) h1;let (x,H1,n,y,z):=i;let (d,rfl,q):=z;cases y;exact C7 {(H1),n,q}
def cK (h:PE X e t) (B:∀i,isTrue e X.env i=(do let v <- i;standAt e.pos;holding [v] (truthy v)):=by intro _;rfl):PT X e (tB t):=by
 intro pins s σ H Q I j;refine isTrue_plain (eN (h s σ H _ I j) λv D x H1 n y z=>?_) (B _);let (d,rfl,q):=z;cases y;exact C7 {(H1),n,q}
variable {tA tB':TT} {rest:List Expr}
def JD (t u:TT):TT:=λσ H Q=>t σ H λc H1=>if c=true then u σ H1 Q else Q false H1
def LI (t u:TT):TT:=λσ H Q=>t σ H λc H1=>if c=true then Q true H1 else u σ H1 Q
def FD (t:TT):TT:=λσ H Q=>t σ H λc H1=>Q (!c) H1
def iW (d:PT X a tA):PW X (.BoolOp .And [a] pos) tA:=by
 intro i pins s σ H Q I h;refine isTrue_and (fY (d s σ H Q I h) λc j e=>?_);cases c with
 | true=>exact isTrue_and_nil e
 | false=>exact e
def eL (d:PT X a tA):PW X (.BoolOp .Or [a] pos) tA:=by
 intro i pins s σ H Q I h;refine isTrue_or (fY (d s σ H Q I h) λc j e=>?_);cases c with
 | false=>exact isTrue_or_nil e
 | true=>exact e
def lT (q:PT X a tA) (n:PW X (.BoolOp .And (b::rest) pos) tB'):PW X (.BoolOp .And (a::b::rest) pos) (JD tA tB'):=by
 intro z pins s σ H Q I h;refine isTrue_and (fY (q s σ H _ I h) λc y d=>?_);let (H1,i,j):=d;cases c with
 | true=>exact n pins y σ H1 Q i j
 | false=>exact {(H1),i,j}
def fW (q:PT X a tA) (n:PW X (.BoolOp .Or (b::rest) pos) tB'):PW X (.BoolOp .Or (a::b::rest) pos) (LI tA tB'):=by
 intro z pins s σ H Q I h;refine isTrue_or (fY (q s σ H _ I h) λc y d=>?_);let (H1,i,j):=d;cases c with
 | true=>exact {(H1),i,j}
 | false=>exact n pins y σ H1 Q i j
def cQ (d:PT X a tA):PT X (.UnaryOp .Not a pos) (FD tA):=by
 intro pins s σ H Q I h;exact isTrue_not (d s σ H (λc H1=>Q (!c) H1) I h)
inductive Xr (tb:TE) (σ:St) (Q:VK) (x:V) (H1:Hp):Prop|mk (c:_) (_:x=.bl c) (_:if c=true then tb σ H1 Q else Q (.bl false) H1)
def Ke (ta tb:TE):TE:=λσ H Q=>ta σ H λx H1=>Xr tb σ Q x H1
def FC (ta:TE):TE:=λσ H Q=>ta σ H λx H1=>∃c,x=.bl c/\Q (.bl (!c)) H1
def gZ (h:PE X a t):PE X (.BoolOp op [a] pos) t:=λpins s σ H Q I d=>BoolOp_one (h s σ H Q I d)
def gK (n:PE X a ta) (j:PE X (.BoolOp .And (b::rest) pos) tb):PE X (.BoolOp .And (a::b::rest) pos) (Ke ta tb):=by
 intro pins s σ H Q I h;refine BoolOp_and (eN (n s σ H _ I h) λv y x H1 i q d=>?_);let (c,rfl,d):=d;cases q;refine C7 ?_;cases c with
 | true=>exact j y σ H1 Q i d
 | false=>exact {.bl false,H1,i,rfl,d}
def Bh (j:PE X a ta):PE X (.UnaryOp .Not a pos) (FC ta):=by
 intro pins s σ H Q I h;refine UnaryOp_ (eN (j s σ H _ I h) λv q x H1 i n d=>?_);let (c,rfl,d):=d;cases n;exact not_of (C7 {.bl (!c),H1,i,rfl,d})
end
def cM (K:PySem.W.Frag) (H:Hp) (a:Addr) (xs:List V):Prop:=
 Rd H a (.lst xs) \/
  ∃(o:Obj) (its:Array Value) (n:Nat),K.lookup a=some o/\o.cls=.type "list"/\o.dict=none/\o.data=.seq its n/\its.size<=sizeLine/\bB xs its.toList
def cG (K:PySem.W.Frag) (H:Hp) (a:Addr) (xs:List V):Prop:=
 Rd H a (.tup xs) \/
  ∃(o:Obj) (its:Array Value) (n:Nat),K.lookup a=some o/\o.cls=.type "tuple"/\o.data=.seq its n/\its.size<=sizeLine/\bB xs its.toList
def KO:Value->Option V
 | .none=>some .non
 | .bool b=>some (.bl b)
 | .int i _=>some (.int i)
 | .str x _=>some (.str x)
 | .bytes b _=>some (.byt b)
 | .float b _=>some (.flt b)
 | .ref a=>some (.ref a)
 | .type n=>some (.ty n)
 | _=>none
def bF.abs (r:bF x u):KO u=some x:=by
 cases x with
 | non=>cases r;rfl
 | bl _=>cases r;rfl
 | int _=>let (t,rfl):=r;rfl
 | str _=>let (t,rfl):=r;rfl
 | byt _=>let (t,rfl):=r;rfl
 | flt _=>let (t,rfl):=r;rfl
 | ref _=>cases r;rfl
 | ty _=>cases r;rfl
theorem bF.inj (r:bF x u) (q:bF y u):x=y:=Option.some.inj (r.abs.symm.trans q.abs)
theorem bB.inj (p:bB xs us) (k:bB ys us):xs=ys:=by
 induction p generalizing ys with
 | nil=>cases k;rfl
 | cons r _ ih=>
  cases k with
  | cons r' t'=>rw [r.inj r',ih t']
section
variable {X:Cx} {pins:List (Addr × Obj)} {σ:St} {H:Hp} {s:Shared} {a:Addr} {xs ys:List V}
def cM.of {K:PySem.W.Frag} (h:H a=some (.lst xs)):cM K H a xs:=.inl (.inl h)
def cG.of {K:PySem.W.Frag} (h:H a=some (.tup xs)):cG K H a xs:=.inl (.inl h)
def aW.list (I:5#0) (h:cM X.K H a xs):∃d:List Value,bB xs d/\PlainL s.heap a d.toArray/\xs.length<=sizeLine:=by
 rcases h with h|⟨o,d,n,i,j,y,q,B,r⟩
 ·let (z,d,n,r,e):=h.ok I.hok;exact {d,r,{_,n,e,rfl,rfl,rfl},z}
 ·refine {d.toList,r,{o,n,I.kIn a o i,j,y,by simpa using q},?_};let e:=r.length;simp only [u9] at e;omega
def aW.tuple (I:5#0) (h:cG X.K H a xs):∃d:List Value,bB xs d/\IsTup s.heap a d.toArray/\xs.length<=sizeLine:=by
 rcases h with h|⟨o,d,n,i,j,q,y,r⟩
 ·let (z,d,r,p):=h.ok I.hok;exact {(d),r,p,z}
 ·refine {d.toList,r,{o,I.kIn a o i,j,n,by simpa using q},?_};let e:=r.length;simp only [u9] at e;omega
def aW.list_inj (I:5#0) (h:cM X.K H a xs) (h':cM X.K H a ys):xs=ys:=by
 let (j,r,(o,n,e,_,_,d),_):=I.list h;let (i,B,(o',D,q,_,_,y),_):=I.list h';rw [e] at q;cases q;rw [d] at y;injection y with z _;have:j=i:=by simpa using congrArg Array.toList z
 subst this;exact r.inj B
def aW.tuple_inj (I:5#0) (h:cG X.K H a xs) (h':cG X.K H a ys):xs=ys:=by
 let (j,r,(o,e,_,n,d),_):=I.tuple h;let (i,B,(o',q,_,D,y),_):=I.tuple h';rw [e] at q;cases q;rw [d] at y;injection y with z _;have:j=i:=by simpa using congrArg Array.toList z
 subst this;exact r.inj B
end
abbrev Cx.wish (X:Cx) (E:Value->Shared->Prop):Cx:={ X with xe:=E }
abbrev Cx.nox (X:Cx):Cx:=X.wish λ_ _=>False
theorem Cx.Ok.wish {X:Cx} (d:X.Ok) (E:Value->Shared->Prop):(X.wish E).Ok:=
 {(d.mod),d.kind,d.glob,d.blt,d.above,d.inj,d.has,d.cab,d.hd,d.frames,d.stk,d.exf,d.bs,d.bsz,d.noex,d.exfs,d.funs,d.frf}
def Cx.Ok.unwish {X:Cx} {E:Value->Shared->Prop} (d:(X.wish E).Ok):X.Ok:=
 {(d.mod),d.kind,d.glob,d.blt,d.above,d.inj,d.has,d.cab,d.hd,d.frames,d.stk,d.exf,d.bs,d.bsz,d.noex,d.exfs,d.funs,d.frf}
section
variable {X:Cx} {pins:List (Addr × Obj)} {σ:St} {H:Hp} {s:Shared} {E:Value->Shared->Prop}
theorem aW.wish (I:5#0) (E:Value->Shared->Prop):aW (X.wish E) pins σ H s:={I.ok.wish E,I.os,I.bare,I.base,I.loc,I.cell,I.free,I.freeC,I.pin,I.hok,I.len}
theorem aW.unwish (I:aW (X.wish E) pins σ H s):aW X pins σ H s:={(I.ok.unwish),I.os,I.bare,I.base,I.loc,I.cell,I.free,I.freeC,I.pin,I.hok,I.len}
theorem SP.unwish (h:SP (X.wish E) pins D f s'):SP X pins D f s':=by
 cases f with
 | next=>let (d,H',I,q):=h;exact {(d),H',I.unwish,q}
 | brk=>let (d,H',I,q):=h;exact {(d),H',I.unwish,q}
 | cont=>let (d,H',I,q):=h;exact {(d),H',I.unwish,q}
 | ret u=>let (v,d,H',I,r,q):=h;exact {(v),d,H',I.unwish,r,q}
theorem PE.nox {e:Expr} {t:TE} (h:PE X.nox e t):PE X e t:=λpins s σ H Q I d=>
 y7 (h s σ H Q (I.wish _) d) (λ_ _ ⟨v,H',I',r,q⟩=>{(v),H',I'.unwish,r,q}) λ_ _ z=>False.elim z
theorem pJ.nox {st:List Stmt} {t:TS} (h:pJ X.nox st t):pJ X st t:=λpins s σ H D I d=>
 y7 (h s σ H D (I.wish _) d) (λ_ _ q=>q.unwish) λ_ _ z=>False.elim z
end
section
variable {X:Cx} {st:Stmt} {rest:List Stmt} {t u:TS} {e:Expr} {te:TE} {pos:Pos}
def Dp:TS:=λD σ H=>D.nx σ H
def Kb (t u:TS):TS:=λD σ H=>t { D with nx:=u D } σ H
def aZ:pJ X [] Dp:=λ_ _ σ H _ I h=>K8 {(σ),H,I,h}
def aD (h1:PS X st t) (h2:pJ X rest u):pJ X (st::rest) (Kb t u):=by
 intro pins s σ H D I h;refine wpAny_execs_cons (fY (h1 s σ H { D with nx:=u D } I h) λf j q=>?_);cases f with
 | next=>
  let (d,H',i,q):=q;exact h2 j d H' D i q
 | ret v=>exact q
 | brk=>exact q
 | cont=>exact q
def aH (h1:PS X st t):pJ X [st] t:=by
 intro pins s σ H D I h;refine wpAny_execs_cons (fY (h1 s σ H D I h) λf d q=>?_);cases f with
 | next=>exact K8 q
 | ret v=>exact q
 | brk=>exact q
 | cont=>exact q
def aW.quiet {pins:List 10#0} {σ:St} {H:Hp} {s:Shared} (I:5#0):interactive X.env=false:=by simp [interactive,I.ok.kind]
def FK (te:TE):TS:=λD σ H=>te σ H λ_ H1=>D.nx σ H1
def eI (n:PE X e te) (i:swapsWith e none pos.line X.env=pure false:=by rfl):PS X (.Expr e pos) (FK te):=by
 intro pins s σ H D I h;exact wpAny_Expr_any (eN (n s σ H _ I h) λv y x H1 d q j=>{(σ),H1,d,j}) I.quiet i
def Zo (te:TE):TS:=λD σ H=>te σ H D.rt
def aU (n:PE X e te):PS X (.Return (some e) pos) (Zo te):=by
 intro pins s σ H D I h;exact wpAny_Return_some (eN (n s σ H _ I h) λv q x H1 d j i=>{(x),σ,H1,d,j,i})
def FI (c:TT) (t u:TS):TS:=λD σ H=>c σ H λb H1=>if b=true then t D σ H1 else u D σ H1
def bV {c:Expr} {a b:List Stmt} {tc:TT} (z:PT X c tc) (B:pJ X a t) (y:pJ X b u):PS X (.If c a b pos) (FI tc t u):=by
 intro pins s σ H D I h;refine wpAny_If (fY (z s σ H _ I h) λd q i=>?_);let (H1,j,n):=i;cases d with
 | true=>exact B q σ H1 D j n
 | false=>exact y q σ H1 D j n
def Kc:TS:=λ_ _ _=>False
def rV:PS X st Kc:=λ_ _ _ _ _ _ h=>h.elim
def cR:pJ X d Kc:=λ_ _ _ _ _ _ h=>h.elim
end
abbrev TG:=V->St->Hp->(St->Hp->Prop)->Prop
abbrev DK:=List V->St->Hp->(St->Hp->Prop)->Prop
def PG (X:Cx) (target:Expr) (t:TG):Prop:=
 ∀ ⦃pins:List 10#0⦄ (s:Shared) (σ:St) (H:Hp) (v:V) (u:Value) (Q:St->Hp->Prop),aW X pins σ H s->bF v u->t v σ H Q ->
  wpAny 4#0 X.A (assign target X.env u) (λ_ s'=>∃ σ' H',aW X pins σ' H' s'/\Q σ' H') X.xe s
def IE (X:Cx) (ts:List Expr) (t:DK):Prop:=
 ∀ ⦃pins:List 10#0⦄ (s:Shared) (σ:St) (H:Hp) (vs:List V) (us:List Value) (Q:St->Hp->Prop),aW X pins σ H s->bB vs us->t vs σ H Q ->
  wpAny 4#0 X.A (assignInOrder ((assignEach ts X.env).map (·.2)) us) (λ_ s'=>∃ σ' H',aW X pins σ' H' s'/\Q σ' H') X.xe s
abbrev HX:=V->V->V->Hp->(Hp->Prop)->Prop
def ID (X:Cx) (t:HX):Prop:=
 ∀(pins:List 10#0) (s:Shared) (σ:St) (H:Hp) (o i v:V) (ov iv u:Value) (Q:Hp->Prop),aW X pins σ H s->bF o ov->bF i iv->bF v u->t o i v H Q ->
  wpAny 4#0 X.A (setItem ov iv u) (λ_ s'=>∃H',aW X pins σ H' s'/\Q H') X.xe s
abbrev KS:=V->V->Hp->VK->Prop
def LV (X:Cx) (op:Operator) (t:KS):Prop:=
 ∀(pins:List 10#0) (s:Shared) (σ:St) (H:Hp) (x y:V) (v u:Value) (Q:VK),aW X pins σ H s->bF x v->bF y u->t x y H Q ->
  wpAny 4#0 X.A (inplaceOp op v u) (EP X pins σ Q) X.xe s
section
variable {X:Cx} {pos:Pos}
def cS (i:Nat):TG:=λv σ H Q=>Q (σ.set i (some v)) H
def aM (d:X.N.Nodup) (hi:X.N[i]?=some x) (j:vN X.env.scope x) (n:X.fn x=true\/X.env.scope.names.lookup x=some .local:=by first|exact .inl rfl|exact .inr rfl|assumption):PG X (.Name x pos) (cS i):=by
 intro pins s σ H v u Q I r h;exact wpAny_assign_Name (mK I d hi j r (λs' q=>{_,H,q,h}) n)
def Vw:DK:=λvs σ H Q=>vs=[]/\Q σ H
inductive Xs (t:TG) (u:DK) (vs:List V) (σ:St) (H:Hp) (Q:St->Hp->Prop):Prop|mk (v:_) (r:_) (_:vs=v::r) (_:t v σ H λσ' H'=>u r σ' H' Q)
def sV (t:TG) (u:DK):DK:=λvs σ H Q=>Xs t u vs σ H Q
def dO:IE X [] Vw:=by
 intro pins s σ H d i Q I r h;let (e,h):=h;subst e;cases r;exact assignInOrder_nil {(σ),H,I,h}
def bA (h1:PG X e t) (h2:IE X es u)
  (q:(assignEach (e::es) X.env).map (·.2)=assign e X.env::(assignEach es X.env).map (·.2):=by rfl):IE X (e::es) (sV t u):=by
 intro pins s σ H D B Q I r h;let (v,F,i,h):=h;subst i;cases r with
 | cons r rr=>
  rw [q];refine assignInOrder_cons (fY (h1 s σ H _ _ _ I r h) λ_ z d=>?_);let (n,H1,j,y):=d;exact h2 z n H1 _ _ Q j rr y
def Vv (K:PySem.W.Frag) (n:Nat) (t:DK):TG:=λv σ H Q=>∃a xs,v=.ref a/\cG K H a xs/\xs.length=n/\t xs σ H Q
def fU (F:X.calm=true) (h:IE X es t)
  (z:(assignEach es X.env).length=n:=by rfl) (i:(assignEach es X.env).findIdx? (·.1)=none:=by rfl):PG X (.Tuple es k pos) (Vv X.K n t):=by
 intro pins s σ H v u Q I r d;let (a,xs,y,L,B,d):=d;subst y;cases r;let (J,j,G,M):=I.tuple L;refine assign_Tuple_tuple (I.ok.hd F) G (by simp [z,<- B,j.length]) i λh' q=>?_;let D:aW X pins σ H { s with heap:=h' }:=I.kept (t':=s.toks) λb o e=>q b o (q5 (j6 e)) e;exact h _ σ H xs _ Q D (by simpa using j) d
def KJ (to ti:TE) (t:HX):TG:=λv σ H Q=>to σ H λo H1=>ti σ H1 λi H2=>t o i v H2 λH3=>Q σ H3
def BF (J:PE X o to) (hi:PE X i q) (G:ID X t)
  (M:∀v,assign (.Subscript o i pos) X.env v=(do
   let d <- holding [v] (eval o X.env)
   let j <- holding [v,d] (eval i X.env)
   standAt pos
   holding [v,d,j] (setItem d j v)
   release [v,d,j] []):=by intro _;rfl):PG X (.Subscript o i pos) (KJ to q t):=by
 intro pins s σ H v u Q I r h;rw [M];refine g7 (y4 (eN (J s σ H _ I h) λd D x H1 F U W=>?_));refine g7 (y4 (eN (hi D σ H1 _ F W) λj N y H2 L B S=>?_));refine g7 (N5 (g7 (y4 (fY (G pins N σ H2 x y v d j u _ L U B r S) λ_ Z n=>?_))));let (z,Y,O):=n;exact wpAny_release {(σ),z,Y,O}
def Gw (te:TE) (g:TG):TS:=λD σ H=>te σ H λx H1=>g x σ H1 D.nx
def wM (z:PE X e te) (B:PG X tg g) (j:swapsWithSole [tg] e pos.line X.env=pure false:=by rfl) (d:swappedStores [tg] e X.env=pure none:=by rfl)
  (h1:(assignEach [tg] X.env).map (·.2)=[assign tg X.env]:=by rfl):PS X (.Assign [tg] e pos) (Gw te g):=by
 intro pins s σ H D I h;refine wpAny_Assign_stores (eN (z s σ H _ I h) λv F x H1 i n y=>?_) j d;rw [h1];exact fY (B F σ H1 x v _ i n y) λ_ G q=>q
def bT (J:X.N.Nodup) (hi:X.N[i]?=some x) (d:vN X.env.scope x) (G:PE X e te) (z:swapsWith e (some (.Name x pos')) pos.line X.env=pure false:=by rfl) (j:X.fn x=true\/X.env.scope.names.lookup x=some .local:=by first|exact .inl rfl|exact .inr rfl|assumption):
  PS X (.Assign [.Name x pos'] e pos) (Gw te (cS i)):=by
 intro pins s σ H D I h;refine wpAny_Assign_Name (eN (G s σ H _ I h) λv M y H1 n B F=>?_) z;exact mK n J hi d B (λL q=>{_,H1,q,F}) j
def JC (i:Nat) (te:TE) (ti:KS):TS:=λD σ H=>∃x,σ[i]?=some (some x)/\te σ H λy H1=>ti x y H1 λz H2=>D.nx (σ.set i (some z)) H2
def BB (hN:X.N.Nodup) (hi:X.N[i]?=some x) (j:vN X.env.scope x) (Y:PE X e te) (U:LV X op B) (F:X.fn x=true\/X.env.scope.names.lookup x=some .local:=by first|exact .inl rfl|exact .inr rfl|assumption):
  PS X (.AugAssign (.Name x pos') op e pos) (JC i te B):=by
 intro pins s σ H D I h;let (v,e1,h):=h;let (m,G,hl):=I.loc;let n:ED X.env.scope x:=by rcases j with k|k;exact .inl k;exact .inr (.inl k)
 let (u,r,l):=hl i x v hi e1 n;refine wpAny_AugAssign_Name ?_;let q:wpAny 4#0 X.A (eval e X.env) (λw M=>wpAny 4#0 X.A (inplaceOp op u w) (λr Z=>wpAny 4#0 X.A (storeName X.env x r) (λ_=>SP X pins D .next) X.xe Z) X.xe M) X.xe s:=by
  refine eN (Y s σ H _ I h) λw O y H1 S r1 q1=>?_;refine eN (U pins O σ H1 v y u w _ S r r1 q1) λz s2 zv H2 W J q2=>?_;exact mK W hN hi j J (λs3 I3=>{_,H2,I3,q2}) F
 rcases l with ⟨hk,hm⟩|⟨hk,c,L,d⟩
 ·exact wpAny_loadName_local I.ok.kind hk G hm q
 ·rcases hk with hk|hk
  ·exact wpAny_loadName_cell I.ok.kind hk L d q
  ·rcases j with k|k
   ·have:X.env.scope.names.lookup x=some .free:=hk;rw [k] at this;cases this
   ·have:X.env.scope.names.lookup x=some .free:=hk;rw [k] at this;cases this
def MH (f:Int->Int->Int):KS:=λx y H Q=>∃i j,x=.int i/\y=.int j/\Q (.int (f i j)) H
def CD:LV X .Add (MH λi j=>i+j):=by
 intro pins s σ H x y v u Q I B z h;let (i,j,d,n,q):=h;subst d;subst n;let (t,rfl):=B;let (D,rfl):=z;exact iadd_int {.int _,H,I.tok _,{_,rfl},q}
def Zl (c:TT) (tb:TS):TS:=λD σ H=>∃W:Nat->St->Hp->Prop,(∃m,W m σ H)/\∀m σ H,W m σ H ->
 c σ H λb H1=>if b=true then ∃N:St->Hp->Prop,(∀ σ' H',N σ' H'->∃m',m'<m/\W m' σ' H')/\tb { D with nx:=N,ct:=N,bk:=D.nx } σ H1 else D.nx σ H1
def Na {c:Expr} {d:List Stmt} {tc:TT} {tb:TS} (S:PassesOwn 4#0 X.A X.env X.xe) (hc:PT X c tc) (hb:pJ X d tb):PS X (.While c d [] pos) (Zl tc tb):=by
 intro pins s σ H D I h;let (W,(m0,w0),j):=h;refine wpAny_While (codeAny_whileLoop (λn s'=>∃U H',aW X pins U H' s'/\W n U H') ?_ m0 {(σ),H,I,w0});rintro n s1 ⟨y,H1,I1,w1⟩;refine C3 S (fY (hc s1 y H1 _ I1 (j n y H1 w1)) λb s2 G=>?_);let (H2,Y,B):=G;cases b with
 | true=>
  let (N,Z,B):=B;rw [if_pos rfl];refine C3 S (fY (hb s2 y H2 _ Y B) λf s3 z=>?_);cases f with
  | next=>
   let (q,i,O,F):=z;let (J,L,M):=Z q i F;exact {(J),L,q,i,O,M}
  | cont=>
   let (q,i,O,F):=z;let (J,L,M):=Z q i F;exact {(J),L,q,i,O,M}
  | brk=>exact z
  | ret v=>exact z
 | false=>
  rw [if_neg r6];exact K8 {(y),H2,Y,B}
end
structure It where
 go:Nat->Hp->Prop
 yld:Nat->Hp->V->Hp->Prop
 stop:Nat->Hp->Prop
def mC (X:Cx) (pins:List 10#0) (H:Hp) (b:Addr):Prop:=
 H b=none/\b≠X.env.locals/\b ∉ X.fs/\(b ∈ X.ex\/X.s₀.heap.objs.size<=b)/\(∀x c,X.env.cells.lookup x=some c->c≠b)/\∀p ∈ X.pn++pins,p.1≠b
def aW.fpOk {X:Cx} {pins:List 10#0} {σ:St} {H H':Hp} {s:Shared} {b:Addr} (I:5#0) (d:s.heap.objs.size<=b) (i:H' b=none):mC X pins H' b:=by
 refine {i,M3 (u5 I.lt d),I.nofs d,.inr (u8 I.sz d),λx c e z=>?_,λp j z=>?_}
 ·let (v,q):=I.cell x c e;exact absurd (u5 q.lt (by rw [z];exact d)) (A5 _)
 ·exact absurd (u5 (j6 (I.pin p j).1) (by rw [z];exact d)) (A5 _)
structure xD (P:Program) (w:World) (K:PySem.W.Frag) (hd:Option Value) (tg:Expr) (J:It) (fp:List Addr) (it:Addr) (tn:Nat->Heap->Prop):Prop where
 mem:it ∈ fp
 obj:∀i h,tn i h->∀b ∈ fp,∃o,h.get? b=some o/\∀v,o.data≠.cell v
 keep:∀i h h',tn i h->(∀b ∈ fp,∀o,h.get? b=some o->h'.get? b=some o)->tn i h'
 item:∀(X:Cx),X.prog=P->X.w=w->X.K=K->X.A.handled=hd->∀(i:Nat) (pins:List 10#0) (s:Shared) (σ:St) (H:Hp) (E:Value->Shared->Prop),aW X pins σ H s->(∀b ∈ fp,mC X pins H b)->tn i s.heap->J.go i H ->
  wpAny (model P w) X.A (pyNext (.ref it)) (λr s1=>∃u,r=some u /\
   wpAny (model P w) X.A (letOwnedTupleGo tg (.ref it) u) (λ_ s2=>∃x H',aW X pins σ H' s2/\bF x u/\J.yld i H x H'/\tn (i+1) s2.heap/\∀b ∈ fp,H' b=none) E s1) E s
 done:∀(X:Cx),X.prog=P->X.w=w->X.K=K->X.A.handled=hd->∀(i:Nat) (pins:List 10#0) (s:Shared) (σ:St) (H:Hp) (E:Value->Shared->Prop),aW X pins σ H s->(∀b ∈ fp,mC X pins H b)->tn i s.heap->J.stop i H ->
  wpAny (model P w) X.A (pyNext (.ref it)) (λr s1=>r=none/\aW X pins σ H s1) E s
 self:∀(A:Around) (i:Nat) (s:Shared) (Q:Value->Shared->Prop) (E:Value->Shared->Prop),tn i s.heap->Q (.ref it) s->wpAny (model P w) A (pyIter (.ref it)) Q E s
abbrev TI:=St->Hp->(It->Hp->Prop)->Prop
def LW (X:Cx) (pins:List 10#0) (σ:St) (tg:Expr) (R:It->Hp->Prop) (itv:Value) (s2:Shared):Prop:=
 ∃(it:Addr) (fp:List Addr) (tn:Nat->Heap->Prop) (J:It) (H':Hp),itv=.ref it/\aW X pins σ H' s2/\xD X.prog X.w X.K X.A.handled tg J fp it tn/\tn 0 s2.heap/\(∀b ∈ fp,mC X pins H' b)/\R J H'
def PI (X:Cx) (tg iter:Expr) (wi:TI):Prop:=
 ∀ ⦃pins:List 10#0⦄ (s:Shared) (σ:St) (H:Hp) (R:It->Hp->Prop),aW X pins σ H s->wi σ H R ->
  wpAny 4#0 X.A (eval iter X.env) (λv s1=>wpAny 4#0 X.A (pyIter v) (LW X pins σ tg R) X.xe s1) X.xe s
def sS {M:Model} {A:Around} {E:Value->Shared->Prop} {s:Shared} {tg:Expr} {it:Addr} {u:Value} {o:Obj} {n:String} {vs:Array Value} {Q:Unit->Shared->Prop} (q:s.heap.get? it=some o) (j:o.cls=.type n) (y:o.data=.fields vs)
  (i:["enumerate","zip","dict_itemiterator","dict_reverseitemiterator","odict_iterator","itertools.zip_longest","itertools.pairwise"].contains n=false) (d:Q () s):wpAny M A (letOwnedTupleGo tg (.ref it) u) Q E s:=by
 unfold letOwnedTupleGo;cases tg <;> first
  | exact j3 d
  | (cases u <;> first
    | exact j3 d
    | (refine g7 (wpAny_load q ?_)
       rw [j,y]
       show wpAny M A (if (["enumerate","zip","dict_itemiterator","dict_reverseitemiterator","odict_iterator","itertools.zip_longest","itertools.pairwise"].contains n && vs[0]? == some (rawInt _))=true then _ else _) Q E s
       rw [if_neg (by intro h;rw [i,Bool.false_and] at h;cases h)]
       exact j3 d))
def De (K:PySem.W.Frag) (a:Addr):It:=
 ⟨λi H=>∃xs x,cM K H a xs/\xs[i]?=some x,λi H x H'=>H'=H/\∀xs,cM K H a xs->xs[i]?=some x,λi H=>∃xs,cM K H a xs/\xs.length<=i⟩
def Xo (K:PySem.W.Frag) (a:Addr):It:=
 ⟨λi H=>∃xs x,cG K H a xs/\xs[i]?=some x,λi H x H'=>H'=H/\∀xs,cG K H a xs->xs[i]?=some x,λi H=>∃xs,cG K H a xs/\xs.length<=i⟩
def DV (lo:Int) (n:Nat):It:=⟨λi _=>i<n,λi H x H'=>H'=H/\x=.int (lo+i),λi _=>n<=i⟩
def uL {P:Program} {q:Option Value} {w:World} {K:PySem.W.Frag} {tg:Expr} (a it:Addr) (e0:q=none):xD P w K q tg (De K a) [it] it (λi h=>h.IsListIter it a i) where
 mem:=by simp
 obj:=λi h st b j=>by
  let e:b=it:=by simpa using j
  subst e
  let (o,e,c,d):=st
  exact {o,e,λv z=>by rw [d] at z;cases z}
 keep:=λi h h' st k=>st.at λo e=>k it 6#0 o e
 item:=by
  intro X J F O Z i pins s σ H E I y st G;subst J F O;let (xs,x,B,D):=G;let (S,N,p,hz):=I.list B;let (u,hu,ru):=N.get D;let (L,U,f2,Y,f4,M):=y it 6#0;refine wpAny_pyNext_list_item st p.isList (x:=u) (by simpa using hu) λh' n sb=>?_;let I1:aW X pins σ H { s with heap:=h' }:=I.turned (t':=s.toks) (λb o j e=>(sb.2 b j).trans e) L U Y f4 M;let (o,e,c,d):=id n;exact {u,rfl,sS (s:={ s with heap:=h' }) e c d 7#0 {x,H,I1,ru,{rfl,λys hy=>by rw [I.list_inj hy B];exact D},n,λb j=>(y b j).1}}
 done:=by
  intro X J F O Z i pins s σ H E I y st G;subst J F O;let (xs,B,D):=G;let (S,N,p,hz):=I.list B;let (L,U,f2,Y,f4,M):=y it 6#0;let hl:=N.length;exact wpAny_pyNext_list_end (Z.trans e0) st p.isList (by simp;omega) λh' eb=>{rfl,I.turned (t':=s.toks) (λb o j e=>eb b o j e) L U Y f4 M}
 self:=λ_ _ _ _ _ st h=>wpAny_pyIter_listiter st h
def rD {P:Program} {y:Option Value} {w:World} {K:PySem.W.Frag} {tg:Expr} (a it:Addr) (e0:y=none):xD P w K y tg (Xo K a) [it] it (λi h=>h.IsTupleIter it a i) where
 mem:=by simp
 obj:=λi h st b j=>by
  let e:b=it:=by simpa using j
  subst e
  let (o,e,c,d):=st
  exact {o,e,λv z=>by rw [d] at z;cases z}
 keep:=λi h h' st k=>st.at λo e=>k it 6#0 o e
 item:=by
  intro X L G S Z i pins s σ H E I B st J;subst L G S;let (xs,x,D,F):=J;let (n,O,p,hz):=I.tuple D;let (u,hu,ru):=O.get F;let (M,U,f2,Y,f4,N):=B it 6#0;refine wpAny_pyNext_tuple_item st (show s.heap.IsTuple a n.toArray from p) (x:=u) (by simpa using hu) λh' q sb=>?_;let I1:aW X pins σ H { s with heap:=h' }:=I.turned (t':=s.toks) (λb o j e=>(sb.2 b j).trans e) M U Y f4 N;let (o,e,c,d):=id q;exact {u,rfl,sS (s:={ s with heap:=h' }) e c d 7#0 {x,H,I1,ru,{rfl,λys hy=>by rw [I.tuple_inj hy D];exact F},q,λb j=>(B b j).1}}
 done:=by
  intro X L G S Z i pins s σ H E I B st J;subst L G S;let (xs,D,F):=J;let (n,O,p,hz):=I.tuple D;let (M,U,f2,Y,f4,N):=B it 6#0;let hl:=O.length;exact wpAny_pyNext_tuple_end (Z.trans e0) st (show s.heap.IsTuple a n.toArray from p) (by simp;omega) λh' eb=>{rfl,I.turned (t':=s.toks) (λb o j e=>eb b o j e) M U Y f4 N}
 self:=λ_ _ _ _ _ st h=>wpAny_pyIter_tupleiter st h
def Ak {P:Program} {q:Option Value} {w:World} {K:PySem.W.Frag} {tg:Expr} (it:Addr) (lo:Int) (n:Nat) (S:q=none):xD P w K q tg (DV lo n) [it] it (λi h=>IsRangeIter h it (lo+(i:Nat) * 1) ((n:Int)-(i:Nat)) 1) where
 mem:=by simp
 obj:=λi h st b d=>by
  let e:b=it:=by simpa using d
  subst e
  exact⟨_,st,λv z=>by
   let z':Data.fields _=Data.cell v:=z
   cases z'⟩
 keep:=λi h h' st k=>k it 6#0 _ st
 item:=by
  intro X F B M D i pins s σ H E I y st G;subst F B M;let (J,N,Y,O,f4,L):=y it 6#0;let W:=Walks.range (prog:=X.prog) (w:=X.w) (D.trans S) it lo 1 n;refine W.item i s _ _ G st λv h' tk hv j kk=>?_;let (t,rfl):=hv;let Z:aW X pins σ H { s with heap:=h',toks:=tk }:=I.turned (λb o d e=>kk b o (by simpa using d) e) J N O f4 L;refine {_,rfl,sS (s:={ s with heap:=h',toks:=tk }) (n:="range_iterator") j rfl rfl 7#0 {.int (lo+i),H,Z,{t,?_},{(rfl),rfl},j,λb d=>(y b d).1}};rw [Int.mul_one]
 done:=by
  intro X F B M D i pins s σ H E I y st G;subst F B M;let (J,N,Y,O,f4,L):=y it 6#0;exact wpAny_pyNext_range_end (D.trans S) st (by have:n<=i:=G;omega) λh' U=>{rfl,I.turned (t':=s.toks) (λb o d e=>U b o d e) J N O f4 L}
 self:=λ_ _ _ _ _ st h=>wpAny_pyIter_rangeiter st h
section
variable {X:Cx} {tg:Expr}
def HG (K:PySem.W.Frag) (tl:TE):TI:=λσ H R=>tl σ H λx H1=>∃a,x=.ref a/\(∃xs,cM K H1 a xs)/\R (De K a) H1
def KC (K:PySem.W.Frag) (tl:TE):TI:=λσ H R=>tl σ H λx H1=>∃a,x=.ref a/\(∃xs,cG K H1 a xs)/\R (Xo K a) H1
def eZ {l:Expr} {tl:TE} (y:PE X l tl) (j:X.calm=true:=by rfl):PI X tg l (HG X.K tl):=by
 intro pins s σ H R I h;refine eN (y s σ H _ I h) λv i x H1 d B D=>?_;let (a,e,(xs,F),q):=D;subst e;cases B;let (z,J,p,G):=d.list F;refine P7 p.isList ?_;refine {i.heap.objs.size,[i.heap.objs.size],_,_,H1,rfl,d.kept (t':=i.toks) λb o e=>i8 _ e,uL a _ (I.ok.hd j),{_,n9 _ rfl,rfl,rfl},λb n=>?_,q};let e:b=i.heap.objs.size:=by simpa using n
 subst e;exact d.fpOk (i7 _) (d.hok.fresh (i7 _))
def lU {l:Expr} {tl:TE} (z:PE X l tl) (n:X.calm=true:=by rfl):PI X tg l (KC X.K tl):=by
 intro pins s σ H R I h;refine eN (z s σ H _ I h) λv d x H1 i B D=>?_;let (a,e,(xs,F),q):=D;subst e;cases B;let (j,J,p,G):=i.tuple F;refine T0 (show d.heap.IsTuple a j.toArray from p) ?_;refine {d.heap.objs.size,[d.heap.objs.size],_,_,H1,rfl,i.kept (t':=d.toks) λb o e=>i8 _ e,rD a _ (I.ok.hd n),{_,n9 _ rfl,rfl,rfl},λb y=>?_,q};let e:b=d.heap.objs.size:=by simpa using y
 subst e;exact i.fpOk (i7 _) (i.hok.fresh (i7 _))
def yF {pins:List 10#0} {σ:St} {H:Hp} {s:Shared} {R:It->Hp->Prop} {E:Value->Shared->Prop} {lo hi:Int} {t u v:Tok} {tk:Nat} (i:X.calm=true) (I:5#0) (h1:-(2 ^ 62)<=lo) (h2:lo<2 ^ 62) (B:-(2 ^ 62)<=hi) (z:hi<2 ^ 62)
  (q:R (DV lo (hi-lo).toNat) H):wpAny 4#0 X.A (pyIter (.ref s.heap.objs.size)) (LW X pins σ tg R) E { s with heap:=s.heap.push { cls:=.type "range",data:=.fields #[.int lo t,.int hi u,.int 1 v] },toks:=tk }:=by
 refine wpAny_pyIter_range (IsRange.new ..) (small_one h1 h2 B z) ?_;let d:aW X pins σ H { s with heap:=s.heap.push { cls:=.type "range",data:=.fields #[.int lo t,.int hi u,.int 1 v] },toks:=tk }:=I.kept λb o e=>i8 _ e;refine {(s.heap.push { cls:=.type "range",data:=.fields #[.int lo t,.int hi u,.int 1 v] }).objs.size,[(s.heap.push { cls:=.type "range",data:=.fields #[.int lo t,.int hi u,.int 1 v] }).objs.size],_,_,H,rfl,
  d.kept (t':=tk) λb o e=>i8 _ e,Ak _ lo (hi-lo).toNat (I.ok.hd i),?_,λb n=>?_,q}
 ·let j:lo+((0:Nat):Int) * 1=lo:=by simp
  let y:(((hi-lo).toNat:Nat):Int)-((0:Nat):Int)=Builtin.Range.rangeSize lo hi 1:=by rw [rangeSize_one];split <;> omega
  show IsRangeIter _ _ (lo+((0:Nat):Int) * 1) ((((hi-lo).toNat:Nat):Int)-((0:Nat):Int)) 1;rw [j,y];exact n9 _ rfl
 ·let e:b=(s.heap.push { cls:=.type "range",data:=.fields #[.int lo t,.int hi u,.int 1 v] }).objs.size:=by simpa using n
  subst e;exact d.fpOk (i7 _) (d.hok.fresh (i7 _))
def HF (ta:TA):TI:=λσ H R=>ta σ H λvs H1=>∃j:Int,vs=[.int j]/\-(2 ^ 62)<=j/\j<2 ^ 62/\R (DV 0 j.toNat) H1
def HE (ta:TA):TI:=λσ H R=>ta σ H λvs H1=>∃i j:Int,vs=[.int i,.int j]/\(-(2 ^ 62)<=i/\i<2 ^ 62/\-(2 ^ 62)<=j/\j<2 ^ 62)/\R (DV i (j-i).toNat) H1
def gC {a:Expr} {ta:TA} {p pos:Pos} (G:Gl X "range") (y:X.mg "range"=none) (D:PA X [a] ta) (B:starEach [a] X.env=[(false,eval a X.env)]:=by rfl) (i:X.calm=true:=by rfl):PI X tg (.Call (.Name "range" p) [a] [] pos) (HF ta):=by
 intro pins s σ H R I h;refine Call_ (jX I G y boot_range (M8 (vT (D pins s σ H _ I h) λJ M L H1 n F d=>?_) B rfl));let (j,e,d,z,q):=d;subst e;cases F with
 | cons r rr=>
  cases rr;let (t,rfl):=r;exact call_range_1 (yF i n ∎ ∎ d z (by simpa using q))
def oG (N:Gl X "range") (D:X.mg "range"=none) (L:PA X [a,b] ta) (J:starEach [a,b] X.env=[(false,eval a X.env),(false,eval b X.env)]:=by rfl) (d:starEach [b] X.env=[(false,eval b X.env)]:=by rfl) (y:X.calm=true:=by rfl):
  PI X tg (.Call (.Name "range" p) [a,b] [] pos) (HE ta):=by
 intro pins s σ H R I h;refine Call_ (jX I N D boot_range (M8 (vT (L pins s σ H _ I h) λO W S H1 B M n=>?_) (by rw [J,d]) (by rw [d];rfl)));let (i,j,e,(n,G,z,F),q):=n;subst e;cases M with
 | cons r rr=>
  cases rr with
  | cons r' rr=>
   cases rr;let (t,rfl):=r;let (U,rfl):=r';exact call_range_2 (yF y B n G z F q)
def FJ (wi:TI) (g:TG) (tb:TS):TS:=λD σ H=>wi σ H λJ H1=>∃W:Nat->Nat->St->Hp->Prop,(∃m,W 0 m σ H1)/\∀i m σ H,W i m σ H ->
 (J.stop i H/\D.nx σ H)\/(J.go i H/\∃N:St->Hp->Prop,(∀ σ' H',N σ' H'->∃m',m'<m/\W (i+1) m' σ' H')/\∀x H',J.yld i H x H'->g x σ H' λσ2 H2=>tb { D with nx:=N,ct:=N,bk:=D.nx } σ2 H2)
def gH (fp:List Addr) (h:Heap):List 10#0:=fp.filterMap λb=>(h.get? b).map λo=>(b,o)
def eE (i:b ∈ d) (e:h.get? b=some o):(b,o) ∈ gH d h:=K7.mpr {b,i,by rw [e];rfl}
def Ht (i:p ∈ gH d h):p.1 ∈ d/\h.get? p.1=some p.2:=by
 let (b,j,e):=K7.mp i;cases q:h.get? b with
 | none=>rw [q] at e;cases e
 | some o=>
  rw [q] at e;let n:(b,o)=p:=Option.some.inj e;subst n;exact {(j),q}
def aW.pinned {pins:List 10#0} {σ:St} {H:Hp} {s:Shared} {i:List Addr} (I:5#0) (q:∀b ∈ i,mC X pins H b) (B:∀b ∈ i,∃o,s.heap.get? b=some o/\∀v,o.data≠.cell v):aW X (pins++gH i s.heap) σ H s:=
 I.pins_of λp G=>(q8.mp G).elim (λz=>I.pin p (k7 _ z)) λz=>by
  let (j,e):=Ht z
  let (D,F,y,_):=q p.1 j
  let (o,n,d):=B p.1 j
  rw [e] at n;cases n
  exact {(e),D,F,y,d}
def aW.unpinned {pins pl:List 10#0} {σ:St} {H:Hp} {s:Shared} (I:aW X (pins++pl) σ H s):aW X pins σ H s:=I.pins_of λp d=>I.pin p (k7 _ (B6 _ d))
def eC (Y:PassesOwn 4#0 X.A X.env X.xe) (hc:X.calm=true) (hi:PI X tg G wi) (hg:PG X tg g) (B:pJ X O tb)
  (hs:∀x,foldedSetIterable G X.env x=pure x:=by intro _;rfl):PS X (.For tg G O [] pos) (FJ wi g tb):=by
 intro pins s σ H D I h;refine wpAny_For (fY (hi s σ H _ I h) λv s1 h1=>fY h1 λa7 s2 h2=>?_) hs;let (it,fp,tn,J,H2,e,I2,T,a5,f2,W,(m0,w0),U):=h2;subst e;let L:∀{H':Hp},(∀b ∈ fp,H' b=none)->∀b ∈ fp,mC X pins H' b:=λhn b B=>{hn b B,(f2 b B).2};refine codeAny_forLoop_any (λn s'=>∃i Z H',aW X pins Z H' s'/\tn i s'.heap/\(∀b ∈ fp,H' b=none)/\W i n Z H') ?_ m0 {0,σ,H2,I2,a5,λb B=>(f2 b B).1,w0};rintro n s3 ⟨i,σ3,H3,I3,a3,a1,w3⟩;rcases U i n σ3 H3 w3 with ⟨a2,qn⟩|⟨go,N,hN,a0⟩
 ·refine C3 Y (fY (T.done X rfl rfl rfl rfl i pins s3 σ3 H3 X.xe I3 (L a1) a3 a2) λr s4 j=>?_);let (hr,I4):=j;subst hr;exact K8 {(σ3),H3,I4,qn}
 ·refine C3 Y (fY (T.item X rfl rfl rfl rfl i pins s3 σ3 H3 X.xe I3 (L a1) a3 go) λr s4 j=>?_);let (u,hr,h4):=j;subst hr;refine C3 Y (fY h4 λ_ s5 j=>?_);let (x,H5,I5,r5,y5,S,a6):=j;let a4:=I5.pinned (L a6) (T.obj _ _ S);refine C3 Y (fY (hg s5 σ3 H5 x u _ a4 r5 (a0 x H5 y5)) λ_ s6 j=>?_);let (σ6,H6,I6,q6):=j;refine C3 Y (fY (B s6 σ6 H6 _ I6 q6) λf s7 M=>?_);let q:∀{y:St} {F:Hp},aW X (pins++gH fp s5.heap) y F s7->N y F->∃m,m<n/\∃i Z H',aW X pins Z H' s7/\tn i s7.heap/\(∀b ∈ fp,H' b=none)/\W i m Z H':=λ{y F} z n7=>by
   let (m',hm,w7):=hN y F n7;refine {m',hm,i+1,y,F,z.unpinned,T.keep _ _ _ S λb B o e=>(z.pin (b,o) (k7 _ (k7 _ (eE B e)))).1,λb B=>?_,w7};let (o,e,d):=T.obj _ _ S b B;exact(z.pin (b,o) (k7 _ (k7 _ (eE B e)))).2.1
  cases f with
  | next=>let (y,F,z,n7):=M;exact q z n7
  | cont=>let (y,F,z,n7):=M;exact q z n7
  | brk=>let (y,F,z,M):=M;exact {(y),F,z.unpinned,M}
  | ret v=>let (x7,y,F,z,r7,M):=M;exact {(x7),y,F,z.unpinned,r7,M}
end
def sX {K:PySem.W.Frag} {a:Addr} {xs:List V} {g:TG} {tb:TS} {D:eM} {σ:St} {H:Hp} (d:Nat->St->Hp->Prop) (F:d 0 σ H) (G:∀i σ H,i<=xs.length->d i σ H->cM K H a xs)
  (I:∀i x σ H,xs[i]?=some x->d i σ H->g x σ H λz H2=>tb { D with nx:=d (i+1),ct:=d (i+1),bk:=D.nx } z H2) (L:∀ σ H,d xs.length σ H->D.nx σ H):
  ∃W:Nat->Nat->St->Hp->Prop,(∃m,W 0 m σ H)/\∀i m σ H,W i m σ H ->
   ((De K a).stop i H/\D.nx σ H)\/((De K a).go i H/\∃N:St->Hp->Prop,(∀n H',N n H'->∃B,B<m/\W (i+1) B n H')/\∀x H',(De K a).yld i H x H'->g x σ H' λz H2=>tb { D with nx:=N,ct:=N,bk:=D.nx } z H2):=by
 refine {λi m σ H=>m=xs.length-i/\i<=xs.length/\d i σ H,{xs.length,by simp,l7 _,F},?_};rintro i m σ H ⟨rfl,hi,p⟩;let q:=G i σ H hi p;by_cases j:i<xs.length
 ·refine .inr {{xs,xs[i],q,by simp [j]},d (i+1),λn H' J=>{xs.length-(i+1),∎,rfl,j,J},λx H' y=>?_};let (e,y):=y;subst e;exact I i x σ _ (y xs q) p
 ·let e:i=xs.length:=∎;subst e;exact .inl {{xs,q,i7 _},L σ H p}
def nQ {K:PySem.W.Frag} {a:Addr} {xs:List V} {g:TG} {tb:TS} {D:eM} {σ:St} {H:Hp} (d:Nat->St->Hp->Prop) (F:d 0 σ H) (G:∀i σ H,i<=xs.length->d i σ H->cG K H a xs)
  (I:∀i x σ H,xs[i]?=some x->d i σ H->g x σ H λz H2=>tb { D with nx:=d (i+1),ct:=d (i+1),bk:=D.nx } z H2) (L:∀ σ H,d xs.length σ H->D.nx σ H):
  ∃W:Nat->Nat->St->Hp->Prop,(∃m,W 0 m σ H)/\∀i m σ H,W i m σ H ->
   ((Xo K a).stop i H/\D.nx σ H)\/((Xo K a).go i H/\∃N:St->Hp->Prop,(∀n H',N n H'->∃B,B<m/\W (i+1) B n H')/\∀x H',(Xo K a).yld i H x H'->g x σ H' λz H2=>tb { D with nx:=N,ct:=N,bk:=D.nx } z H2):=by
 refine {λi m σ H=>m=xs.length-i/\i<=xs.length/\d i σ H,{xs.length,by simp,l7 _,F},?_};rintro i m σ H ⟨rfl,hi,p⟩;let q:=G i σ H hi p;by_cases j:i<xs.length
 ·refine .inr {{xs,xs[i],q,by simp [j]},d (i+1),λn H' J=>{xs.length-(i+1),∎,rfl,j,J},λx H' y=>?_};let (e,y):=y;subst e;exact I i x σ _ (y xs q) p
 ·let e:i=xs.length:=∎;subst e;exact .inl {{xs,q,i7 _},L σ H p}
def iQ {lo:Int} {n:Nat} {g:TG} {tb:TS} {D:eM} {σ:St} {H:Hp} (j:Nat->St->Hp->Prop) (F:j 0 σ H)
  (G:∀i σ H,i<n->j i σ H->g (.int (lo+i)) σ H λz H2=>tb { D with nx:=j (i+1),ct:=j (i+1),bk:=D.nx } z H2) (J:∀ σ H,j n σ H->D.nx σ H):
  ∃W:Nat->Nat->St->Hp->Prop,(∃m,W 0 m σ H)/\∀i m σ H,W i m σ H ->
   ((DV lo n).stop i H/\D.nx σ H)\/((DV lo n).go i H/\∃N:St->Hp->Prop,(∀q H',N q H'->∃B,B<m/\W (i+1) B q H')/\∀x H',(DV lo n).yld i H x H'->g x σ H' λz H2=>tb { D with nx:=N,ct:=N,bk:=D.nx } z H2):=by
 refine {λi m σ H=>m=n-i/\i<=n/\j i σ H,{n,by simp,l7 _,F},?_};rintro i m σ H ⟨rfl,hi,p⟩;by_cases d:i<n
 ·refine .inr {d,j (i+1),λq H' I=>{n-(i+1),∎,rfl,d,I},λx H' y=>?_};let (e,y):=y;subst e y;exact G i σ _ d p
 ·let e:i=n:=∎;subst e;exact .inl {i7 _,J σ H p}
abbrev R2:=V->V->Hp->VK->Prop
def lH (X:Cx) (f:Value->Value->Sem Value) (r:R2):Prop:=
 ∀(pins:List 10#0) (s:Shared) (σ:St) (H:Hp) (x y:V) (v u:Value) (Q:VK),aW X pins σ H s->bF x v->bF y u->r x y H Q ->
  wpAny 4#0 X.A (f v u) (EP X pins σ Q) X.xe s
def KQ (X:Cx) (f:Value->Sem Value) (r:V->Hp->VK->Prop):Prop:=
 ∀(pins:List 10#0) (s:Shared) (σ:St) (H:Hp) (x:V) (v:Value) (Q:VK),aW X pins σ H s->bF x v->r x H Q ->
  wpAny 4#0 X.A (f v) (EP X pins σ Q) X.xe s
def gN (X:Cx) (f:Value) (r:List V->Hp->VK->Prop):Prop:=
 ∀(pins:List 10#0) (s:Shared) (σ:St) (H:Hp) (xs:List V) (us:List Value) (Q:VK),aW X pins σ H s->bB xs us->r xs H Q ->
  wpAny 4#0 X.A (call f us) (EP X pins σ Q) X.xe s
def KR (X:Cx) (r:V->Hp->(Bool->Hp->Prop)->Prop):Prop:=
 ∀(pins:List 10#0) (s:Shared) (σ:St) (H:Hp) (x:V) (v:Value) (Q:Bool->Hp->Prop),aW X pins σ H s->bF x v->r x H Q ->
  wpAny 4#0 X.A (truthy v) (TP X pins σ Q) X.xe s
def Jm (r:R2) (ta tb:TE):TE:=λσ H Q=>ta σ H λx H1=>tb σ H1 λy H2=>r x y H2 Q
def LH (r:V->Hp->VK->Prop) (ta:TE):TE:=λσ H Q=>ta σ H λx H1=>r x H1 Q
inductive LD (C:Int->Int->Prop) (g:Int->Int->V) (x y:V) (H:Hp) (Q:VK):Prop|mk (i:_) (j:_) (_:x=.int i) (_:y=.int j) (_:C i j) (_:Q (g i j) H)
def rI (C:Int->Int->Prop) (g:Int->Int->V):R2:=λx y H Q=>LD C g x y H Q
inductive IJ (g:Int->Int->V) (x y:V) (H:Hp) (Q:VK):Prop|mk (i:_) (j:_) (_:x=.int i) (_:y=.int j) (_:Q (g i j) H)
def Ue (g:Int->Int->V):R2:=λx y H Q=>IJ g x y H Q
def rU (g:Int->V):V->Hp->VK->Prop:=λx H Q=>∃i,x=.int i/\Q (g i) H
section
variable {X:Cx} {a b c:Expr} {ta tb tc:TE} {pos:Pos}
def DH (F:PE X a ta) (j:PE X b tb) {pins:List 10#0} {s:Shared} {σ:St} {H:Hp} {R:V->V->Hp->Prop} (I:5#0)
  (h:ta σ H λx H1=>tb σ H1 λy H2=>R x y H2) {Q:Value->Shared->Prop} {f:Value->Value->Sem Value}
  (i:∀v u d x y H2,aW X pins σ H2 d->bF x v->bF y u->R x y H2->wpAny 4#0 X.A (f v u) Q X.xe d):
  wpAny 4#0 X.A (eval a X.env) (λv q=>wpAny 4#0 X.A (eval b X.env) (λu L=>wpAny 4#0 X.A (f v u) Q X.xe L) X.xe q) X.xe s:=by
 refine eN (F s σ H _ I h) λv M x H1 n G J=>?_;refine eN (j M σ H1 _ n J) λu d y H2 B z D=>?_;exact i v u d x y H2 B G z D
def bO (n:lH X (binaryOp op) r) (j:PE X a ta) (d:PE X b tb):PE X (.BinOp a op b pos) (Jm r ta tb):=by
 intro pins s σ H Q I h;exact wpAny_BinOp (DH j d I h λv u z x y H2 i B D q=>n pins z σ H2 x y v u Q i B D q)
def Ym (q:KQ X (unaryOp op) r) (i:PE X a ta):PE X (.UnaryOp op a pos) (LH r ta):=by
 intro pins s σ H Q I h;exact UnaryOp_ (eN (i s σ H _ I h) λv y x H1 d j n=>q pins y σ H1 x v Q d j n)
def GP {f:Value->Value->Sem Value} {C:Int->Int->Prop} {g:Int->Int->Int}
  (d:∀(i j:Int) (t u:Tok) (s:Shared) (Q:Value->Shared->Prop) (E:Value->Shared->Prop),C i j->Q (.int (g i j) s.toks) { s with toks:=s.toks+1 }->wpAny 4#0 X.A (f (.int i t) (.int j u)) Q E s):
  lH X f (rI C λi j=>.int (g i j)):=by
 intro pins s σ H x y v u Q I B D h;let (i,j,rfl,rfl,n,q):=h;let (t,rfl):=B;let (z,rfl):=D;exact d i j t z s _ _ n {.int (g i j),H,I.tok _,{_,rfl},q}
def GO {f:Value->Value->Sem Value} {g:Int->Int->Int}
  (d:∀(i j:Int) (t u:Tok) (s:Shared) (Q:Value->Shared->Prop) (E:Value->Shared->Prop),Q (.int (g i j) s.toks) { s with toks:=s.toks+1 }->wpAny 4#0 X.A (f (.int i t) (.int j u)) Q E s):
  lH X f (Ue λi j=>.int (g i j)):=by
 intro pins s σ H x y v u Q I z B h;let (i,j,rfl,rfl,q):=h;let (t,rfl):=z;let (n,rfl):=B;exact d i j t n s _ _ {.int (g i j),H,I.tok _,{_,rfl},q}
def Us {f:Value->Value->Sem Value} {g:Int->Int->Bool}
  (d:∀(i j:Int) (t u:Tok) (s:Shared) (Q:Value->Shared->Prop) (E:Value->Shared->Prop),Q (.bool (g i j)) s->wpAny 4#0 X.A (f (.int i t) (.int j u)) Q E s):
  lH X f (Ue λi j=>.bl (g i j)):=by
 intro pins s σ H x y v u Q I z B h;let (i,j,rfl,rfl,q):=h;let (t,rfl):=z;let (n,rfl):=B;exact d i j t n s _ _ {.bl (g i j),H,I,rfl,q}
def LE (i j:Int):Prop:=0<j/\j<1073741824
def IM (i j:Int):Prop:=0<=j/\j<=1000000/\i.natAbs<2 ^ 64
def Jk (i j:Int):Prop:=(-(2 ^ 64)<i/\i<2 ^ 64)\/(-(2 ^ 64)<j/\j<2 ^ 64)
def Jk.ok (h:Jk i j):IntMulOk i j:=by
 rcases h with ⟨h1,h2⟩|⟨h1,h2⟩
 ·exact .of_left (intBits_le_64 h1 h2)
 ·exact .of_right (intBits_le_64 h1 h2)
def dW:lH X (binaryOp .Add) (Ue λi j=>.int (i+j)):=GO λ_ _ _ _ _ _ _ q=>add_int q
def jR:lH X (binaryOp .Sub) (Ue λi j=>.int (i-j)):=GO λ_ _ _ _ _ _ _ q=>sub_int q
def Bj:lH X (binaryOp .Mult) (rI Jk λi j=>.int (i * j)):=GP λ_ _ _ _ _ _ _ d q=>mul_int q d.ok
def Ur:lH X (binaryOp .FloorDiv) (rI LE λi j=>.int (i / j)):=GP λi j _ _ _ _ _ d q=>by
 have h1:(0:Int)<j:=d.1
 have h2:j<1073741824:=d.2
 exact floordiv_int ∎ (by rw [Int.fdiv_eq_ediv_of_nonneg i ∎];exact q) (.inl (PyProof.noPylong_small ∎))
def oH:lH X (binaryOp .Mod) (rI (λ_ j=>0<j) λi j=>.int (i % j)):=GP λi j _ _ _ _ _ d q=>by
 have h1:(0:Int)<j:=d
 exact mod_int' ∎ (by rw [Int.fmod_eq_emod_of_nonneg i ∎];exact q)
def BK:lH X (binaryOp .Pow) (rI IM λi j=>.int (i ^ j.toNat)):=GP λ_ _ _ _ _ _ _ d q=>pow_int_small d.1 d.2.1 d.2.2 q
def MC {f:Value->Sem Value} {g:Int->Int}
  (d:∀(i:Int) (t:Tok) (s:Shared) (Q:Value->Shared->Prop) (E:Value->Shared->Prop),Q (.int (g i) s.toks) { s with toks:=s.toks+1 }->wpAny 4#0 X.A (f (.int i t)) Q E s):
  KQ X f (rU λi=>.int (g i)):=by
 intro pins s σ H x v Q I j h;let (i,rfl,q):=h;let (t,rfl):=j;exact d i t s _ _ {.int (g i),H,I.tok _,{_,rfl},q}
def Jx:KQ X (unaryOp .USub) (rU λi=>.int (-i)):=MC λ_ _ _ _ _ q=>neg_int q
end
def Tm:V->V->Bool
 | .non,.non=>true | .non,.int _=>true | .int _,.non=>true | .non,.bl _=>true | .bl _,.non=>true | .non,.str _=>true | .str _,.non=>true
 | .int _,.int _=>true | .bl _,.bl _=>true | .str _,.str _=>true | .byt _,.byt _=>true
 | .int _,.str _=>true | .str _,.int _=>true | .bl _,.str _=>true | .str _,.bl _=>true
 | _,_=>false
def MF:R2:=λx y H Q=>Tm x y=true/\Q (.bl (decide (x=y))) H
def LJ:R2:=λx y H Q=>Tm x y=true/\Q (.bl (!decide (x=y))) H
def qJ:decide (V.int i=V.int j)=(i == j):=by
 rw [F0];simp
def Qp:decide (V.bl i=V.bl j)=(i == j):=by
 rw [F0];simp
def Fx:decide (V.str i=V.str j)=(i == j):=by
 rw [F0];simp
def Fy:decide (V.byt i=V.byt j)=(i.toList == j.toList):=by
 rw [F0];cases i;cases j;simp
section
variable {X:Cx} {a b c:Expr} {ta tb tc:TE} {pos:Pos}
def cE {pins:List 10#0} {σ:St} {H:Hp} {s:Shared} {Q:VK} {k d:Bool} (I:5#0) (q:Q (.bl k) H) (e:k=d):EP X pins σ Q (.bool d) s:=by
 subst e;exact {.bl k,H,I,rfl,q}
def iL:lH X (compareOp .Eq) MF:=by
 intro pins s σ H x y v u Q I B d h;let (z,q):=h;cases x with
 | non=>
  cases B;cases y with
  | non=>cases d;exact PySem.EqNone.eq_none_none (cE I q 6#0)
  | bl j=>cases d;exact PySem.EqNone.eq_none_bool (cE I q 6#0)
  | int j=>let (n,rfl):=d;exact PySem.EqNone.eq_none_int (cE I q 6#0)
  | str j=>let (n,rfl):=d;exact PySem.EqNone.eq_none_str (cE I q 6#0)
  | _=>exact absurd (show false=true from z) r6
 | bl i=>
  cases B;cases y with
  | non=>cases d;exact PySem.EqNone.eq_bool_none (cE I q 6#0)
  | bl j=>cases d;exact eq_bool (cE I q Qp)
  | str j=>let (n,rfl):=d;exact PySem.EqMixed.eq_bool_str (cE I q 6#0)
  | _=>exact absurd (show false=true from z) r6
 | int i=>
  let (t,rfl):=B;cases y with
  | non=>cases d;exact PySem.EqNone.eq_int_none (cE I q 6#0)
  | int j=>let (n,rfl):=d;exact eq_int (cE I q qJ)
  | str j=>let (n,rfl):=d;exact PySem.EqMixed.eq_int_str (cE I q 6#0)
  | _=>exact absurd (show false=true from z) r6
 | str i=>
  let (t,rfl):=B;cases y with
  | non=>cases d;exact PySem.EqNone.eq_str_none (cE I q 6#0)
  | bl j=>cases d;exact PySem.EqMixed.eq_str_bool (cE I q 6#0)
  | int j=>let (n,rfl):=d;exact PySem.EqMixed.eq_str_int (cE I q 6#0)
  | str j=>let (n,rfl):=d;exact eq_str (cE I q Fx)
  | _=>exact absurd (show false=true from z) r6
 | byt i=>
  let (t,rfl):=B;cases y with
  | byt j=>let (n,rfl):=d;exact PySem.W.eq_bytes (cE I q Fy)
  | _=>exact absurd (show false=true from z) r6
 | _=>cases y <;> exact absurd (show false=true from z) r6
def Ew:lH X (compareOp .NotEq) LJ:=by
 intro pins s σ H x y v u Q I B d h;let (z,q):=h;cases x with
 | non=>
  cases B;cases y with
  | non=>cases d;exact PySem.EqNone.ne_none_none (cE I q 6#0)
  | bl j=>cases d;exact PySem.EqNone.ne_none_bool (cE I q 6#0)
  | int j=>let (n,rfl):=d;exact PySem.EqNone.ne_none_int (cE I q 6#0)
  | str j=>let (n,rfl):=d;exact PySem.EqNone.ne_none_str (cE I q 6#0)
  | _=>exact absurd (show false=true from z) r6
 | bl i=>
  cases B;cases y with
  | non=>cases d;exact PySem.EqNone.ne_bool_none (cE I q 6#0)
  | bl j=>cases d;exact ne_bool (cE I q (congrArg not Qp))
  | str j=>let (n,rfl):=d;exact PySem.EqMixed.ne_bool_str (cE I q 6#0)
  | _=>exact absurd (show false=true from z) r6
 | int i=>
  let (t,rfl):=B;cases y with
  | non=>cases d;exact PySem.EqNone.ne_int_none (cE I q 6#0)
  | int j=>let (n,rfl):=d;exact ne_int (cE I q (congrArg not qJ))
  | str j=>let (n,rfl):=d;exact PySem.EqMixed.ne_int_str (cE I q 6#0)
  | _=>exact absurd (show false=true from z) r6
 | str i=>
  let (t,rfl):=B;cases y with
  | non=>cases d;exact PySem.EqNone.ne_str_none (cE I q 6#0)
  | bl j=>cases d;exact PySem.EqMixed.ne_str_bool (cE I q 6#0)
  | int j=>let (n,rfl):=d;exact PySem.EqMixed.ne_str_int (cE I q 6#0)
  | str j=>let (n,rfl):=d;exact ne_str (cE I q (congrArg not Fx))
  | _=>exact absurd (show false=true from z) r6
 | byt i=>
  let (t,rfl):=B;cases y with
  | byt j=>let (n,rfl):=d;exact PySem.W.ne_bytes (cE I q (congrArg not Fy))
  | _=>exact absurd (show false=true from z) r6
 | _=>cases y <;> exact absurd (show false=true from z) r6
def jG:lH X (compareOp .Lt) (Ue λi j=>.bl (decide (i<j))):=Us λ_ _ _ _ _ _ _ q=>lt_int q
def lM:lH X (compareOp .LtE) (Ue λi j=>.bl (decide (i<=j))):=Us λ_ _ _ _ _ _ _ q=>le_int q
def Np:lH X (compareOp .Gt) (Ue λi j=>.bl (decide (j<i))):=Us λ_ _ _ _ _ _ _ q=>gt_int q
def Yo:lH X (compareOp .GtE) (Ue λi j=>.bl (decide (j<=i))):=Us λ_ _ _ _ _ _ _ q=>ge_int q
def oJ:lH X (compareOp .Is) (λx y H Q=>y=.non/\Q (.bl (decide (x=.non))) H):=by
 intro pins s σ H x y v u Q I d i h;let (rfl,q):=h;cases i;refine is_none_gen (cE I q ?_);cases x <;> first
  | (cases d;rfl)
  | (let (t,rfl):=d;rfl)
def wP:lH X (compareOp .IsNot) (λx y H Q=>y=.non/\Q (.bl (!decide (x=.non))) H):=by
 intro pins s σ H x y v u Q I d i h;let (rfl,q):=h;cases i;refine isnot_none_gen (cE I q ?_);cases x <;> first
  | (cases d;rfl)
  | (let (t,rfl):=d;rfl)
def bE (b:Expr) {op:CmpOp} (h:op≠.In:=by decide) (h2:op≠.NotIn:=by decide):behindInMarks op b=false:=by
 let i:(op == CmpOp.In)=false:=by cases op <;> first|rfl|exact absurd rfl h
 let d:(op == CmpOp.NotIn)=false:=by cases op <;> first|rfl|exact absurd rfl h2
 cases b <;> simp [behindInMarks,i,d]
def eA (z:lH X (compareOp op) r) (n:PE X a ta) (d:PE X b tb) (i:behindInMarks op b=false):PE X (.Compare a [op] [b] pos) (Jm r ta tb):=by
 intro pins s σ H Q I h;exact wpAny_Compare1 (DH n d I h λv u B x y H2 j D F q=>z pins B σ H2 x y v u Q j D F q) i
inductive Xp (x:V) (H':Hp) (Q:Bool->Hp->Prop):Prop|mk (k:_) (_:x=.bl k) (_:Q k H')
def Ka (t:TE):TT:=λσ H Q=>t σ H λx H'=>Xp x H' Q
def bS (M:lH X (compareOp op) r) (G:PE X a ta) (i:PE X b tb) (q:behindInMarks op b=false):PT X (.Compare a [op] [b] pos) (Ka (Jm r ta tb)):=by
 intro pins s σ H Q I h;refine wpAny_isTrue_Compare1 (eN (G s σ H _ I h) λv S x H1 j J L=>eN (i S σ H1 _ j L) λu N y H2 D B F=>
  eN (M pins N σ H2 x y v u _ D J B F) λc U z n O d ⟨k,e,q3⟩=>?_) q;subst e;cases d;exact C7 {(n),O,q3}
def Kd (r r':R2) (ta tb tc:TE):TE:=λσ H Q=>ta σ H λx H1=>tb σ H1 λy H2=>r x y H2 λz H3=>∃k,z=.bl k /\
 (if k=true then tc σ H3 λw' H4=>r' y w' H4 Q else Q (.bl false) H3)
def Nj (O:lH X (compareOp op) r) (j:lH X (compareOp i) B) (Z:PE X a ta) (L:PE X b tb) (G:PE X c tc)
  (hm:lastMarks [op,i] [b,c]=false:=by with_unfolding_all rfl):PE X (.Compare a [op,i] [b,c] pos) (Kd r B ta tb tc):=by
 intro pins s σ H Q I h;refine Compare_chain (eN (Z s σ H _ I h) λv J x H1 M r1 q1=>chain_link (eN (L J σ H1 _ M q1) λu s2 y H2 Y q q2=>
  eN (O pins s2 σ H2 x y v u _ Y r1 q q2) λd s3 z n D W ⟨k,e,q3⟩=>?_)) hm;subst e;cases W;refine C7 ?_;cases k with
 | false=>exact ite_ff {.bl false,n,D,rfl,q3}
 | true=>exact ite_tt (chain_last (eN (G s3 σ n _ D q3) λU S z' H4 N r4 F=>j pins S σ H4 y z' u U Q N q r4 F))
def jQ (Y:lH X (compareOp op) r) (n:lH X (compareOp i) D) (ha:PE X a ta) (O:PE X b tb) (M:PE X c tc)
  (hm:lastMarks [op,i] [b,c]=false:=by with_unfolding_all rfl):PT X (.Compare a [op,i] [b,c] pos) (Ka (Kd r D ta tb tc)):=by
 intro pins s σ H Q I h;refine isTrue_chain (eN (ha s σ H _ I h) λv N x H1 S r1 q1=>test_link (eN (O N σ H1 _ S q1) λu s2 y H2 I2 B q2=>
  eN (Y pins s2 σ H2 x y v u _ I2 r1 B q2) λd s3 z q F r3 ⟨k,e,q3⟩=>?_)) hm;subst e;cases r3;refine C7 ?_;cases k with
 | false=>
  let (k',W,q'):=q3;cases W;exact ite_ff {(q),F,q'}
 | true=>
  refine ite_tt (test_last (eN (M s3 σ q _ F q3) λw' Z z' H4 U r4 L=>eN (n pins Z σ H4 y z' u w' _ U B r4 L) λd' s5 z2 H5 I5 J j=>?_));let (k2,e2,G):=j;subst e2;cases J;exact C7 {(H5),I5,G}
def DJ (K:PySem.W.Frag) (x:V) (H:Hp) (k:Bool):Prop:=
 match x with
 | .non=>k=false
 | .bl b=>k=b
 | .int i=>k=(i != 0)
 | .str y=>y.length<=sizeLine/\k=((y.length:Int) != 0)
 | .byt y=>y.size<=sizeLine/\k=((y.size:Int) != 0)
 | .ref p=>(∃xs,cM K H p xs/\k=!xs.isEmpty)\/(∃xs,cG K H p xs/\k=!xs.isEmpty)\/∃kvs,H p=some (.dK kvs)/\k=!kvs.isEmpty
 | _=>False
def Ce {κ:Type} {kvs:List (κ × V)} {vs:List (κ × Value)} (r:KV kvs vs):(!vs.isEmpty)=!kvs.isEmpty:=by
 cases r <;> rfl
def sQ (r:bB xs its):(!its.toArray.isEmpty)=!xs.isEmpty:=by
 cases r <;> simp
def oN:(sizeLine:Nat)<2 ^ 63:=by rw [sizeLine_eq];decide
def Zj:KR X (λx H Q=>∃k,DJ X.K x H k/\Q k H):=by
 intro pins s σ H x v Q I rx h;let (k,e,q):=h;let hl:=oN;let hs:sizeLine=16777216:=sizeLine_eq;cases x with
 | non=>
  cases rx;let e':k=false:=e;subst e';exact truthy_none {(H),I,q}
 | bl b=>
  cases rx;let e':k=b:=e;subst e';exact C7 {(H),I,q}
 | int i=>
  let (t,rfl):=rx;let e':k=(i != 0):=e;subst e';exact PySem.P.truthy_int {(H),I,q}
 | str y=>
  let (t,rfl):=rx;obtain⟨hy,e'⟩:y.length<=sizeLine/\k=((y.length:Int) != 0):=e;subst e';exact PySem.P.truthy_str ∎ {H,I.tok _,q}
 | byt y=>
  let (t,rfl):=rx;obtain⟨hy,e'⟩:y.size<=sizeLine/\k=((y.size:Int) != 0):=e;subst e';exact PySem.W.truthy_bytes ∎ {H,I.tok _,q}
 | ref p=>
  cases rx;let e':(∃xs,cM X.K H p xs/\k=!xs.isEmpty)\/(∃xs,cG X.K H p xs/\k=!xs.isEmpty)\/∃kvs,H p=some (.dK kvs)/\k=!kvs.isEmpty:=e;rcases e' with ⟨xs,hx,e'⟩|⟨xs,hx,e'⟩|⟨kvs,hx,e'⟩
  ·subst e';let (its,r,pl,hz):=I.list hx;let hlen:=r.length;exact wpAny_truthy_list pl.isList (by simp only [p9];omega) {H,I.tok _,by rw [sQ r];exact q}
  ·subst e';let (its,r,pl,hz):=I.tuple hx;let hlen:=r.length;exact truthy_tuple pl (by simp only [p9];omega) {H,I.tok _,by rw [sQ r];exact q}
  ·subst e';obtain⟨hz,hS,vs,r,m⟩:kvs.length<=sizeLine/\(p == sysModules)=false/\∃vs,KV kvs vs/\s.heap.DictOf (cC X.prog X.w) p vs:=I.hok p _ hx;let hlen:kvs.length=vs.length:=Paired.length r;exact wpAny_truthy_dict hS m ∎ {H,I.tok _,by rw [Ce r];exact q}
 | _=>exact(show False from e).elim
def jP (j:PE X a ta) (y:∀d,isTrue a X.env d=(do let v <- d;standAt a.pos;holding [v] (truthy v))):
  PT X a (λσ H Q=>ta σ H λx H'=>∃k,DJ X.K x H' k/\Q k H'):=by
 intro pins s σ H Q I h;exact isTrue_plain (eN (j s σ H _ I h) λv z x H1 i n q=>Zj pins z σ H1 x v Q i n q) (y _)
def jM (r:bB [x] us):∃u,us=[u]/\bF x u:=by
 cases r with
 | cons r1 r2=>cases r2;exact {_,rfl,r1}
def Jv (r:bB [x,y] us):∃u d,us=[u,d]/\bF x u/\bF y d:=by
 cases r with
 | cons r1 r2=>
  cases r2 with
  | cons r3 r4=>cases r4;exact {_,_,rfl,r1,r3}
def Jb (n:X.calm=true):gN X (.builtin "max") (λxs H Q=>∃i j,xs=[.int i,.int j]/\Q (.int (if j > i then j else i)) H):=by
 intro pins s σ H xs y Q I r h;let (i,j,rfl,q):=h;let (u,B,rfl,(t,rfl),(z,rfl)):=Jv r;refine max_two_ints (I.ok.hd n) λh' tk k=>{_,H,I.kept k,?_,q};by_cases d:j > i
 ·rw [if_pos d,if_pos d];exact {_,rfl}
 ·rw [if_neg d,if_neg d];exact {_,rfl}
def fG:gN X (.type "int") (λxs H Q=>(∃i,xs=[.int i]/\Q (.int i) H)\/∃k,xs=[.bl k]/\Q (.int (if k then 1 else 0)) H):=by
 intro pins s σ H xs j Q I r h;rcases h with ⟨i,rfl,q⟩|⟨k,rfl,q⟩
 ·let (u,rfl,t,rfl):=jM r;exact call_int_int {.int i,H,I,{_,rfl},q}
 ·let (u,rfl,d):=jM r;cases d;exact call_int_bool {.int (if k then 1 else 0),H,I.tok _,{_,rfl},q}
end
structure Dd (h:Heap) (x dx C:Addr) (mA:Str->Option Value):Prop where
 obj:h.get? x=some (PySem.W.instObj C dx)
 ns:h.Ns1 dx mA
 ne:dx≠x
def Hx {h:Heap} {dx:Addr} {mA:Str->Option Value} (n:h.Ns1 dx mA):∃od,h.get? dx=some od/\∀name,PySem.W.lookIn name od=some (mA name):=by
 let (o,es,ep,ho,hd,hk,_,hm):=n;refine {o,ho,λname=>?_};let e:=hm name;unfold nsFind findBy at e;rw [<- Array.find?_toList] at e;unfold PySem.W.lookIn;rw [hd];dsimp only
 split
 ·rename_i y q;rw [q] at e;exact congrArg some e
 ·rename_i q;rw [q] at e;let a:es.toList.any (·.refKey)=false:=by
   rw [List.any_eq_false];intro y hy;let (z,t,hkey):=hk y (Array.mem_toList_iff.mp hy);simp [DictEntry.refKey,hkey]
  let a':¬ es.toList.any (·.refKey)=true:=by rw [a];exact r6
  rw [if_neg a'];exact congrArg some e
def Dd.look (I:Dd h x dx C mA):∃d,PySem.W.InstAt h x (PySem.W.instObj C dx) C (some d)/\∀name,PySem.W.lookIn name d=some (mA name):=
 let ⟨d,ho,hl⟩:=Hx I.ns
 {d,{(I.obj),rfl,rfl,ho},hl}
section
variable {prog:Program} {w:World} {A:Around} {E:Value->Shared->Prop} {s:Shared} {K:PySem.W.Frag} {x dx C f:Addr} {mA:Str->Option Value} {name:Str} {v:Value}
def Vt (X:K.In s.heap) (I:Dd s.heap x dx C mA) (z:PySem.W.plainGet K C name=true) (n:PySem.W.hasDictIn K C=true)
  (y:PySem.W.findIn K (.ref C) name=some none) (j:mA name=some v) (i:PySem.W.handedIn v=true) (h:Q v { s with toks:=s.toks+1 }):
  wpAny 8#0 A (getAttr (.ref x) name d) Q E s:=by
 let (B,J,q):=I.look;exact PySem.W.get_value X J (PySem.W.plainGet_of z).1 (PySem.W.findObj_own n y rfl (by rw [q,j])) i h
def Qb (X:K.In s.heap) (I:Dd s.heap x dx C mA) (d:PySem.W.plainGet K C name=true)
  (j:PySem.W.findIn K (.ref C) name=some (some (.ref f))) (y:PySem.W.isFn K (.ref f)=true) (i:mA name=none) (h:Q (.ref f,[.ref x]) s):
  wpAny 8#0 A (getMethod (.ref x) name pl) Q E s:=by
 let (q,J,n):=I.look;exact PySem.W.method_fn X J (PySem.W.plainGet_of d).1 (PySem.W.plainGet_of d).2 j (beq_iff_eq.mp y) (by show (PySem.W.lookIn name q).map (·.isSome)=some false;rw [n,i];rfl) h
def Tk (X:K.In s.heap) (I:Dd s.heap x dx C mA)
  (S:PySem.W.findIn K (.ref C) "__setattr__"=some (some (.builtin "object.__setattr__"))) (L:PySem.W.plainOver K C=true) (G:PySem.W.takerIn K C name=some none) (M:PySem.W.hasDictIn K C=true)
  (D:PySem.Within mA ns) (hsz:ns.length<=sizeLine)
  (h:∀h',Dd h' x dx C (λy=>if y=name then some v else mA y)->Heap.SameBut dx s.heap h'->Q () { s with heap:=h',toks:=s.toks+2 }):
  wpAny 8#0 A (setAttr (.ref x) name v) Q E s:=by
 let (U,J,hl):=I.look;refine PySem.W.set_plain X J S (PySem.W.osa_open (s:={ s with toks:=s.toks+1 }) (r:=none) X J L G λb=>?_);let (Z,F,j):=PySem.W.any_some M;let B:s.heap.get? x=some {.ref C,some dx,.plain,#[]}:=I.obj;refine g7 (j3 (g7 (g7 (wpAny_loadPart B (g7 (PySem.W.Looks.here (s:={ s with toks:=s.toks+1 }) (PySem.W.looks_clsIn X F) ?_))))));rw [j];refine j3 (a:=some dx) (g7 (j3 (g7 ?_)));refine wpAny_nsSet1 (s:={ s with toks:=s.toks+1 }) I.ns λh' i d=>?_;let (Y,N,O,z,q,n):=i.count (PySem.Within.cons name v D);refine g7 (wpAny_lookBehind z (by rw [q];exact pastItsLine_dict (u8 n (by rw [t7];omega))) ?_);exact j3 (h _ {(d.2 _ (F7 I.ne)).trans I.obj,i,I.ne} d)
def Oz (X:K.In s.heap) (n:PySem.W.makesIn K C=true)
  (hi:PySem.W.findIn K (.ref C) "__init__"=some (some (.ref f))) (j:PySem.W.typeIn K (.ref f)=some (.type "function"))
  (h:codeAny 8#0 (A.under (.builtin "type.__call__" {.ref C::vs,kw})) (.call (.ref f) {.ref (s.heap.objs.size+1)::vs,kw}) (PySem.W.InitBack (s.heap.objs.size+1) R)
   { s with heap:=(s.heap.push PySem.W.emptyDict).push (PySem.W.instObj C s.heap.objs.size) }):
  codeAny 8#0 A (.call (.ref C) {(vs),kw}) R s:=by
 let (y,g,d,t,q):=s;exact PySem.W.make_core (PySem.W.makes_of X n) (PySem.W.looks_findIn X hi) (λi=>PySem.W.bind_fn X i j) (.inl rfl) h
end
def cW (f:Str) (v:V):List (Str × V)->List (Str × V)
 | []=>[(f,v)]
 | (g,x)::r=>if g=f then(g,v)::r else(g,x)::cW f v r
theorem eF (f g:Str) (v:V):∀fs:List (Str × V),(cW f v fs).lookup g=if g=f then some v else fs.lookup g
 | []=>by
  show List.lookup g [(f,v)]=_
  by_cases h:g=f
  ·have d:(g == f)=true:=beq_iff_eq.mpr h
   simp only [List.lookup,d,if_pos h]
  ·have d:(g == f)=false:=beq_eq_false_iff_ne.mpr h
   simp only [List.lookup,d,if_neg h]
 | (k,x)::r=>by
  have j:=eF f g v r
  rw [show cW f v ((k,x)::r)=(if k=f then(k,v)::r else(k,x)::cW f v r) from rfl]
  by_cases i:k=f
  ·rw [if_pos i]
   by_cases h:g=k
   ·have d:(g == k)=true:=beq_iff_eq.mpr h
    simp only [List.lookup,d,if_pos (h.trans i)]
   ·have d:(g == k)=false:=beq_eq_false_iff_ne.mpr h
    simp only [List.lookup,d,if_neg (λe:g=f=>h (e.trans i.symm))]
  ·rw [if_neg i]
   by_cases h:g=k
   ·have d:(g == k)=true:=beq_iff_eq.mpr h
    simp only [List.lookup,d,if_neg (λe:g=f=>i (h.symm.trans e))]
   ·have d:(g == k)=false:=beq_eq_false_iff_ne.mpr h
    simp only [List.lookup,d]
    exact j
theorem oO (f:Str) (v:V):∀fs:List (Str × V),f ∈ (cW f v fs).map (·.1)/\∀g,g ∈ fs.map (·.1)->g ∈ (cW f v fs).map (·.1)
 | []=>{by simp [cW],λg h=>by simp at h}
 | (k,x)::r=>by
  let (i,j):=oO f v r
  rw [show cW f v ((k,x)::r)=(if k=f then(k,v)::r else(k,x)::cW f v r) from rfl]
  by_cases d:k=f
  ·rw [if_pos d]
   subst d
   exact {by simp,λg h=>by simpa using h}
  ·rw [if_neg d]
   refine {?_,λg h=>?_}
   ·rw [x9]
    exact i4 _ i
   ·rw [x9] at h ⊢
    rcases i9.mp h with e|e
    ·exact i9.mpr (.inl e)
    ·exact i4 _ (j g e)
theorem pA (f:Str) (v:V):∀fs:List (Str × V),(cW f v fs).length<=fs.length+1
 | []=>by simp [cW]
 | (k,x)::r=>by
  have i:=pA f v r
  rw [show cW f v ((k,x)::r)=(if k=f then(k,v)::r else(k,x)::cW f v r) from rfl]
  by_cases d:k=f
  ·rw [if_pos d,t7,t7];omega
  ·rw [if_neg d,t7,t7];omega
def jC.some_of (r:jC (some v) o):∃u,o=some u/\bF v u:=by
 cases o with
 | none=>exact(show False from r).elim
 | some u=>exact {(u),rfl,r}
def jC.none_of (r:jC none o):o=none:=by
 cases o with
 | none=>rfl
 | some u=>exact(show False from r).elim
def Ik (r:bF v u):PySem.W.handedIn u=true:=by
 cases v with
 | non=>cases (show u=Value.none from r);rfl
 | bl b=>cases (show u=Value.bool b from r);rfl
 | int i=>let (t,e):=(show ∃t,u=Value.int i t from r);cases e;rfl
 | str x=>let (t,e):=(show ∃t,u=Value.str x t from r);cases e;rfl
 | byt b=>let (t,e):=(show ∃t,u=Value.bytes b t from r);cases e;rfl
 | flt b=>let (t,e):=(show ∃t,u=Value.float b t from r);cases e;rfl
 | ref a=>cases (show u=Value.ref a from r);rfl
 | ty n=>cases (show u=Value.type n from r);rfl
section
variable {P:Program} {w:World} {H H':Hp} {h h':Heap} {a C dx:Addr} {fs fs':List (Str × V)}
def qE (i:lJ P w H h) (e:H a=some (.ins C dx fs)):∃mA,Dd h a dx C mA/\(∀f,jC (fs.lookup f) (mA f))/\PySem.Within mA (fs.map (·.1))/\fs.length<=1000/\H dx=some (.own a):=by
 let (d,z,j,y,mA,n,r,q):=(show bN P w H h a (.ins C dx fs) from i a _ e);exact {mA,{(y),n,j},r,q,z,d}
end
structure tV (K:PySem.W.Frag) (C:Addr):Prop where
 pg:PySem.W.plainGet K C Str.empty=true
 hd:PySem.W.hasDictIn K C=true
 po:PySem.W.plainOver K C=true
 sa:PySem.W.findIn K (.ref C) "__setattr__"=some (some (.builtin "object.__setattr__"))
def tV.get {K:PySem.W.Frag} {C:Addr} (c:tV K C) (f:Str):PySem.W.plainGet K C f=true:=c.pg
def NoAttr (K:PySem.W.Frag) (C:Addr) (f:Str):Prop:=PySem.W.findIn K (.ref C) f=some none
def NoAttr.taker {K:PySem.W.Frag} {C:Addr} {f:Str} (n:NoAttr K C f):PySem.W.takerIn K C f=some none:=by
 unfold PySem.W.takerIn;rw [show PySem.W.findIn K (.ref C) f=some none from n];rfl
structure Aa (K:PySem.W.Frag) (C:Addr) (m:Str) (f:Addr):Prop where
 at_:PySem.W.findIn K (.ref C) m=some (some (.ref f))
 fn:PySem.W.isFn K (.ref f)=true
 kp:PySem.W.keepIn K (.ref f)=true
section
variable {X:Cx} {pins:List (Addr × Obj)} {σ:St} {H:Hp} {s:Shared} {a C dx:Addr} {fs:List (Str × V)} {f:Str} {v:V} {A:Around} {E:Value->Shared->Prop}
def sT (I:5#0) (e:H a=some (.ins C dx fs)) (c:tV X.K C) (n:NoAttr X.K C f) (l:fs.lookup f=some v)
  (h:∀u s',aW X pins σ H s'->bF v u->Q u s'):wpAny 4#0 A (getAttr (.ref a) f b) Q E s:=by
 let (mA,O,r,_,_,_):=qE I.hok e
 let (u,i,d):=jC.some_of (v:=v) (o:=mA f) (by rw [<- l];exact r f)
 exact Vt I.kIn O (c.get f) c.hd n i (Ik d) (h u _ (I.tok _) d)
def lW (I:5#0) (e:H a=some (.ins C dx fs)) (c:tV X.K C) (k:Aa X.K C m g) (l:fs.lookup m=none)
  (h:Q (.ref g,[.ref a]) s):wpAny 4#0 A (getMethod (.ref a) m pl) Q E s:=by
 let (mA,O,r,_,_,_):=qE I.hok e
 let d:mA m=none:=jC.none_of (by rw [<- l];exact r m)
 exact Qb I.kIn O (c.get m) k.at_ k.fn d h
def rL (I:5#0) (e:H a=some (.ins C dx fs)) (c:tV X.K C) (n:NoAttr X.K C f) (M:fs.length<1000) (L:bF y u)
  (h:∀s',aW X pins σ (upd H a (.ins C dx (cW f y fs))) s'->Q () s'):wpAny 4#0 A (setAttr (.ref a) f u) Q E s:=by
 let (mA,O,r,j,_,i):=qE I.hok e;let B:(fs.map (·.1)).length<=sizeLine:=by rw [i6,sizeLine_eq];omega
 refine Tk I.kIn O c.sa c.po n.taker c.hd j B λh' d G=>h _ ?_;let F:∃o,h'.get? dx=some o:=let ⟨o,_,_,e',_⟩:=d.ns;{(o),e'};refine I.write (x:=a) (e:=dx) (by rw [e];exact E1) (.inr i) (λb q D z=>(G.2 b D).trans z) F ?_;refine {by rw [aE O.ne];exact i,?_,O.ne,d.obj,_,d.ns,λg=>?_,λg J=>?_}
 ·have:=pA f y fs;omega
 ·show jC ((cW f y fs).lookup g) (if g=f then some u else mA g);rw [eF];by_cases q:g=f
  ·rw [if_pos q,if_pos q];exact L
  ·rw [if_neg q,if_neg q];exact r g
 ·by_cases q:g=f
  ·rw [q];exact(oO f y fs).1
  ·refine(oO f y fs).2 g (j g λz=>J ?_);show (if g=f then some u else mA g)=none;rw [if_neg q];exact z
def aW.made (I:5#0):aW X pins σ (upd (upd H s.heap.objs.size (.own (s.heap.objs.size+1))) (s.heap.objs.size+1) (.ins C s.heap.objs.size []))
  { s with heap:=(s.heap.push PySem.W.emptyDict).push (PySem.W.instObj C s.heap.objs.size) }:=by
 let d:(s.heap.push PySem.W.emptyDict).get? s.heap.objs.size=some PySem.W.emptyDict:=n9 s.heap rfl;let n:((s.heap.push PySem.W.emptyDict).push (PySem.W.instObj C s.heap.objs.size)).get? (s.heap.objs.size+1)=some (PySem.W.instObj C s.heap.objs.size):=by
  have:=n9 (s.heap.push PySem.W.emptyDict) (o:=PySem.W.instObj C s.heap.objs.size) rfl;rwa [M4] at this
 let j:(s.heap.push PySem.W.emptyDict).Ns s.heap.objs.size (λ_=>none):={PySem.W.emptyDict,#[],_,d,rfl,(λe D=>absurd D 6#0),λ_=>rfl};let z:=I.laid (a:=s.heap.objs.size) (o:=.own (s.heap.objs.size+1)) (h':=s.heap.push PySem.W.emptyDict) (t':=s.toks) (λb u q=>i8 _ q) (i7 _) {_,d};refine z.laid (a:=s.heap.objs.size+1) (o:=.ins C s.heap.objs.size []) (t':=s.toks) (λb u q=>i8 _ q) (D6 (M4 _ _)) ?_;let i:s.heap.objs.size≠s.heap.objs.size+1:=q5 (Q6 _);refine {by rw [aE i,aB],l7 _,i,n,λ_=>none,(Heap.Ns1.of_empty j).at λo q=>i8 _ q,λ_=>E1,λy B=>absurd rfl B}
def Wn {prog:Program} {w:World} {env:Env} {e:Expr} {f:Str} {pos:Pos} {s:Shared} {Q:Value->Shared->Prop} (i:attributeBase e f env (eval e env)=eval e env)
  (h:wpAny 8#0 A (eval e env) (λo d=>wpAny 8#0 A (getAttr o f true) Q E d) E s):wpAny 8#0 A (eval (.Attribute e f pos) env) Q E s:=
 Attribute_any_ h (by rw [arm_eval_Attribute,i])
end
inductive DX (K:PySem.W.Frag) (f:Str) (x:V) (H1:Hp) (Q:VK):Prop|mk (a:_) (C:_) (dx:_) (fs:_) (v:_) (_:x=.ref a) (_:H1 a=some (.ins C dx fs)) (_:tV K C) (_:NoAttr K C f) (_:fs.lookup f=some v) (_:Q v H1)
def Sm (K:PySem.W.Frag) (ta:TE) (f:Str):TE:=λσ H Q=>ta σ H λx H1=>DX K f x H1 Q
def JF (K:PySem.W.Frag) (ta tv:TE) (f:Str):TS:=λD σ H=>tv σ H λy H1=>ta σ H1 λx H2=>∃a C dx fs,x=.ref a/\H2 a=some (.ins C dx fs)/\tV K C/\NoAttr K C f/\fs.length<1000 /\
 D.nx σ (upd H2 a (.ins C dx (cW f y fs)))
def II (X:Cx) (op:Operator) (rd:V->V->Hp->VK->Prop):Prop:=
 ∀(pins:List 10#0) (s:Shared) (σ:St) (H:Hp) (x y:V) (u v:Value) (Q:VK),aW X pins σ H s->bF x u->bF y v->rd x y H Q->wpAny 4#0 X.A (inplaceOp op u v) (EP X pins σ Q) X.xe s
def Ty (K:PySem.W.Frag) (ta tv:TE) (rd:V->V->Hp->VK->Prop) (f:Str):TS:=λD σ H=>ta σ H λx H1=>∃a C dx fs v,x=.ref a/\H1 a=some (.ins C dx fs)/\tV K C/\NoAttr K C f/\fs.lookup f=some v /\
 tv σ H1 λy H2=>rd v y H2 λz H3=>∃dx' fs',H3 a=some (.ins C dx' fs')/\fs'.length<1000/\D.nx σ (upd H3 a (.ins C dx' (cW f z fs')))
section
variable {X:Cx} {o e value:Expr} {f:Str} {pos pos' tpos:Pos} {ta tv:TE}
def aQ (he:PE X e ta) (hb:attributeBase e f X.env (eval e X.env)=eval e X.env):PE X (.Attribute e f pos) (Sm X.K ta f):=by
 intro pins s σ H Q I h;refine Wn hb (eN (he s σ H _ I h) λu s1 x H1 I1 rx hUp=>?_);let (a,C,dx,fs,v,ex,ea,c,n,l,q):=hUp;subst ex;obtain rfl:u=Value.ref a:=rx;exact sT I1 ea c n l λu' s2 I2 ru=>{(v),H1,I2,ru,q}
def cX (ha:PE X o ta) (hv:PE X value tv) (hs:swapsWith value (some (.Attribute o f pos')) pos.line X.env=pure false):PS X (.Assign [.Attribute o f pos'] value pos) (JF X.K ta tv f):=by
 intro pins s σ H D I h;refine plainObj_wpAny_Assign_Attribute (eN (hv s σ H _ I h) λu s1 y H1 I1 ry q=>eN (ha s1 σ H1 _ I1 q) λov s2 x H2 I2 rx hUp=>?_) hs;let (a,C,dx,fs,ex,ea,c,n,l,q2):=hUp;subst ex;obtain rfl:ov=Value.ref a:=rx;exact rL I2 ea c n l ry λs3 I3=>{σ,_,I3,q2}
def uU (ha:PE X o ta) (hv:PE X value tv) (hop:II X op rd):PS X (.AugAssign (.Attribute o f tpos) op value pos) (Ty X.K ta tv rd f):=by
 intro pins s σ H D I h;refine wpAny_AugAssign_AttributeAny (eN (ha s σ H _ I h) λov s1 x H1 I1 rx hUp=>?_);let (a,C,dx,fs,v,ex,ea,c,n,l,q):=hUp;subst ex;obtain rfl:ov=Value.ref a:=rx;refine sT I1 ea c n l λu s2 I2 ru=>eN (hv s2 σ H1 _ I2 q) λw3 s3 y H2 I3 ry q3=>eN (hop pins s3 σ H2 v y u w3 _ I3 ru ry q3) λw4 s4 z H3 I4 rz hUp=>?_;let (dx',fs',ea',l',q4):=hUp;exact rL I4 ea' c n l' rz λs5 I5=>{σ,_,I5,q4}
def JN:V->V->Hp->VK->Prop:=λx y H Q=>∃i j,x=.int i/\y=.int j/\Q (.int (i+j)) H
def Pt:II X .Add JN:=by
 rintro pins s σ H x y u v Q I n z ⟨i,j,rfl,rfl,q⟩;let (t,rfl):=(show ∃t,u=Value.int i t from n);let (d,rfl):=(show ∃d,v=Value.int j d from z);exact PyProof.Rows.iadd_int {.int (i+j),H,I.tok _,{_,rfl},q}
end
section
variable {X:Cx} {pins:List (Addr × Obj)} {σ:St} {H:Hp} {s:Shared} {A:Around} {E:Value->Shared->Prop} {Q:Value->Shared->Prop} {c:Value} {b:Bool}
inductive kG (K:PySem.W.Frag) (H:Hp):V->Value->Prop where
 | non:kG K H .non (.type "NoneType")
 | bl (x:Bool):kG K H (.bl x) (.type "bool")
 | int (i:Int):kG K H (.int i) (.type "int")
 | str (x:Str):kG K H (.str x) (.type "str")
 | flt (x:UInt64):kG K H (.flt x) (.type "float")
 | lst {a:Addr} {xs:List V} (e:H a=some (.lst xs)):kG K H (.ref a) (.type "list")
 | frz {a:Addr} {o:Obj} {xs:List V} (e:H a=some (.frz o (.lst xs))):kG K H (.ref a) (.type "list")
 | tup {a:Addr} {xs:List V} (e:H a=some (.tup xs)):kG K H (.ref a) (.type "tuple")
 | dK {a:Addr} {kvs:List (bK × V)} (e:H a=some (.dK kvs)):kG K H (.ref a) (.type "dict")
 | dT {a:Addr} {kvs:List (List bK × V)} (e:H a=some (.dT kvs)):kG K H (.ref a) (.type "dict")
 | ins {a C dx:Addr} {fs:List (Str × V)} (e:H a=some (.ins C dx fs)) (cl:tV K C) (ha:PySem.W.findIn K (.ref C) "__class__"=some (some (.builtin "object.__class__")))
   (hn:PySem.W.specialIn K (.builtin "object.__class__") "__get__"=some (some (.builtin "getset_descriptor.__get__"))) (htk:PySem.W.takesIn K (.builtin "object.__class__")=some true)
   (hm:PySem.W.mroIn K C (.type "object")=some true):kG K H (.ref a) (.ref C)
def Ih (I:5#0) (d:bF x u) (B:kG X.K H x t) (e:PySem.W.kitOne X.K t c=some b) (h:∀tk,Q (.bool b) { s with toks:=tk }):
  wpAny 4#0 A (call (.builtin "isinstance") [u,c]) Q E s:=by
 cases B with
 | non=>cases (show u=Value.none from d);exact PySem.W.kia_one PySem.W.kitx_none I.kIn E1 e 13#0 h
 | bl y=>cases (show u=Value.bool y from d);exact PySem.W.kia_one PySem.W.kitx_bool I.kIn E1 e 13#0 h
 | int i=>let (t,q):=(show ∃t,u=Value.int i t from d);cases q;exact PySem.W.kia_one PySem.W.kitx_int I.kIn E1 e 13#0 h
 | str y=>let (t,q):=(show ∃t,u=Value.str y t from d);cases q;exact PySem.W.kia_one PySem.W.kitx_str I.kIn E1 e 13#0 h
 | flt y=>let (t,q):=(show ∃t,u=Value.float y t from d);cases q;exact PySem.W.kia_one PySem.W.kitx_float I.kIn E1 e 13#0 h
 | @lst a xs ea=>
  cases (show u=Value.ref a from d);let (_,_,n,_,h1):=(show bN X.prog X.w H s.heap a (.lst xs) from I.hok a _ ea);exact PySem.W.kia_one PySem.W.kitx_list I.kIn {_,h1,rfl} e 13#0 h
 | @frz a ob xs ea=>
  cases (show u=Value.ref a from d);let (_,_,_,n,_,h1):=(show bN X.prog X.w H s.heap a (.frz ob (.lst xs)) from I.hok a _ ea);exact PySem.W.kia_one PySem.W.kitx_list I.kIn {_,h1,rfl} e 13#0 h
 | @tup a xs ea=>
  cases (show u=Value.ref a from d);let (_,_,_,p):=(show bN X.prog X.w H s.heap a (.tup xs) from I.hok a _ ea);let (o,h1,h2,_):=p;exact PySem.W.kia_one PySem.W.kitx_tuple I.kIn {(o),h1,h2} e 13#0 h
 | @dK a kvs ea=>
  cases (show u=Value.ref a from d);let (_,_,F,_,p):=(show bN X.prog X.w H s.heap a (.dK kvs) from I.hok a _ ea);let (o,es,j,h1,h2,_):=p;exact PySem.W.kia_one PySem.W.kitx_dict I.kIn {(o),h1,h2.1} e 13#0 h
 | @dT a kvs ea=>
  cases (show u=Value.ref a from d);let (_,_,xs,_,o,es,j,h1,h2,_):=(show bN X.prog X.w H s.heap a (.dT kvs) from I.hok a _ ea);exact PySem.W.kia_one PySem.W.kitx_dict I.kIn {(o),h1,h2.1} e 13#0 h
 | @ins a C dx fs ea cl ha hn htk hm=>
  cases (show u=Value.ref a from d);let (mA,O,_):=qE I.hok ea;let (D,J,_):=O.look;exact PySem.W.kia_one (PySem.W.kitx_own (cl.get _) cl.hd ha hn htk hm) I.kIn J e 13#0 h
end
structure Room (k:Nat) (A:Around):Prop where
 hd:A.handled=none
 dp:A.depth+3 * k+5<recursionLimit
 un:A.units+16 * k+200<cLine
def Room.mono {j k:Nat} {A:Around} (r:Room k A) (h:j<=k):Room j A:=⟨r.hd,by have:=r.dp;omega,by have:=r.un;omega⟩
theorem Room.deeper {k:Nat} {A:Around} (r:Room (k+1) A) (env:Env):Room k (A.deeper env):=
 ⟨r.hd,by have:=r.dp;show A.depth+1+3 * k+5<_;omega,by have:=r.un;show A.units+3+16 * k+200<_;omega⟩
theorem Room.in1 {k:Nat} {A:Around} (r:Room (k+1) A):Room k A.in1:=
 ⟨r.hd,by have:=r.dp;show A.depth+3 * k+5<_;omega,by have:=r.un;show A.units+1+16 * k+200<_;omega⟩
def Cc {A:Around} {C:Addr} {us:List Value} {kw:List (Str × Value)}:(A.under (.builtin "type.__call__" {.ref C::us,kw})).depth=A.depth+1:=by
 first|rfl|simp [Around.under,Code.weight,Code.isCreation,Code.isGuard,Code.isCaller,Code.frames,Code.isFrame,guardIds]
def Cb {A:Around} {C:Addr} {us:List Value} {kw:List (Str × Value)}:(A.under (.builtin "type.__call__" {.ref C::us,kw})).units=A.units+1:=by
 first|rfl|simp [Around.under,Code.cUnits,Code.frames,Code.isFrame]
def Room.make {k:Nat} {A:Around} (r:Room (k+1) A) (C:Addr) (us:List Value) (kw:List (Str × Value)):Room k (A.under (.builtin "type.__call__" {.ref C::us,kw})):=
 ⟨r.hd,by have:=r.dp;rw [Cc];omega,by have:=r.un;rw [Cb];omega⟩
theorem Room.depth {k:Nat} {A:Around} (r:Room k A):A.depth<recursionLimit:=by have:=r.dp;omega
theorem Room.units {k:Nat} {A:Around} (r:Room k A):A.units+64<cLine:=by have:=r.un;omega
def mJ:TA:=λ_ H Q=>Q [] H
def iE (ta:TE) (tr:TA):TA:=λσ H Q=>ta σ H λx H1=>tr σ H1 λxs H2=>Q (x::xs) H2
section
variable {X:Cx} {e:Expr} {es:List Expr} {te:TE} {t:TA} {pos:Pos}
def aC:PA X [] mJ:=λ_ _ _ _ H Q I h=>Calls.spliced_nil {[],H,I,.nil,h}
def aA (z:PE X e te) (d:PA X es t) (y:starEach (e::es) X.env=(false,eval e X.env)::starEach es X.env:=by rfl):PA X (e::es) (iE te t):=by
 intro pos pins s σ H Q I h;rw [y];show wpAny _ _ (spliced ((false,eval e X.env)::backTo pos (starEach es X.env))) _ _ s;refine T3 (eN (z s σ H _ I h) λu F x H1 i B D=>?_);exact vT (d pins F σ H1 _ i D) λG J xs H2 n j q=>{x::xs,H2,n,.cons B j,q}
def Zm (t:TA):TE:=λσ H Q=>t σ H λxs H1=>xs.length<=sizeLine/\∀p,H1 p=none->Q (.ref p) (upd H1 p (.tup xs))
def FH (t:TA):TE:=λσ H Q=>t σ H λxs H1=>xs.length<=sizeLine/\∀p,H1 p=none->Q (.ref p) (upd H1 p (.lst xs))
def bL (h:PA X es t):PE X (.Tuple es x1 pos) (Zm t):=by
 intro pins s σ H Q I y;refine wpAny_Tuple_spliced (vT (h pins s σ H _ I y) λn d xs H1 i r ⟨z,q⟩=>{by rw [<- r.length];exact z,?_});let j:H1 d.heap.objs.size=none:=i.hok.fresh (i7 _);refine {.ref d.heap.objs.size,upd H1 d.heap.objs.size (.tup xs),i.laid (t':=d.toks) (λb u e=>i8 _ e) (i7 _) ?_,rfl,q _ j};exact {z,n,r,{_,n9 _ rfl,rfl,_,rfl}}
def dU (h:PA X es t):PE X (.List es pos) (FH t):=by
 intro pins s σ H Q I y;refine wpAny_List_spliced (vT (h pins s σ H _ I y) λn d xs H1 i r ⟨z,q⟩=>{by rw [<- r.length];exact z,?_});let j:H1 d.heap.objs.size=none:=i.hok.fresh (i7 _);refine {.ref d.heap.objs.size,upd H1 d.heap.objs.size (.lst xs),i.laid (t':=d.toks) (λb u e=>i8 _ e) (i7 _) ?_,rfl,q _ j};exact {z,n,0,r,n9 _ rfl}
end
abbrev Sp:=List V->Hp->VK->XK->Prop
abbrev pK:=List Env->Hp->Shared->XK->Value->Shared->Prop
structure tS (P:Program) (w:World) (K:PySem.W.Frag) (mg:Str->Option Value) (base:Heap) (A:Around) (outer:List Env) (s:Shared) (H:Hp):Prop where
 frames:A.frames=some outer
 mod:Mod K mg base
 bs:∀b o,base.get? b=some o->s.heap.get? b=some o/\H b=none
 bsz:base.objs.size<=s.heap.objs.size
 funs:s.heap.FunFrames base outer
 frf:∀b ∈ mD outer,H b=none
 hok:lJ P w H s.heap
 bare:AllBare s.gens
def CE (outer:List Env) (P:Program) (w:World) (H:Hp) (s:Shared) (Q:VK) (u:Value) (s':Shared):Prop:=
 ∃v H',s'.os=s.os/\AllBare s'.gens/\Un (mD outer) [] H H' s.heap s'.heap/\lJ P w H' s'.heap/\bF v u/\Q v H'
def CR (CX:pK) (outer:List Env) (P:Program) (w:World) (H:Hp) (s:Shared) (Q:VK) (E:XK) (r:Result) (s':Shared):Prop:=
 match r with
 | .ok (.ret u)=>CE outer P w H s Q u s'
 | .ok _=>False
 | .error e=>CX outer H s E e s'
structure bH (P:Program) (w:World) (K:PySem.W.Frag) (mg:Str->Option Value) (base:Heap) (CX:pK) (k:Nat) (f:Addr) (fd:FuncData) (ps:List Str) (sp:Sp):Prop where
 len:∀vs H Q E,sp vs H Q E->vs.length=ps.length
 run:∀(A:Around) (outer:List Env) (s:Shared) (H:Hp) (args:Args) (us:List Value) (vs:List V) (Q:VK) (E:XK),Room k A->tS P w K mg base A outer s H->BindsTo s fd args (ps.zip us)->bB vs us->sp vs H Q E ->
  codeAny (model P w) A (.call (.ref f) args) (CR CX outer P w H s Q E) s
theorem bH.mono {P:Program} {w:World} {K:PySem.W.Frag} {mg:Str->Option Value} {base:Heap} {CX:pK} {j k:Nat} {f:Addr} {fd:FuncData} {ps:List Str} {sp:Sp} (F:bH P w K mg base CX j f fd ps sp) (h:j<=k):
  bH P w K mg base CX k f fd ps sp:={F.len,λA d s H i q y Q E n=>F.run A d s H i q y Q E (n.mono h)}
def bH.imp {P:Program} {w:World} {K:PySem.W.Frag} {mg:Str->Option Value} {base:Heap} {CX:pK} {k:Nat} {f:Addr} {fd:FuncData} {ps:List Str} {sp sp':Sp} (F:bH P w K mg base CX k f fd ps sp)
  (h:∀i H Q E,sp' i H Q E->sp i H Q E):bH P w K mg base CX k f fd ps sp':=
 {λi H Q E q=>F.len i H Q E (h _ _ _ _ q),λA d s H j D i Q E n y B z G=>F.run A d s H j D i Q E n y B z (h _ _ _ _ G)}
def tS.make {P:Program} {w:World} {K:PySem.W.Frag} {mg:Str->Option Value} {base:Heap} {A:Around} {outer:List Env} {s:Shared} {H:Hp} (e:tS P w K mg base A outer s H) (C:Addr) (us:List Value) (kw:List (Str × Value)):
  tS P w K mg base (A.under (.builtin "type.__call__" {.ref C::us,kw})) outer s H:=⟨by first|exact e.frames|(simpa [Around.under,Code.envs,Code.isFrame,pushEnvs] using e.frames),e.mod,e.bs,e.bsz,e.funs,e.frf,e.hok,e.bare⟩
section
variable {X:Cx} {pins:List (Addr × Obj)} {σ:St} {H:Hp} {s s':Shared}
def aW.env0 (I:5#0):tS X.prog X.w X.K X.mg X.base X.A X.stack s H:=
 {I.ok.frames,I.ok.mod,I.bs,u8 I.ok.bsz I.sz,I.stack,I.stkFree,I.hok,I.bare}
def aW.after (I:5#0) (h:CE X.stack X.prog X.w H s Q u s'):EP X pins σ Q u s':=by
 let (v,H',D,i,y,j,r,q):=h;let (B,g,d,t,n):=s';obtain rfl:n=s.os:=D;exact {v,H',I.call (h':=B) (g':=g) (d':=d) (t':=t) (ch:=[]) y j i (λb z=>absurd z 6#0),r,q}
end
def xO (sp:Sp) (dvs:List V) (E:XK) (t:TA):TE:=λσ H Q=>t σ H λvs H1=>sp (vs++dvs) H1 Q E
inductive Xq (C:Addr) (m:Str) (sp:Sp) (dvs:List V) (E:XK) (t:TA) (σ:St) (Q:VK) (x:V) (H1:Hp):Prop|mk (a:_) (dx:_) (fs:_) (_:x=.ref a) (_:H1 a=some (.ins C dx fs)) (_:fs.lookup m=none) (_:t σ H1 λvs H2=>sp (x::(vs++dvs)) H2 Q E)
def rG (C:Addr) (m:Str) (sp:Sp) (dvs:List V) (E:XK) (ta:TE) (t:TA):TE:=λσ H Q=>ta σ H λx H1=>Xq C m sp dvs E t σ Q x H1
def FG (C:Addr) (sp:Sp) (dvs:List V) (E:XK) (t:TA):TE:=λσ H Q=>t σ H λvs H1=>∀x dx,H1 x=none->H1 dx=none->dx≠x ->
 sp (.ref x::(vs++dvs)) (upd (upd H1 dx (.own x)) x (.ins C dx [])) (λv H2=>v=.non/\Q (.ref x) H2) E
def eW (K:PySem.W.Frag) (fd:FuncData) (ps:List Str) (ds:List Value):Prop:=
 ∀(s:Shared) (us:List Value),K.In s.heap->(us++ds).length=ps.length->BindsTo s fd ⟨us,[]⟩ (ps.zip (us++ds))
def eW.all {K:PySem.W.Frag} {fd:FuncData} {ps:List Str} (h:∀d:List Value,d.length=ps.length->bindArgs fd {d,[]}=pure (ps.zip d)):eW K fd ps []:=λs d _ i=>by
 rw [E4] at i ⊢
 exact .of_eq (h d i)
def eV (CX:pK) (X:Cx) (E:XK):Prop:=∀(pins:List 10#0) (σ:St) (H:Hp) (s:Shared) (e:Value) (s':Shared),aW X pins σ H s->CX X.stack H s E e s'->X.xe e s'
section
variable {X:Cx} {CX:pK} {k:Nat} {f C:Addr} {fd:FuncData} {ps:List Str} {sp:Sp} {dvs:List V} {ds:List Value} {E:XK} {x m:Str} {p pos apos:Pos} {e o:Expr} {es:List Expr} {ta:TE} {t:TA}
def Be {pins:List 10#0} {σ:St} {H:Hp} {s:Shared} {Q:VK} {us:List Value} {vs:List V} (F:bH X.prog X.w X.K X.mg X.base CX k f fd ps sp) (j:Room k X.A) (q:eW X.K fd ps ds) (z:bB dvs ds) (n:eV CX X E)
  (I:5#0) (r:bB vs us) (h:sp (vs++dvs) H Q E):wpAny 4#0 X.A (call (.ref f) us) (EP X pins σ Q) X.xe s:=by
 let i:bB (vs++dvs) (us++ds):=r.append z
 let y:(us++ds).length=ps.length:=by rw [<- i.length];exact F.len _ _ _ _ h
 refine M9 (G9 (F.run X.A X.stack s H {us,[]} (us++ds) (vs++dvs) Q E j I.env0 (q s us I.kIn y) i h) λr s' d=>?_);cases r with
 | error e=>exact n pins σ H s e s' I d
 | ok fl=>
  cases fl with
  | ret u=>exact I.after d
  | next=>exact False.elim d
  | brk=>exact False.elim d
  | cont=>exact False.elim d
def Uq (F:bH X.prog X.w X.K X.mg X.base CX k f fd ps sp) (n:Room k X.A) (M:Gl X x) (D:X.mg x=some (.ref f)) (z:PySem.W.keepIn X.K (.ref f)=true) (B:eW X.K fd ps ds) (J:bB dvs ds) (y:eV CX X E)
  (G:PA X (e::es) t) (i:(x == ("__debug__":Str))=false:=by decide) (L:starEach (e::es) X.env=(false,eval e X.env)::starEach es X.env:=by rfl) (d:(backTo pos (starEach es X.env)).any (·.1)=false:=by rfl):
  PE X (.Call (.Name x p) (e::es) [] pos) (xO sp dvs E t):=by
 intro pins s σ H Q I h;refine D7 (lC I M D ?_ i);refine PySem.W.callWith_K (h₀:=X.base) I.ok.mod.kin z (vT (G pins s σ H _ I h) λN S O H1 j r q=>{j.kIn,?_}) L d;exact Be F n B J y j r q
def Uo (he:PE X o ta) (c:tV X.K C) (hm:Aa X.K C m f) (F:bH X.prog X.w X.K X.mg X.base CX k f fd ps sp) (hr:Room k X.A) (hb:eW X.K fd ps ds) (hd:bB dvs ds) (hx:eV CX X E) (ha:PA X (e::es) t)
  (hst:starEach (e::es) X.env=(false,eval e X.env)::starEach es X.env:=by rfl) (hpl:(backTo pos (starEach es X.env)).any (·.1)=false:=by rfl)
  (ht:eval (.Call (.Attribute o m apos) (e::es) [] pos) X.env=(do
   let ov <- eval o X.env
   standAt apos.atName
   let (f,first) <- holding [ov] (getMethod ov m pl)
   callWith pos f first (backTo pos (starEach (e::es) X.env)) (backToKw pos (keywordEach [] X.env))):=by rfl):
  PE X (.Call (.Attribute o m apos) (e::es) [] pos) (rG C m sp dvs E ta t):=by
 intro pins s σ H Q I h;refine PySem.W.methodCall_KW (pl:=pl) (eN (he s σ H _ I h) λu s1 x H1 I1 rx hUp=>?_) ht;let (a,dx,fs,ex,ea,l,q):=hUp;subst ex;obtain rfl:u=Value.ref a:=rx;refine lW I1 ea c hm l ?_;refine PySem.W.callWith_K (first:=[.ref a]) (h₀:=X.base) I.ok.mod.kin hm.kp (vT (ha pins s1 σ H1 _ I1 q) λus s2 vs H2 I2 r q2=>{I2.kIn,?_}) hst hpl
 exact Be (us:=.ref a::us) (vs:=.ref a::vs) F hr hb hd hx I2 (.cons rfl r) q2
def yI (he:PE X o ta) (c:tV X.K C) (hm:Aa X.K C m f) (F:bH X.prog X.w X.K X.mg X.base CX k f fd ps sp) (hr:Room k X.A) (hb:eW X.K fd ps ds) (hd:bB dvs ds) (hx:eV CX X E)
  (ht:eval (.Call (.Attribute o m apos) [] [] pos) X.env=(do
   let ov <- eval o X.env
   standAt apos.atName
   let (f,first) <- holding [ov] (getMethod ov m pl)
   callWith pos f first (backTo pos (starEach [] X.env)) (backToKw pos (keywordEach [] X.env))):=by rfl):
  PE X (.Call (.Attribute o m apos) [] [] pos) (rG C m sp dvs E ta mJ):=by
 intro pins s σ H Q I h;refine PySem.W.methodCall_KW (pl:=pl) (eN (he s σ H _ I h) λu s1 x H1 I1 rx hUp=>?_) ht;let (a,dx,fs,ex,ea,l,q):=hUp;subst ex;obtain rfl:u=Value.ref a:=rx;refine lW I1 ea c hm l ?_;exact PySem.W.callWith_K0 (first:=[.ref a]) I1.kIn hm.kp (Be (us:=[.ref a]) (vs:=[.ref a]) F hr hb hd hx I1 (.cons rfl .nil) q)
structure Mk (K:PySem.W.Frag) (C f:Addr):Prop where
 makes:PySem.W.makesIn K C=true
 init:PySem.W.findIn K (.ref C) "__init__"=some (some (.ref f))
 fn:PySem.W.isFn K (.ref f)=true
 kp:PySem.W.keepIn K (.ref C)=true
def Ms {pins:List 10#0} {σ:St} {H:Hp} {s:Shared} {Q:VK} {us:List Value} {vs:List V} (M:Mk X.K C f) (F:bH X.prog X.w X.K X.mg X.base CX k f fd ps sp) (q:Room (k+1) X.A) (z:eW X.K fd ps ds) (N:bB dvs ds)
  (y:eV CX X E) (I:5#0) (r:bB vs us)
  (h:∀x dx,H x=none->H dx=none->dx≠x->sp (.ref x::(vs++dvs)) (upd (upd H dx (.own x)) x (.ins C dx [])) (λv H2=>v=.non/\Q (.ref x) H2) E):
  wpAny 4#0 X.A (call (.ref C) us) (EP X pins σ Q) X.xe s:=by
 let n:=h (s.heap.objs.size+1) s.heap.objs.size (I.hok.fresh (L5 _)) (I.hok.fresh (i7 _)) (q5 (Q6 _));let i:=aW.made (C:=C) I;let j:bB (V.ref (s.heap.objs.size+1)::(vs++dvs)) (Value.ref (s.heap.objs.size+1)::(us++ds)):=.cons rfl (r.append N);let G:(Value.ref (s.heap.objs.size+1)::us++ds).length=ps.length:=by
  let e:=j.length;rw [F.len _ _ _ _ n] at e;exact e.symm
 refine M9 (Oz (f:=f) I.kIn M.makes M.init (beq_iff_eq.mp M.fn) (G9 (F.run _ X.stack _ _ {Value.ref (s.heap.objs.size+1)::us,[]} (Value.ref (s.heap.objs.size+1)::(us++ds)) _ _ E (q.make C us [])
  (i.env0.make C us []) (z _ (Value.ref (s.heap.objs.size+1)::us) i.kIn G) j n) λr s' d=>?_));cases r with
 | error e=>exact y pins σ _ _ e s' i d
 | ok fl=>
  cases fl with
  | ret u=>
   let (v,H',L,B,J,D):=i.after d;subst J;exact {B,{V.ref (s.heap.objs.size+1),H',L,rfl,D}}
  | next=>exact False.elim d
  | brk=>exact False.elim d
  | cont=>exact False.elim d
def wO (M:Mk X.K C f) (F:bH X.prog X.w X.K X.mg X.base CX k f fd ps sp) (n:Room (k+1) X.A) (L:Gl X x) (B:X.mg x=some (.ref C)) (z:eW X.K fd ps ds) (G:bB dvs ds) (y:eV CX X E)
  (D:PA X (e::es) t) (i:(x == ("__debug__":Str))=false:=by decide) (J:starEach (e::es) X.env=(false,eval e X.env)::starEach es X.env:=by rfl) (d:(backTo pos (starEach es X.env)).any (·.1)=false:=by rfl):
  PE X (.Call (.Name x p) (e::es) [] pos) (FG C sp dvs E t):=by
 intro pins s σ H Q I h;refine D7 (lC I L B ?_ i);refine PySem.W.callWith_K (h₀:=X.base) I.ok.mod.kin M.kp (vT (D pins s σ H _ I h) λN S O H1 j r q=>{j.kIn,?_}) J d;exact Ms M F n z G y j r q
end
def PK (X:Cx) (kws:List Keyword) (t:TA):Prop:=
 ∀(pos:Pos) (pins:List 10#0) (s:Shared) (σ:St) (H:Hp) (Q:List V->Hp->Prop),aW X pins σ H s->t σ H Q->wpAny 4#0 X.A (evalAll ((backToKw pos (keywordEach kws X.env)).map (·.2))) (AP X pins σ Q) X.xe s
section
variable {X:Cx} {CX:pK} {k:Nat} {f C:Addr} {fd:FuncData} {ps ks:List Str} {sp:Sp} {E:XK} {x m:Str} {p pos apos kpos:Pos} {e o:Expr} {es:List Expr} {kws:List Keyword} {te ta:TE} {t tk:TA} {nm:Option Str}
def wN:PK X [] mJ:=λ_ _ _ _ H Q I h=>wpAny_evalAll_nil {[],H,I,.nil,h}
def pW (y:PE X e te) (d:PK X kws t):PK X ({(nm),e,kpos}::kws) (iE te t):=by
 intro pos pins s σ H Q I h;show wpAny _ _ (evalAll ((do let v <- eval e X.env;standAt pos;pure v)::(backToKw pos (keywordEach kws X.env)).map (·.2))) _ _ s;refine wpAny_evalAll_cons (g7 (eN (y s σ H _ I h) λu D x H1 i z B=>g7 (N5 (j3 ?_))));exact vT (d pos pins D σ H1 _ i B) λF G xs H2 n j q=>{x::xs,H2,n,.cons z j,q}
variable {g:List Value->List Value->List Value} {gV:List V->List V->List V}
end
structure aK (N P:List Str) (sc:Scope):Prop where
 kind:sc.kind=.function
 co:sc.isCoroutine=false
 gen:sc.isGenerator=false
 nd:N.Nodup
 pre:N.take P.length=P
 par:∀x ∈ P,sc.names.lookup x=some .local\/sc.names.lookup x=some .cell
 nofree:∀y ∈ sc.names,y.2≠.free
theorem vI:∀{d:List (Str × Value)} {m:Str->Option Value},(∀v,(x,v) ∉ d)->bindL i d m x=m x
 | [],_,_=>rfl
 | (n,v)::r,m,h=>by
  unfold bindL
  rw [vI λw j=>h w (i4 _ j)]
  split
  ·have:x≠n:=by rintro rfl;exact h v j1
   simp [this]
  ·rfl
theorem vK:∀{d:List (Str × Value)} {m:Str->Option Value},(∀v,(x,v) ∉ d)->bindC i d m x=m x
 | [],_,_=>rfl
 | (n,v)::r,m,h=>by
  unfold bindC
  rw [vK λw j=>h w (i4 _ j)]
  split
  ·rfl
  ·have:x≠n:=by rintro rfl;exact h v j1
   simp [this]
theorem vJ:∀{P:List Str} {vs:List Value} {i:Nat} {m:Str->Option Value},P.Nodup->P[i]?=some x->vs[i]?=some v->d x=some .local ->
  bindL d (P.zip vs) m x=some v
 | [],_,_,_,_,h,_,_=>by simp at h
 | _::_,[],_,_,_,_,h,_=>by simp at h
 | p::P,w::vs,0,m,nd,h1,h2,hk=>by
  simp at h1 h2;subst h1;subst h2
  show bindL d ((p,w)::P.zip vs) m p=_
  unfold bindL
  rw [vI λv j=>(A9.mp nd).1 (C8 j).1,if_pos hk]
  simp
 | p::P,w::vs,i+1,m,nd,h1,h2,hk=>by
  show bindL d ((p,w)::P.zip vs) m x=_
  unfold bindL
  exact vJ (i:=i) (A9.mp nd).2 (by simpa using h1) (by simpa using h2) hk
theorem vL:∀{P:List Str} {vs:List Value} {i:Nat} {m:Str->Option Value},P.Nodup->P[i]?=some x->vs[i]?=some v->d x≠some .local ->
  bindC d (P.zip vs) m x=some v
 | [],_,_,_,_,h,_,_=>by simp at h
 | _::_,[],_,_,_,_,h,_=>by simp at h
 | p::P,w::vs,0,m,nd,h1,h2,hk=>by
  simp at h1 h2;subst h1;subst h2
  show bindC d ((p,w)::P.zip vs) m p=_
  unfold bindC
  rw [vK λv j=>(A9.mp nd).1 (C8 j).1,if_neg hk]
  simp
 | p::P,w::vs,i+1,m,nd,h1,h2,hk=>by
  show bindC d ((p,w)::P.zip vs) m x=_
  unfold bindC
  exact vL (i:=i) (A9.mp nd).2 (by simpa using h1) (by simpa using h2) hk
def dB (N:List Str) (vs:List V):St:=vs.map some++List.replicate (N.length-vs.length) none
def hU (CX:pK) (P:Program) (w:World) (K:PySem.W.Frag) (mg:Str->Option Value) (base:Heap) (N:List Str) (qual:Str) (scope:Scope) (f:Addr) (cd:Value) (A:Around) (outer:List Env) (s:Shared) (H:Hp) (E:XK):Cx where
 prog:=P
 w:=w
 K:=K
 mg:=mg
 base:=base
 A:=A.deeper (envOfC qual scope s.heap.objs.size f cd)
 N:=N
 s₀:=s
 H₀:=H
 env:=envOfC qual scope s.heap.objs.size f cd
 outer:=outer
 stack:=envOfC qual scope s.heap.objs.size f cd::outer
 ex:=[]
 calm:=true
 fn:=λ_=>true
 pn:=[]
 xe:=λe s'=>wpAny (model P w) (A.deeper (envOfC qual scope s.heap.objs.size f cd)) (leaving (envOfC qual scope s.heap.objs.size f cd) e) (λ_ s''=>CX outer H s E e s'') (λe' s''=>CX outer H s E e' s'') s'
def zP {d:Scope} {n:Nat} {x:Str} (h:d.names.lookup x=some .cell):∃c,(cellsFrom n d.names []).lookup x=some c:=by
 let q:=PySem.W.cellsFrom_some d.names n [] (.inl h);exact O8.mp q
def oQ {CX:pK} {P:Program} {w:World} {K:PySem.W.Frag} {mg:Str->Option Value} {base:Heap} {N ps:List Str} {j:Str} {d:Scope} {f:Addr} {G:Value} {A:Around} {outer:List Env} {s L:Shared} {H:Hp} {E:XK} {us:List Value} {vs:List V}
  (S:aK N ps d) (Y:A.handled=none) (B:tS P w K mg base A outer s H) (Z:vs.length=ps.length) (r:bB vs us)
  (x:InCallC s s.heap.objs.size (bindL (envOfC j d s.heap.objs.size f G).kindOf (ps.zip us) λ_=>none) (cellsFrom (s.heap.objs.size+1) d.names []) (bindC (envOfC j d s.heap.objs.size f G).kindOf (ps.zip us) λ_=>none) L):
  aW (hU CX P w K mg base N j d f G A outer s H E) [] (dB N vs) H L:=by
 let M:ps.length<=N.length:=by have:=congrArg List.length S.pre;rw [t9] at this;omega
 let (h1,tk,rfl,I):=x.done;let D:∀b:Addr,b ∉ (hU CX P w K mg base N j d f G A outer s H E).ex:=λb z=>absurd (show b ∈ ([]:List Addr) from z) 6#0;refine {{B.mod,S.kind,rfl,rfl,i7 _,λy z c h1 h2=>?_,λy hy=>?_,λy c _ h=>?_,λ_=>Y,Around.frames_deeper B.frames,.inr {(rfl),rfl},λb z=>absurd z (D b),B.bs,B.bsz,λb _ _=>D b,λb z=>absurd z (D b),B.funs,B.frf},
  rfl,B.bare,Un.kept I,{_,x.toInCall.ns,λi y v h1 h2 h3=>?_},λy c h=>{_,x.cell y c h},B.hok.fresh (i7 _),λy c h=>?_,λp F=>absurd (show p ∈ ([]:List 10#0) from F) 6#0,B.hok.kept I,?_}
 ·exact name_of_addr x.apart (PySem.mem_of_lookup h1) (PySem.mem_of_lookup h2)
 ·let hy:d.names.lookup y=some .cell\/d.names.lookup y=some .free:=hy;rcases hy with hy|hy
  ·exact zP hy
  ·exact absurd rfl (S.nofree _ (PySem.mem_of_lookup hy))
 ·exact E5 (x.above y c (PySem.mem_of_lookup h))
 ·let hi:i<vs.length:=by
   unfold dB at h2;by_cases hi:i<vs.length
   ·exact hi
   ·rw [B1 (by simpa using hi)] at h2;rw [List.getElem?_replicate] at h2;split at h2 <;> cases h2
  let U:vs[i]?=some v:=by
   unfold dB at h2;rw [B7 (by simpa using hi),j7] at h2;cases e:vs[i]? with
   | none=>rw [e] at h2;cases h2
   | some a=>rw [e] at h2;cases h2;rfl
  let (u,J,O):=r.get U;let F:ps[i]?=some y:=by
   rw [<- S.pre,y9 ∎];exact h1
  let IP:ps.Nodup:=by rw [<- S.pre];exact S.nd.sublist (List.take_sublist _ _)
  refine {u,O,?_};rcases S.par y (j8 F) with k|k
  ·exact .inl {k,vJ IP F J k}
  ·let (c,e):=zP (n:=s.heap.objs.size+1) k;refine .inr {.inl k,c,e,?_};let q:=x.cell y c e;rw [vL IP F J (by show d.names.lookup y≠_;rw [k];decide)] at q;exact q
 ·exact B.hok.fresh (E5 (x.above y c (PySem.mem_of_lookup h)))
 ·unfold dB;show _=N.length;rw [p8,i6,D5];omega
def Qe {CX:pK} {P:Program} {w:World} {K:PySem.W.Frag} {mg:Str->Option Value} {base:Heap} {k:Nat} {f:Addr} {name i:Str} {j:Arguments} {z:List Stmt} {d:Scope} {dV kV L pm cdv ct oc:Value} {an od:Option Addr}
  {a0:Array (Option Value)} {N ps:List Str} {sp:Sp} (lk:K.lookup f=some {oc,od,.func (PySem.W.fnOf name i j z d dV kV L pm an cdv ct),a0}) (Z:PySem.W.codeIn K cdv i=true) (S:aK N ps d)
  (G:∀vs H Q E,sp vs H Q E->vs.length=ps.length)
  (B:∀(A:Around) (outer:List Env) (s:Shared) (H:Hp) (vs:List V) (Q:VK) (E:XK),Room k (A.deeper (envOfC i d s.heap.objs.size f cdv))->sp vs H Q E ->
   ∃t,pJ (hU CX P w K mg base N i d f cdv A outer s H E) z t/\t { nx:=λ_ H'=>Q .non H',rt:=Q } (dB N vs) H):
  bH P w K mg base CX (k+1) f (PySem.W.fnOf name i j z d dV kV L pm an cdv ct) ps sp:=by
 refine {G,λA outer s H a2 us vs Q E hr M hb r O=>?_};let hl:=G _ _ _ _ O;let KX:K.In s.heap:=M.mod.kin.keeps λb o e=>(M.bs b o e).1;let a1:s.heap.NoLimit:=M.mod.nolimit.keeps λb o e=>(M.bs b o e).1;let D:∀y ∈ ps.zip us,d.names.lookup y.1=some .local\/(d.names.lookup y.1=some .cell/\((cellsFrom (s.heap.objs.size+1) d.names []).lookup y.1).isSome=true):=λ⟨n,v⟩ hy=>by
  rcases S.par n (C8 hy).1 with q|q
  ·exact .inl q
  ·exact .inr {q,PySem.W.cellsFrom_some _ _ _ (.inl q)}
 refine codeAny_call_function hr.depth (KX _ _ lk) rfl S.co S.gen rfl (PySem.W.codeRec_of KX Z) (hb _ _ _ _ ?_);refine N6 S.kind D λa3 he s1 x=>?_;subst he;refine {a1.keeps x.toInCall.keep,codeAny_func ?_};let (t,ht,hq):=B A outer s H vs Q E (hr.deeper _) O;let I:aW (hU CX P w K mg base N i d f cdv A outer s H E) [] (dB N vs) H s1:=oQ S hr.hd M hl r x;refine y7 (ht s1 (dB N vs) H _ I hq) (λfl s' F=>?_) λe s' F=>F;let U:∀{Y:St} {H':Hp} {v:V} {u:Value},aW (hU CX P w K mg base N i d f cdv A outer s H E) [] Y H' s'->bF v u->Q v H'->CE outer P w H s Q u s':=
  λ{Y H' v u} J rv q=>{(v),H',J.os,J.bare,J.base,J.hok,rv,q}
 cases fl with
 | ret u=>
  let (v,Y,H',J,rv,q):=F;exact U J rv q
 | next=>
  let (Y,H',J,q):=F;exact U (v:=V.non) (u:=Value.none) J rfl q
 | brk=>
  let (_,_,_,q):=F;exact False.elim q
 | cont=>
  let (_,_,_,q):=F;exact False.elim q
section
variable {X:Cx} {x:Str} {p pos:Pos} {e:Expr} {es:List Expr} {t:TA} {id T:String} {r:List V->Hp->VK->Prop}
def FM (r:List V->Hp->VK->Prop) (t:TA):TE:=λσ H Q=>t σ H λvs H1=>r vs H1 Q
def aY (B:gN X (.builtin id) r) (M:Gl X x) (z:X.mg x=none) (j:bootBuiltins x=some (.builtin id)) (D:PA X (e::es) t) (n:x≠"__name__":=by decide) (i:(x == ("__debug__":Str))=false:=by decide)
  (L:starEach (e::es) X.env=(false,eval e X.env)::starEach es X.env:=by rfl) (d:(backTo pos (starEach es X.env)).any (·.1)=false:=by rfl):PE X (.Call (.Name x p) (e::es) [] pos) (FM r t):=by
 intro pins s σ H Q I h;refine D7 (jX I M z j ?_ n i);exact PyProof.Rows.callWith_builtin1 (vT (D pins s σ H _ I h) λq N J H1 y F G=>B pins N σ H1 J q Q y F G) L d
def bZ (B:gN X (.type T) r) (M:Gl X x) (z:X.mg x=none) (j:bootBuiltins x=some (.type T)) (D:PA X (e::es) t) (n:x≠"__name__":=by decide) (i:(x == ("__debug__":Str))=false:=by decide)
  (L:starEach (e::es) X.env=(false,eval e X.env)::starEach es X.env:=by rfl) (d:(backTo pos (starEach es X.env)).any (·.1)=false:=by rfl):PE X (.Call (.Name x p) (e::es) [] pos) (FM r t):=by
 intro pins s σ H Q I h;refine D7 (jX I M z j ?_ n i);exact M8 (vT (D pins s σ H _ I h) λq N J H1 y F G=>B pins N σ H1 J q Q y F G) L d
end
end L2
namespace HT
open PySem PyProof.Rows
def lexLt:List Int->List Int->Bool
 | [],[]=>false
 | [],_::_=>true
 | _::_,[]=>false
 | x::xs,y::ys=>if x=y then lexLt xs ys else decide (x<y)
def lexLt_cons (x y:Int) (xs ys:List Int):lexLt (x::xs) (y::ys)=if x=y then lexLt xs ys else decide (x<y):=rfl
def lexLt_nil_nil:lexLt [] []=false:=rfl
def sM (y:Int) (ys:List Int):lexLt [] (y::ys)=true:=rfl
def sN (x:Int) (xs:List Int):lexLt (x::xs) []=false:=rfl
def Qh (A:Around) (s:Shared) (a:Int) (t:Tok) (c:Int) (u:Tok):∃e,SeqAt.EqAt A s (.int a t) (.int c u) e/\(e=true↔a=c):=
 {(a == c),SeqAt.EqAt.int_int a t c u,by simp}
def Mx (A:Around) (s:Shared) (a:Int) (t:Tok) (c:Int) (u:Tok) (prog:Program) (w:World) (E:Value->Shared->Prop) (Q:Value->Shared->Prop) (h:Q (.bool (decide (a<c))) s):
  wpAny 8#0 A (richCompare .Lt (.int a t) (.int c u)) Q E s:=
 (PyProof.Rows.lt_int h:wpAny 8#0 A (compareOp .Lt (.int a t) (.int c u)) Q E s)
section
open PySem.SeqAt
open PySem.AutoSeq1 (wpAny_loadPart')
open PySem.MeetsSeq PySem.MeetsSeq2 PySem.MeetsSeq3
def tW (l b:Addr) (items items2:Array Value) (n n2:Nat) (dd dd2:Option Addr) (sl sl2:Array (Option Value)) (ns ms:List Int) (hi:IntsAre items.toList ns) (hj:IntsAre items2.toList ms):
  Meets (Builtin.«tuple.__lt__» {[.ref l,.ref b],[]})
   (λ_ R s=>s.heap.get? l=some { cls:=.type "tuple",dict:=dd,data:=.seq items n,slots:=sl }/\s.heap.get? b=some { cls:=.type "tuple",dict:=dd2,data:=.seq items2 n2,slots:=sl2 } /\
    R (.ok (.ret (.bool (lexLt ns ms)))) s):=
 .of_wp λprog w A R s h=>by
  let (hp,g,d,tk,os):=s;let (hl,hb,h):=h
  let f2:=AutoSeq1.sub_tuple_tuple
  let z1:items.size=ns.length:=by rw [<- hi.length];simp
  let z2:items2.size=ms.length:=by rw [<- hj.length];simp
  wp_walk using R8 hl,R8 hb,wpAny_forIn_list _ (λrest b s'=>b.1=none/\s'={(hp),g,d,tk,os}/\∃(vs ws:List Value) (ns' ms':List Int),rest=vs.zip ws /\
   IntsAre vs ns'/\IntsAre ws ms'/\ns'.length+items2.size=ms'.length+items.size/\R (.ok (.ret (.bool (lexLt ns' ms')))) {(hp),g,d,tk,os}) _
  case turn=>
   rintro⟨y,x⟩ rest b s' ⟨hb',rfl,vs,ws,ns',ms',hz,hvi,hwi,hlen,hR⟩
   cases hvi with
   | nil=>rw [List.zip_nil_left] at hz;cases hz
   | cons a t hvi'=>
    cases hwi with
    | nil=>rw [List.zip_nil_right] at hz;cases hz
    | cons c u hwi'=>
     rw [List.zip_cons_cons] at hz
     injection hz with hyx hrest
     injection hyx with hy hx
     subst hy hx
     rw [lexLt_cons] at hR
     simp only [t7] at hlen
     let (e,he,hiff):=Qh A.in1 {(hp),g,d,tk,os} a t c u
     refine g7 (he prog w _ _ ?_)
     cases e with
     | true=>
      rw [if_pos (hiff.mp rfl)] at hR
      wp_walk
      exact {rfl,rfl,_,_,_,_,hrest,hvi',hwi',∎,hR}
     | false=>
      rw [if_neg (λq=>absurd (hiff.mpr q) r6)] at hR
      let hri:=Mx A.in1 {(hp),g,d,tk,os} a t c u prog w
      wp_walk using hri
      exact {_,rfl,by simpa using hR}
  case fin=>
   rintro⟨b1,b2⟩ s' ⟨hb',rfl,vs,ws,ns',ms',hz,hvi,hwi,hlen,hR⟩
   simp only at hb'
   subst hb'
   let hv:lexLt ns' ms'=decide (items.size<items2.size):=by
    cases hvi with
    | nil=>
     cases hwi with
     | nil=>
      simp only [O4] at hlen;rw [lexLt_nil_nil];exact(decide_eq_false ∎).symm
     | cons c u hw=>
      simp only [O4,t7] at hlen;rw [sM];exact(decide_eq_true ∎).symm
    | cons a t hv=>
     cases hwi with
     | nil=>
      simp only [O4,t7] at hlen;rw [sN];exact(decide_eq_false ∎).symm
     | cons c u hw=>
      rw [List.zip_cons_cons] at hz;cases hz
   rw [hv] at hR;wp_walk;exact {_,rfl,by simpa [Builtin.Tuple.tupleCompareSizes] using hR}
  case h=>
   exact {rfl,rfl,items.toList,items2.toList,ns,ms,rfl,hi,hj,∎,h}
end
section
variable {prog:Program} {w:World} {A:Around} {E:Value->Shared->Prop} {s:Shared}
def lt_tupInts (Z:IsTup s.heap l i) (W:IsTup s.heap b d) (hi:IntsAre i.toList ns) (Y:IntsAre d.toList j)
  (S:A.units<cLine) (h:Q (.bool (lexLt ns j)) s):wpAny 8#0 A (compareOp .Lt (.ref l) (.ref b)) Q E s:=by
 let ((a0,dd,N,U),L,J,n,M):=id Z;let ((I,B,G,D),z,q,O,y):=id W;simp only at J M q y;subst J M q y;exact richCompare_meets_room (op:=.Lt) {_,L,rfl} {_,z,rfl} PySem.F.slot_tuple_lt PySem.F.entry_tuple_lt (PySem.F.args_tuple_lt_2 _ _) (tW l b i d n O dd B U D ns j hi Y)
  {L,z,show Value.bool (lexLt ns j)≠Value.notImplemented/\Q (.bool (lexLt ns j)) s from {(λx=>nomatch x),h}} S
def sIx (n d:Nat):Option Int->Nat
 | none=>d
 | some v=>if v<0 then(v+(n:Int)).toNat else min v.toNat n
def sIx_none (n d:Nat):sIx n d none=d:=rfl
def sIx_nat (n d k:Nat):sIx n d (some (k:Int))=min k n:=by
 show (if (k:Int)<0 then((k:Int)+(n:Int)).toNat else min (k:Int).toNat n)=min k n;rw [if_neg ∎,E3]
def AY (n d:Nat) (j:d<=n) (o:Option Int):sIx n d o<=n:=by
 cases o with
 | none=>exact j
 | some v=>
  show (if v<0 then(v+(n:Int)).toNat else min v.toNat n)<=n;by_cases i:v<0
  ·rw [if_pos i];omega
  ·rw [if_neg i];exact Nat.min_le_right _ _
def Ge (v:Int) (n d:Nat):(if v<0 then max (v+(n:Int)) 0 else min v (n:Int))=((sIx n d (some v):Nat):Int):=by
 show (if v<0 then max (v+(n:Int)) 0 else min v (n:Int))=(((if v<0 then(v+(n:Int)).toNat else min v.toNat n):Nat):Int);by_cases i:v<0
 ·simp only [if_pos i];omega
 ·simp only [if_neg i];omega
def Ct (lo hi:Option Int) (n:Nat):Builtin.Slice.sliceAdjust lo hi 1 (n:Int)=(((sIx n 0 lo:Nat):Int),((sIx n n hi:Nat):Int)):=by
 let h1:¬ ((1:Int)<0):=∎;unfold Builtin.Slice.sliceAdjust;simp only [h1,if_false];refine Prod.ext ?_ ?_
 ·cases lo with
  | none=>rfl
  | some v=>exact Ge v n 0
 ·cases hi with
  | none=>rfl
  | some v=>exact Ge v n n
def Bg (i j:Nat):Builtin.Slice.slicePlaces (i:Int) (j:Int) 1=j-i:=by
 unfold Builtin.Slice.slicePlaces;let h1:(1:Int) > 0:=∎;simp only [h1,if_true,Int.ediv_one];split <;> omega
def rK {v:Value} {o:Option Int} {Q:Option Int->Shared->Prop} (p:IsPart v o) (h:Q o s):wpAny 8#0 A (Builtin.Slice.slicePartIndex v) Q E s:=by
 cases p with
 | none=>exact slicePart_none h
 | int i t=>exact slicePart_int h
def iG {y:Addr} {j q:Value} {lo hi:Option Int} {n:Nat} {Q:Int × Int × Nat->Shared->Prop} (D:s.heap.IsSliceOf y j q .none) (pl:IsPart j lo) (z:IsPart q hi)
  (h:Q (((sIx n 0 lo:Nat):Int),1,sIx n n hi-sIx n 0 lo) s):wpAny 8#0 A (Builtin.Slice.sliceApplied (.ref y) (pure (n:Int))) Q E s:=by
 let (F,d,B,i):=id D;unfold Builtin.Slice.sliceApplied Builtin.Slice.sliceFields;refine g7 (g7 (z9 d i (x:=j) rfl (g7 (z9 d i (x:=q) rfl (g7 (z9 d i (x:=.none) rfl (j3 ?_)))))));refine g7 (slicePart_none ?_);show wpAny _ _ (if ((1:Int) == 0)=true then _ else _) _ _ s;rw [if_neg 7#0];refine g7 (rK pl (g7 (rK z (g7 (j3 ?_)))));show wpAny _ _ (match Builtin.Slice.sliceAdjust lo hi 1 (n:Int) with|(lo,hi)=>pure (lo,(1:Int),Builtin.Slice.slicePlaces lo hi 1)) _ _ s;rw [Ct lo hi n];show wpAny _ _ (pure (((sIx n 0 lo:Nat):Int),(1:Int),Builtin.Slice.slicePlaces ((sIx n 0 lo:Nat):Int) ((sIx n n hi:Nat):Int) 1)) _ _ s;rw [Bg];exact j3 h
def Nb (xs:Array Value) (i k:Nat):((List.range k).filterMap λ(m:Nat)=>xs[((i:Int)+(m:Int) * 1).toNat]?).toArray=((xs.toList.drop i).take k).toArray:=by
 let e:(λ(m:Nat)=>xs[((i:Int)+(m:Int) * 1).toNat]?)=λm=>xs[i+m]?:=by
  funext m;have:((i:Int)+(m:Int) * 1).toNat=i+m:=∎;rw [this]
 rw [e];have:=pick_run xs i k;rw [List.filterMap_map] at this;let d:((λx=>xs[x]?) ∘ λx=>i+x)=λm=>xs[i+m]?:=rfl;rw [d] at this;rw [this]
def getItem_tuple_cut {t D:Addr} {d:Array Value} {F G:Value} {lo hi:Option Int} {Q:Value->Shared->Prop} (j:IsTup s.heap t d) (I:s.heap.IsSliceOf D F G .none) (pl:IsPart F lo) (N:IsPart G hi)
  (L:¬ (sIx d.size 0 lo=0/\sIx d.size d.size hi=d.size))
  (h:Q (.ref s.heap.objs.size) { s with heap:=s.heap.push { cls:=.type "tuple",data:=.seq ((d.toList.drop (sIx d.size 0 lo)).take (sIx d.size d.size hi-sIx d.size 0 lo)).toArray } })
  (hsz:d.size<=sizeLine):wpAny 8#0 A (getItem (.ref t) (.ref D)) Q E s:=by
 let i:sizeOk (.seq ((d.toList.drop (sIx d.size 0 lo)).take (sIx d.size d.size hi-sIx d.size 0 lo)).toArray):=by
  show ((d.toList.drop (sIx d.size 0 lo)).take (sIx d.size d.size hi-sIx d.size 0 lo)).toArray.size<=sizeLine;rw [p9,t9,D0,u9];omega
 let O:sIx d.size d.size hi<=d.size:=AY _ _ (i7 _) hi;let (M,n,y,J):=id I;let z:s.TypeIs (.ref D) "slice":={(M),n,y};unfold getItem
 try with_reducible refine y4 ?_
 first|refine g7 (j3 ?_)|skip
 refine g7 (wpAny_sequenceKey j.typeIs 7#0 ?_);refine g7 (B2 (name:=Str.ofString "__getitem__") j.typeIs E8
  (D8 E8 j.typeIs entry_tuple_getitem ?_ (args_tuple_getitem _ _)));show wpAny _ _ (Builtin.Tuple.tupleItemsOf (.ref t) >>= _) _ _ s;refine g7 (tupleItemsOf_ j ?_);refine g7 (wpAny_typeOf z ?_);rw [if_pos 7#0];refine g7 (iG I pl N ?_);let B:¬ ((((sIx d.size 0 lo:Nat):Int) == 0 && (1:Int) == 1 && (sIx d.size d.size hi-sIx d.size 0 lo) == d.size)=true):=by
  intro q;rw [C6,C6] at q;let U:((sIx d.size 0 lo:Nat):Int)=0:=eq_of_beq q.1.1;let S:sIx d.size d.size hi-sIx d.size 0 lo=d.size:=eq_of_beq q.2;exact L { ∎,∎}
 show wpAny _ _ (if (((sIx d.size 0 lo:Nat):Int) == 0 && (1:Int) == 1 && (sIx d.size d.size hi-sIx d.size 0 lo) == d.size)=true then _ else _) _ _ s;rw [if_neg B,Nb]
 first
  | exact g7 (m:=Builtin.Tuple.tupleExact _) (C2 (j3 {_,rfl,j3 h}) i)
  | exact g7 (m:=Builtin.Tuple.tupleExact _) (C2 (g7 (j3 (j3 {_,rfl,j3 h}))) i)
  | exact g7 (g7 (m:=Builtin.Tuple.tupleExact _) (C2 (j3 (j3 {_,rfl,j3 h})) i))
  | exact g7 (g7 (m:=Builtin.Tuple.tupleExact _) (C2 (j3 {_,rfl,j3 h}) i))
end
end HT
namespace L2
open PySem PySem.Spec PyProof.Rows
abbrev TO:=St->Hp->(Option Int->Hp->Prop)->Prop
def PO (X:Cx) (e:Option Expr) (t:TO):Prop:=
 ∀(pins:List 10#0) (s:Shared) (σ:St) (H:Hp) (Q:Option Int->Hp->Prop),aW X pins σ H s->t σ H Q ->
  wpAny 4#0 X.A (evalPart e X.env) (λu s'=>∃o H',aW X pins σ H' s'/\IsPart u o/\Q o H') X.xe s
def Sl:TO:=λ_ H Q=>Q none H
def FB (t:TE):TO:=λσ H Q=>t σ H λx H1=>∃i,x=.int i/\Q (some i) H1
def sR:∀{us:List Value},bB (ns.map V.int) us->IntsAre us ns:=by
 induction ns with
 | nil=>intro us r;rw [O9] at r;cases r;exact .nil
 | cons n ns ih=>
  intro us r;rw [x9] at r;cases r with
  | cons r1 r2=>
   let (t,e):=r1;subst e;exact .cons n t (ih r2)
section
variable {X:Cx} {e:Expr} {te:TE} {lo hi:Option Expr} {tl th:TO} {pos p2:Pos}
def Ui:PO X none Sl:=by
 intro pins s σ H Q I h;rw [evalPart_none];exact j3 {none,H,I,.none,h}
def iX (h:PE X e te):PO X (some e) (FB te):=by
 intro pins s σ H Q I d;rw [evalPart_some];refine eN (h s σ H _ I d) λu z x H1 j y n=>?_;let (i,rfl,q):=n;let (t,rfl):=y;exact {some i,H1,j,.int i t,q}
def IQ (X:Cx) (r:V->Option Int->Option Int->Hp->VK->Prop):Prop:=
 ∀(pins:List 10#0) (s:Shared) (σ:St) (H:Hp) (x:V) (v vl vu:Value) (lo hi:Option Int) (sl:Addr) (Q:VK),aW X pins σ H s->bF x v->s.heap.IsSliceOf sl vl vu .none->IsPart vl lo->IsPart vu hi->r x lo hi H Q ->
  ∃T id,typeLookup (.type T) "__getitem__"=pure (some (.builtin id))/\s.TypeIs v T/\wpAny 4#0 X.A (getItem v (.ref sl)) (EP X pins σ Q) X.xe s
def MD (r:V->Option Int->Option Int->Hp->VK->Prop) (te:TE) (tl th:TO):TE:=λσ H Q=>te σ H λx H1=>tl σ H1 λl H2=>th σ H2 λu H3=>r x l u H3 Q
def mY (L:IQ X r) (S:PE X e te) (U:PO X lo tl) (D:PO X hi th):PE X (.Subscript e (.Slice lo hi none p2) pos) (MD r te tl th):=by
 intro pins s σ H Q I h;refine Subscript_ (eN (S s σ H _ I h) λv J x H1 M Y Z=>?_);refine wpAny_Slice (fY (U pins J σ H1 _ M Z) λj O ⟨l,H2,I2,pl,q2⟩=>fY (D pins O σ H2 _ I2 q2) λi d n=>?_);let (u,y,I3,B,W):=n;rw [evalPart_none];refine j3 ?_;let N:aW X pins σ y { d with heap:=d.heap.push { cls:=.type "slice",data:=.fields #[j,i,.none] } }:=I3.kept (t':=d.toks) λb ob q=>i8 _ q;let (T,id,z,F,G):=L pins { d with heap:=d.heap.push { cls:=.type "slice",data:=.fields #[j,i,.none] } } σ y x v j i l u d.heap.objs.size Q N Y (Heap.IsSliceOf.new ..) pl B W;show wpAny 4#0 X.A (subscriptTail e (.Slice lo hi none p2) v (.ref d.heap.objs.size)) (EP X pins σ Q) X.xe { d with heap:=d.heap.push { cls:=.type "slice",data:=.fields #[j,i,.none] } };exact tail_any (ops:=[.ref d.heap.objs.size,v]) F z G (by with_unfolding_all rfl)
def oR (xs:List V) (lo hi:Option Int):List V:=(xs.drop (HT.sIx xs.length 0 lo)).take (HT.sIx xs.length xs.length hi-HT.sIx xs.length 0 lo)
def pF (xs:List V) (lo hi:Option Int):(oR xs lo hi).length<=xs.length:=by
 unfold oR;rw [t9,D0];omega
def JG (K:PySem.W.Frag):V->Option Int->Option Int->Hp->VK->Prop:=λx lo hi H Q=>∃a xs,x=.ref a/\cG K H a xs /\
 ¬ (HT.sIx xs.length 0 lo=0/\HT.sIx xs.length xs.length hi=xs.length)/\∀p,H p=none->Q (.ref p) (upd H p (.tup (oR xs lo hi)))
def AI:IQ X (JG X.K):=by
 intro pins s σ H x v J L lo hi N Q I G F B D h;let (a,xs,rfl,y,z,q):=h;cases G;let (i,r,n,j):=I.tuple y;let d:i.toArray.size=xs.length:=by rw [p9];exact r.length.symm
 refine {"tuple",_,PyProof.Rows.slot_tuple_getitem.lookup,n.typeIs,?_};refine HT.getItem_tuple_cut n F B D (by rw [d];exact z) ?_ (by rw [d];exact j);rw [d];refine {.ref s.heap.objs.size,_,I.laid (t':=s.toks) (o:=.tup (oR xs lo hi)) (λb M q=>i8 _ q) (i7 _) ?_,rfl,q _ (I.hok.fresh (i7 _))};exact {u8 (pF xs lo hi) j,_,(r.drop (HT.sIx xs.length 0 lo)).take (HT.sIx xs.length xs.length hi-HT.sIx xs.length 0 lo),IsTup.new _ _}
end
def Pp (n:Nat) (i:Int):Option Nat:=if 0<=i then(if i<n then some i.toNat else none) else if -(n:Int)<=i then some (i+n).toNat else none
def nY {α:Type} (xs:List α) (i:Int):Option α:=(Pp xs.length i).bind λj=>xs[j]?
def Fn (h:Pp n i=some j):seqIndex? i n=some j/\j<n/\-(n:Int)<=i/\i<n:=by
 unfold Pp at h;by_cases d:0<=i
 ·rw [if_pos d] at h;by_cases h1:i<n
  ·rw [if_pos h1] at h;let e:i.toNat=j:=Option.some.inj h;exact {by rw [seqIndex_of d h1,e],∎,∎,h1}
  ·rw [if_neg h1] at h;cases h
 ·rw [if_neg d] at h;by_cases h1:-(n:Int)<=i
  ·rw [if_pos h1] at h;let e:(i+n).toNat=j:=Option.some.inj h;exact {by rw [seqIndex_neg ∎ h1,e],∎,h1,∎}
  ·rw [if_neg h1] at h;cases h
def Gg {α:Type} {xs:List α} {i:Int} {v:α} (h:nY xs i=some v):∃j,seqIndex? i xs.length=some j/\xs[j]?=some v/\j<xs.length/\-(xs.length:Int)<=i/\i<xs.length:=by
 unfold nY at h;cases e:Pp xs.length i with
 | none=>rw [e] at h;cases h
 | some j=>
  rw [e] at h;let (h1,h2,n,d):=Fn e;exact {(j),h1,h,h2,n,d}
def bM {α:Type} {xs:List α} {j:Nat} {v:α} (h:xs[j]?=some v):nY xs (j:Int)=some v:=by
 let d:j<xs.length:=(i5.mp h).1;let e:Pp xs.length (j:Int)=some j:=by
  unfold Pp;rw [if_pos ∎,if_pos ∎];simp
 unfold nY;rw [e];exact h
def Qz (xs:List α) (v:α):nY (xs++[v]) (-1)=some v:=by
 let d:(xs++[v]).length=xs.length+1:=by simp
 let e:Pp (xs++[v]).length (-1)=some xs.length:=by
  unfold Pp;rw [d,if_neg 7#0,if_pos ∎];congr 1;omega
 unfold nY;rw [e];show (xs++[v])[xs.length]?=some v;simp
def qU (b:Expr):Prop:=∀o i,subscripted b false o i=operate [o,i] (getItem o i)
def LA (X:Cx) (r:R2):Prop:=
 ∀(value slice:Expr) (pins:List 10#0) (s:Shared) (σ:St) (H:Hp) (x y:V) (v u:Value) (Q:VK),aW X pins σ H s->bF x v->bF y u->r x y H Q ->
  subscripted slice false v u=operate [v,u] (getItem v u)->wpAny 4#0 X.A (subscriptTail value slice v u) (EP X pins σ Q) X.xe s
def KW (X:Cx) (id:String) (r:V->List V->Hp->VK->Prop):Prop:=
 ∀(pins:List 10#0) (s:Shared) (σ:St) (H:Hp) (x:V) (xs:List V) (v:Value) (us:List Value) (Q:VK),aW X pins σ H s->bF x v->bB xs us->r x xs H Q ->
  wpAny 4#0 X.A (call (.builtin id) (v::us)) (EP X pins σ Q) X.xe s
section
variable {X:Cx} {a b:Expr} {ta tb:TE} {pos:Pos}
def bY (d:LA X r) (z:PE X a ta) (i:PE X b tb) (n:qU b):PE X (.Subscript a b pos) (Jm r ta tb):=by
 intro pins s σ H Q I h;exact Subscript_ (DH z i I h λv u B x y H2 j D F q=>d a b pins B σ H2 x y v u Q j D F q (n _ _))
inductive DZ (K:PySem.W.Frag) (x y:V) (H:Hp) (Q:VK):Prop|mk (p:_) (xs:_) (i:_) (v:_) (_:x=.ref p) (_:y=.int i) (_:cM K H p xs) (_:nY xs i=some v) (_:Q v H)
def JL (K:PySem.W.Frag):R2:=λx y H Q=>DZ K x y H Q
inductive DY (K:PySem.W.Frag) (x y:V) (H:Hp) (Q:VK):Prop|mk (p:_) (xs:_) (i:_) (v:_) (_:x=.ref p) (_:y=.int i) (_:cG K H p xs) (_:nY xs i=some v) (_:Q v H)
def gO (K:PySem.W.Frag):R2:=λx y H Q=>DY K x y H Q
def fJ:LA X (JL X.K):=by
 intro value slice pins s σ H x y v u Q I rx ry h hs;let (p,xs,i,z,rfl,rfl,hq,he,q):=h;cases rx;let (t,rfl):=ry;let (its,r,pl,hz):=I.list hq;let (j,h1,h2,h3,h4,h5):=Gg he;let (w,ew,rw'):=r.get h2;let hl:=r.length;let hn:=oN;let fin:EP X pins σ Q w s:={(z),H,I,rw',q};by_cases h0:0<=i
 ·let hj:i.toNat=j:=by
   rw [seqIndex_of h0 h5] at h1;exact Option.some.inj h1
  exact item_listR pl.isList h0 ∎ (by rw [hj];simpa using ew) fin hs
 ·let hj:(i+(its.toArray.size:Int)).toNat=j:=by
   rw [seqIndex_neg ∎ h4] at h1;rw [p9,<- hl];exact Option.some.inj h1
  exact subscriptTail_builtinR (x:=w) pl.isList.typeIs slot_list_getitem.lookup
   (wpAny_getItem_list_neg (Q:=λr s'=>r=w/\EP X pins σ Q r s') pl.isList ∎ (by rw [p9] <;> omega) ∎ (by rw [hj];simpa using ew) {(rfl),fin}) hs
def bQ:LA X (gO X.K):=by
 intro value slice pins s σ H x y v u Q I rx ry h hs;let (p,xs,i,z,rfl,rfl,hq,he,q):=h;cases rx;let (t,rfl):=ry;let (its,r,pl,hz):=I.tuple hq;let (j,h1,h2,h3,h4,h5):=Gg he;let (w,ew,rw'):=r.get h2;let hl:=r.length;let hn:=oN;let fin:EP X pins σ Q w s:={(z),H,I,rw',q};exact subscriptTail_builtinR (x:=w) pl.typeIs slot_tuple_getitem.lookup
  (getItem_tuple (j:=j) (Q:=λr s'=>r=w/\EP X pins σ Q r s') pl ∎ ∎ (by rw [p9,<- hl];exact h1) (by simpa using ew) {(rfl),fin}) hs
def Ca (d:List Value) (n j:Nat) (u:Value):Obj.mapSeq (·.setIfInBounds j u) { cls:=.type "list",data:=.seq d.toArray n }={ cls:=.type "list",data:=.seq (d.set j u).toArray n }:=by
 simp [Obj.mapSeq]
theorem aW.lst {pins:List 10#0} {σ:St} {H:Hp} {s:Shared} {p:Addr} {xs:List V} (I:5#0) (h:H p=some (.lst xs)):
  ∃(d:List Value) (n:Nat),bB xs d/\s.heap.get? p=some { cls:=.type "list",data:=.seq d.toArray n }/\xs.length<=sizeLine:=by
 let (z,d,n,r,e):=I.hok p _ h;exact {(d),n,r,e,z}
def aW.lstUpd {pins:List 10#0} {σ:St} {H:Hp} {s:Shared} {p:Addr} {xs ys:List V} {d its':List Value} {n i:Nat} {f:Obj->Obj} (I:5#0) (h:H p=some (.lst xs))
  (B:s.heap.get? p=some { cls:=.type "list",data:=.seq d.toArray n }) (j:f { cls:=.type "list",data:=.seq d.toArray n }={ cls:=.type "list",data:=.seq its'.toArray i }) (r:bB ys its') (y:ys.length<=sizeLine) (t:Nat):
  aW X pins σ (upd H p (.lst ys)) { s with heap:=s.heap.update p f,toks:=t }:=by
 let e:(s.heap.update p f).get? p=some { cls:=.type "list",data:=.seq its'.toArray i }:=by
  rw [J3 f B (by rw [j] <;> rfl),j]
 refine I.write (x:=p) (e:=p) (by rw [h];trivial) (.inl rfl) (λb u z q=>(A7 _ _ (F7 z)).trans q) {_,e} ?_;exact {(y),its',i,r,e}
def GF:V->V->V->Hp->(Hp->Prop)->Prop:=λo i v H Q=>∃p xs k j,o=.ref p/\i=.int k/\H p=some (.lst xs)/\Pp xs.length k=some j/\Q (upd H p (.lst (xs.set j v)))
def Ku:ID X GF:=by
 intro pins s σ H o i v ov iv u Q I ro ri rv h;let (p,xs,k,j,rfl,rfl,hp,hj,q):=h;cases ro;let (t,rfl):=ri;let (its,n,r,ho,hz):=I.lst hp;let (h1,h2,h3,h4):=Fn hj;let hl:=r.length;let hn:=oN;let I':aW X pins σ (upd H p (.lst (xs.set j v))) { s with heap:=s.heap.update p (Obj.mapSeq (·.setIfInBounds j u)) }:=
  I.lstUpd hp ho (Ca its n j u) (r.set rv j) (by rw [R9];exact hz) s.toks
 by_cases h0:0<=k
 ·let hk:k.toNat=j:=by
   rw [seqIndex_of h0 h4] at h1;exact Option.some.inj h1
  exact PySem.W.ki_setAt ho h0 ∎ (by rw [p9,<- hl];exact h4) (by rw [hk];exact {_,I',q})
 ·let hk:(k+(its.toArray.size:Int)).toNat=j:=by
   rw [seqIndex_neg ∎ h3] at h1;rw [p9,<- hl];exact Option.some.inj h1
  exact PySem.W.ki_setBack ho ∎ (by rw [p9,<- hl];exact h3) ∎ (by rw [hk];exact {_,I',q})
def wA (lo hi:Option Int) (n:Nat):(sliceBounds lo hi none n).1=((HT.sIx n 0 lo:Nat):Int)/\(sliceBounds lo hi none n).2.1=((HT.sIx n n hi:Nat):Int)/\(sliceBounds lo hi none n).2.2=1:=by
 refine {?_,?_,rfl}
 ·cases lo with
  | none=>simp [sliceBounds,HT.sIx]
  | some i=>
   simp only [sliceBounds,HT.sIx,Option.getD_none,show (1:Int) > 0 by decide,if_true];by_cases h:i<0
   ·simp only [h,if_true] <;> omega
   ·simp only [h,if_false] <;> omega
 ·cases hi with
  | none=>simp [sliceBounds,HT.sIx]
  | some i=>
   simp only [sliceBounds,HT.sIx,Option.getD_none,show (1:Int) > 0 by decide,if_true];by_cases h:i<0
   ·simp only [h,if_true] <;> omega
   ·simp only [h,if_false] <;> omega
def tX (d:List Value) (lo hi:Option Int):slicePick d.toArray lo hi none=((d.drop (HT.sIx d.length 0 lo)).take (HT.sIx d.length d.length hi-HT.sIx d.length 0 lo)).toArray:=by
 let (h1,h2,i):=wA lo hi d.toArray.size;unfold slicePick;rw [h1,h2,i];simp only [sliceRange_one,pick_run,p9] <;> rfl
def JH (K:PySem.W.Frag):V->Option Int->Option Int->Hp->VK->Prop:=λx lo hi H Q=>∃a xs,x=.ref a/\cM K H a xs/\∀p,H p=none->Q (.ref p) (upd H p (.lst (oR xs lo hi)))
def Dv:IQ X (JH X.K):=by
 intro pins s σ H x v G J lo hi M Q I F B y z h;let (a,xs,rfl,n,q):=h;cases F;let (D,r,i,j):=I.list n;let d:=r.length;refine {"list",_,slot_list_getitem.lookup,i.isList.typeIs,?_};refine wpAny_getItem_list_slice i.isList B y z .none 6#0 ?_ (by rw [p9] <;> omega);rw [tX,<- d];refine {.ref s.heap.objs.size,_,I.laid (t':=s.toks) (o:=.lst (oR xs lo hi)) (λb L q=>i8 _ q) (i7 _) ?_,rfl,q _ (I.hok.fresh (i7 _))};exact {u8 (pF xs lo hi) j,_,0,(r.drop (HT.sIx xs.length 0 lo)).take (HT.sIx xs.length xs.length hi-HT.sIx xs.length 0 lo),n9 _ rfl}
def pE:V->Bool
 | .non=>true
 | .bl _=>true
 | .int _=>true
 | .str _=>true
 | _=>false
def Za:V->V->Bool
 | .non,.non=>true
 | .bl a,.bl b=>a == b
 | .bl a,.int b=>(if a then 1 else 0) == b
 | .int a,.bl b=>a == (if b then 1 else 0)
 | .int a,.int b=>a == b
 | .str a,.str b=>a == b
 | _,_=>false
def DA {A:Around} {s:Shared} {y x:V} {u v:Value} (n:bF y u) (d:bF x v) (q:pE y=true) (j:pE x=true):SeqAt.EqAt A s u v (Za y x):=by
 cases y with
 | non=>
  cases n;cases x with
  | non=>cases d;exact SeqAt.EqAt.same _
  | bl b=>cases d;exact SeqAt.EqAt.none_bool b
  | int b=>let (t,rfl):=d;exact SeqAt.EqAt.none_int b t
  | str b=>let (t,rfl):=d;exact SeqAt.EqAt.none_str b t
  | _=>exact absurd (show false=true from j) r6
 | bl a=>
  cases n;cases x with
  | non=>cases d;exact SeqAt.EqAt.bool_none a
  | bl b=>cases d;exact SeqAt.EqAt.bool_bool a b
  | int b=>let (t,rfl):=d;exact SeqAt.EqAt.bool_int a b t
  | str b=>let (t,rfl):=d;exact SeqAt.EqAt.bool_str a b t
  | _=>exact absurd (show false=true from j) r6
 | int a=>
  let (i,rfl):=n;cases x with
  | non=>cases d;exact SeqAt.EqAt.int_none a i
  | bl b=>cases d;exact SeqAt.EqAt.int_bool a i b
  | int b=>let (t,rfl):=d;exact SeqAt.EqAt.int_int a i b t
  | str b=>let (t,rfl):=d;exact SeqAt.EqAt.int_str a i b t
  | _=>exact absurd (show false=true from j) r6
 | str a=>
  let (i,rfl):=n;cases x with
  | non=>cases d;exact SeqAt.EqAt.str_none a i
  | bl b=>cases d;exact SeqAt.EqAt.str_bool a i b
  | int b=>let (t,rfl):=d;exact SeqAt.EqAt.str_int a i b t
  | str b=>let (t,rfl):=d;exact SeqAt.EqAt.str_str a i b t
  | _=>exact absurd (show false=true from j) r6
 | _=>exact absurd (show false=true from q) r6
def Wa (x:V) (u:Value):Bool:=match u with
 | .none=>Za .non x
 | .bool b=>Za (.bl b) x
 | .int i _=>Za (.int i) x
 | .str z _=>Za (.str z) x
 | _=>false
def Qg (r:bF y u) (f:pE y=true):Wa x u=Za y x:=by
 cases y with
 | non=>cases r;rfl
 | bl b=>cases r;rfl
 | int i=>let (t,rfl):=r;rfl
 | str z=>let (t,rfl):=r;rfl
 | _=>exact absurd (show false=true from f) r6
def Gh (p:bB xs us) (f:xs.all pE=true):us.any (Wa x)=xs.any λy=>Za y x:=by
 induction p with
 | nil=>rfl
 | cons r _ t=>
  rw [List.all_cons,C6] at f;rw [K6,K6,Qg r f.1,t f.2]
def yV {A:Around} {s:Shared} {x:V} {v:Value} (d:bF x v) (i:pE x=true):∀{xs:List V} {us:List Value},bB xs us->xs.all pE=true->∀u ∈ us,SeqAt.EqAt A s u v (Wa x u):=by
 intro xs us p f u hu
 induction p with
 | nil=>cases hu
 | cons r _ t=>
  rw [List.all_cons,C6] at f;rcases i9.mp hu with rfl|hu
  ·rw [Qg r f.1];exact DA r d f.1 i
  ·exact t f.2 hu
def inV (x:V) (xs:List V):Bool:=xs.any λy=>Za y x
def ME (K:PySem.W.Frag) (neg:Bool):R2:=λx y H Q=>∃p xs,y=.ref p/\(cM K H p xs\/cG K H p xs)/\pE x=true/\xs.all pE=true/\Q (.bl (if neg then !inV x xs else inV x xs)) H
def Hk:lH X (compareOp .In) (ME X.K false):=by
 intro pins s σ H x y v u Q I z D h;let (p,xs,rfl,hq,n,fs,q):=h;cases D;rcases hq with hq|hq
 ·let (d,r,j,B):=I.list hq;refine SeqAt.in_listAt (Wa x) j.isList (λw i=>yV z n r fs w (by simpa using i)) {.bl _,H,I,rfl,?_};rw [show d.toArray.any (Wa x)=d.any (Wa x) by simp,Gh r fs];exact q
 ·let (d,r,j,B):=I.tuple hq;refine SeqAt.in_tupleAt (Wa x) j (λw i=>yV z n r fs w (by simpa using i)) {.bl _,H,I,rfl,?_};rw [show d.toArray.any (Wa x)=d.any (Wa x) by simp,Gh r fs];exact q
def cF:gN X (.builtin "len") (λxs H Q=>∃p ys,xs=[.ref p]/\(cM X.K H p ys\/cG X.K H p ys)/\Q (.int ys.length) H):=by
 intro pins s σ H xs us Q I r h;let (p,ys,rfl,hq,q):=h;let (u,rfl,rx):=jM r;cases rx;let hn:=oN;rcases hq with hq|hq
 ·let (its,r',pl,hz):=I.list hq;let hlen:=r'.length;exact Calls.call_len_list pl.isList (by simp only [p9] <;> omega) {.int ys.length,H,I.tok _,{s.toks+1,by rw [p9,hlen]},q}
 ·let (its,r',pl,hz):=I.tuple hq;let hlen:=r'.length;exact len_tuple pl (by simp only [p9] <;> omega) {.int ys.length,H,I.tok _,{s.toks+1,by rw [p9,hlen]},q}
def xA:gN X (.builtin "len") (λxs H Q=>∃z,xs=[.str z]/\z.length<=sizeLine/\Q (.int z.length) H):=by
 intro pins s σ H xs us Q I r h;let (z,rfl,hz,q):=h;let (u,rfl,t,rfl):=jM r;let hn:=oN;exact len_str ∎ {.int z.length,H,I.tok _,{_,rfl},q}
def wZ:gN X (.type "list") (λxs H Q=>∃p ys,xs=[.ref p]/\(cM X.K H p ys\/cG X.K H p ys)/\∀l,H l=none->Q (.ref l) (upd H l (.lst ys))):=by
 intro pins s σ H xs N Q I r h;let (p,ys,rfl,hq,q):=h;let (u,rfl,M):=jM r;cases M;have B:∀(d:List Value),bB ys d->ys.length<=sizeLine->∀(h':Heap) (i:Nat),(∀b o',s.heap.get? b=some o'->h'.get? b=some o') ->
   h'.get? s.heap.objs.size=some { cls:=.type "list",dict:=none,data:=.seq d.toArray i,slots:=#[] }->EP X pins σ Q (.ref s.heap.objs.size) { s with heap:=h' }:=λd j y h' i D e=>
  {.ref s.heap.objs.size,_,I.laid (t':=s.toks) D (i7 _) (show bN X.prog X.w _ h' _ (.lst ys) from {(y),d,i,j,e}),rfl,q _ (I.hok.fresh (i7 _))}
 rcases hq with hq|hq
 ·let (d,j,F,y):=I.list hq;let z:=j.length;let (o,J,G,n,L):=F.isList;exact call_list_seq p (.inl rfl) J G L (λh' i D e=>B d j y h' i D e) (by simp only [p9] <;> omega)
 ·let (d,j,F,y):=I.tuple hq;let z:=j.length;let (o,J,G,n,L):=F;exact call_list_seq p (.inr rfl) J G L (λh' i D e=>B d j y h' i D e) (by simp only [p9] <;> omega)
def dA:gN X (.type "tuple") (λxs H Q=>∃p ys,xs=[.ref p]/\((cM X.K H p ys/\∀l,H l=none->Q (.ref l) (upd H l (.tup ys)))\/(cG X.K H p ys/\Q (.ref p) H))):=by
 intro pins s σ H xs J Q I r h;let (p,ys,rfl,h):=h;let (u,rfl,D):=jM r;cases D;rcases h with ⟨n,q⟩|⟨n,q⟩
 ·let (d,j,i,y):=I.list n;let z:=j.length;refine call_tuple_list i.isList (λh' G=>?_) (by simp only [p9] <;> omega);let B:aW X pins σ H { s with heap:=h' }:=I.kept (t':=s.toks) G;let F:aW X pins σ (upd H h'.objs.size (.tup ys)) { s with heap:=h'.push { cls:=.type "tuple",data:=.seq d.toArray } }:=
   B.laid (t':=s.toks) (λb o e=>i8 _ e) (i7 _) (show bN X.prog X.w _ _ _ (.tup ys) from {y,d,j,IsTup.new _ _})
  exact {.ref h'.objs.size,_,F,rfl,q _ (B.hok.fresh (i7 _))}
 ·let (d,j,i,y):=I.tuple n;exact call_tuple_same i {.ref p,H,I,rfl,q}
def IU (K:PySem.W.Frag) (T:String) (x:V) (H:Hp):Prop:=match x with
 | .str _=>T="str"
 | .int _=>T="int"
 | .ref p=>(T="list"/\∃xs,cM K H p xs)\/(T="tuple"/\∃o,K.lookup p=some o/\o.cls=.type "tuple"/\o.dict=none) \/
   (T="dict"/\((∃kvs,H p=some (.dK kvs))\/∃kvs,H p=some (.dT kvs)))\/(T="set"/\∃S n,H p=some (.set S n))
 | _=>False
def Jy {pins:List 10#0} {σ:St} {H:Hp} {s:Shared} {T:String} {x:V} {v:Value} (I:5#0) (r:bF x v) (j:IU X.K T x H):
  s.TypeIs v T/\∀a,v=.ref a->∃F,s.heap.get? a=some F/\F.dict=none:=by
 cases x with
 | str z=>
  let (t,rfl):=r;cases (show T="str" from j);exact {typeIs_str s z t,λ_ e=>nomatch e}
 | int i=>
  let (t,rfl):=r;cases (show T="int" from j);exact {typeIs_int s i t,λ_ e=>nomatch e}
 | ref p=>
  cases r;rcases j with ⟨rfl,xs,L⟩|⟨rfl,o,d,G,B⟩|⟨rfl,d⟩|⟨rfl,S,n,d⟩
  ·let (J,_,D,_):=I.list L;refine {D.isList.typeIs,λa e=>?_};cases e;let (o,n,e,c,B,_):=D;exact {(o),e,B}
  ·refine {{o,I.kIn p o d,G},λa e=>?_};cases e;exact {o,I.kIn _ o d,B}
  ·let z:∃o,s.heap.get? p=some o/\o.ExactDict:=by
    rcases d with ⟨q,d⟩|⟨q,d⟩
    ·let (_,_,_,_,o,_,_,e,ex,_):=I.hok p _ d;exact {(o),e,ex}
    ·let (_,_,_,_,o,_,_,e,ex,_):=I.hok p _ d;exact {(o),e,ex}
   let (o,e,ex):=z;refine {{(o),e,ex.1},λa y=>?_};cases y;exact {(o),e,ex.2.1}
  ·let (o,_,_,_,e,ex,_):=I.hok p _ d;refine {{(o),e,ex.1},λa y=>?_};cases y;exact {(o),e,ex.2.1}
 | _=>exact False.elim j
def FN (K:PySem.W.Frag) (T:String) (r:V->List V->Hp->VK->Prop) (to:TE):TE:=λσ H Q=>to σ H λx H1=>IU K T x H1/\r x [] H1 Q
def JB (K:PySem.W.Frag) (T:String) (r:V->List V->Hp->VK->Prop) (to:TE) (t:TA):TE:=λσ H Q=>to σ H λx H1=>IU K T x H1/\t σ H1 λxs H2=>r x xs H2 Q
variable {o e:Expr} {es:List Expr} {to:TE} {t:TA} {name:Str} {apos cpos:Pos} {T id:String} {r:V->List V->Hp->VK->Prop}
def BH (F:PlainAttrs T) (j:Slot T name id) (q:typeOf (.builtin id)=pure (.type "method_descriptor")) (D:KW X id r) (J:PE X o to)
  (i:attributeBase o name X.env (eval o X.env)=eval o X.env:=by rfl) (d:(apos.endLine == cpos.line)=true:=by rfl):PE X (.Call (.Attribute o name apos) [] [] cpos) (FN X.K T r to):=by
 intro pins s σ H Q I h;refine wpAny_Call_method0_late i d (eN (J s σ H _ I h) λv L x H1 y z n=>?_);let (B,G):=n;let (h1,h2):=Jy y z B;exact {T,id,F,j,q,h1,h2,L7 rfl (PySem.evalArgs_none (D pins L σ H1 x [] v [] Q y z .nil G))}
def oY (Y:PlainAttrs T) (q:Slot T name id) (z:typeOf (.builtin id)=pure (.type "method_descriptor")) (W:KW X id r) (N:PE X o to) (O:PA X (e::es) t)
  (i:attributeBase o name X.env (eval o X.env)=eval o X.env:=by rfl)
  (n:((backTo cpos (starEach (e::es) X.env)).all (λx=>!x.1) && (backToKw cpos (keywordEach [] X.env)).all (λx=>x.1.isSome)
   && decide ((e::es).length+([]:List Keyword).length+(if ([]:List Keyword).isEmpty then 0 else 1)<30))=true:=by rfl)
  (j:(apos.endLine == cpos.line)=true:=by rfl) (M:starEach (e::es) X.env=(false,eval e X.env)::starEach es X.env:=by rfl) (d:(backTo cpos (starEach es X.env)).any (·.1)=false:=by rfl):
  PE X (.Call (.Attribute o name apos) (e::es) [] cpos) (JB X.K T r to t):=by
 intro pins s σ H Q I h;refine wpAny_Call_method_late i n j rfl (eN (N s σ H _ I h) λv J x H1 B F y=>?_);let (L,Z):=y;let (h1,h2):=Jy B F L;refine {T,id,Y,q,z,h1,h2,?_};let D:=@O cpos pins J σ H1 _ B Z;rw [M] at D ⊢;refine L7 (by show (false || (backTo cpos (starEach es X.env)).any (·.1))=false;rw [d] <;> rfl) (N0 ?_);exact fY D λG U ⟨S,H2,I2,r2,q2⟩=>W pins U σ H2 x S v G Q I2 F r2 q2
end
def LX (X:Cx) (id:String) (r:V->List V->Hp->VK->Prop):Prop:=
 ∀(pins:List 10#0) (s:Shared) (σ:St) (H:Hp) (x:V) (xs:List V) (v:Value) (us:List Value) (Q:VK),aW X pins σ H s->bF x v->bB xs us->r x xs H Q ->
  wpAny 4#0 X.A (call (.builtin id) (v::us)) (EP X pins σ Q) X.xe s
def bB.zero (h:bB [] us):us=[]:=by
 cases h;rfl
def bB.one (h:bB [x] us):∃u,us=[u]/\bF x u:=by
 cases h with
 | cons r t=>cases bB.zero t;exact {_,rfl,r}
theorem bB.rep (h:bB xs us):∀k:Nat,bB (List.replicate k xs).flatten (List.replicate k us).flatten
 | 0=>.nil
 | k+1=>by
  rw [K5,K5,P8,P8]
  exact bB.append h (bB.rep h k)
theorem vB (d:List Value):∀(k:Nat) (i:List Value),
  List.foldl (λj q=>j++q) i.toArray (List.replicate k d.toArray)=(i++(List.replicate k d).flatten).toArray
 | 0,i=>by simp
 | k+1,i=>by
  let e:i.toArray++d.toArray=(i++d).toArray:=by simp
  let n:(i++d)++(List.replicate k d).flatten=i++(List.replicate (k+1) d).flatten:=by
   rw [K5,P8,w8]
  rw [<- n,<- vB d k (i++d),<- e,K5,List.foldl_cons]
section
variable {X:Cx} {pins:List (Addr × Obj)} {σ:St} {H:Hp} {s:Shared} {l b:Addr} {xs ys zs:List V}
def aW.lset {d its':List Value} {n:Nat} {f:Array Value->Array Value} {t':Nat} (I:5#0) (D:H l=some (.lst xs))
  (e:s.heap.get? l=some { cls:=.type "list",data:=.seq d.toArray n }) (y:f d.toArray=its'.toArray) (j:bB ys its') (i:ys.length<=sizeLine):
  aW X pins σ (upd H l (.lst ys)) { s with heap:=s.heap.update l (Obj.mapSeq f),toks:=t' }:=by
 let q:=PySem.IsL.update e f;rw [y] at q;refine I.write (x:=l) (e:=l) (by rw [D];exact trivial) (.inl rfl) (λF u z B=>(A7 s.heap (Obj.mapSeq f) (F7 z)).trans B) {_,q} ?_;exact {i,its',_,j,q}
def aW.lnew (I:5#0) (i:bB ys d) (j:ys.length<=sizeLine):
  aW X pins σ (upd H s.heap.objs.size (.lst ys)) { s with heap:=s.heap.push { cls:=.type "list",data:=.seq d.toArray },toks:=t' }:=
 I.laid (λ_ _ q=>i8 _ q) (i7 _) {j,d,0,i,n9 _ rfl}
theorem aW.fresh (I:5#0):H s.heap.objs.size=none:=I.hok.fresh (i7 _)
def aW.lstM (I:5#0) (i:H l=some (.lst xs)):xs.length<=sizeLine/\∃(d:List Value) (n:Nat),bB xs d/\xs.length=d.length/\s.heap.get? l=some { cls:=.type "list",data:=.seq d.toArray n }:=by
 let (z,d,n,r,e):=I.hok l _ i;exact {(z),d,n,r,r.length,e}
def Os (h:n<=sizeLine):Builtin.List.listTooLong n=false:=by
 unfold Builtin.List.listTooLong;exact decide_eq_false ∎
end
section
variable {X:Cx}
def wK:V->List V->Hp->VK->Prop:=λx vs H Q=>∃l xs y,x=.ref l/\vs=[y]/\H l=some (.lst xs)/\xs.length<sizeLine/\Q .non (upd H l (.lst (xs++[y])))
def eJ:LX X "list.append" wK:=by
 intro pins s σ H x M v J Q I D j h;let (l,xs,y,rfl,rfl,i,G,q):=h;cases D;let (u,rfl,B):=j.one;let (z,d,n,r,L,e):=I.lstM i;refine call_meets F.slot_list_append {_,e,rfl} F.entry_list_append (F.args_list_append_2 _ _) (PySem.list_append l d.toArray n u (by rw [p9];omega)) {e,?_};refine {.non,_,I.lset (its':=d++[u]) i e 6#0 (r.append (.cons B .nil)) ?_,rfl,q};rw [p8,M5];omega
def GK:R2:=λx y H Q=>∃l b xs zs,x=.ref l/\y=.ref b/\H l=some (.lst xs)/\H b=some (.lst zs)/\xs.length+zs.length<=sizeLine/\∀p,H p=none->Q (.ref p) (upd H p (.lst (xs++zs)))
def jS:lH X (binaryOp .Add) GK:=by
 intro pins s σ H x y v u Q I J M h;let (l,b,xs,zs,rfl,rfl,F,B,O,q):=h;cases J;cases M;let (z,i,n,r,S,e):=I.lstM F;let (U,d,N,D,L,j):=I.lstM B;refine PySem.P.add_list e j ?_ (by rw [p9,p9];omega);let G:i.toArray++d.toArray=(i++d).toArray:=by simp
 rw [G];exact {.ref _,_,I.lnew (t':=s.toks) (r.append D) (by rw [p8];omega),rfl,q _ I.fresh}
def GG:R2:=λx y H Q=>∃l k xs,x=.ref l/\y=.int k/\H l=some (.lst xs)/\-(2 ^ 63)<=k/\k<2 ^ 63/\xs.length * k.toNat<=sizeLine /\
 ∀p,H p=none->Q (.ref p) (upd H p (.lst (List.replicate k.toNat xs).flatten))
def wV (xs:List α) (k:Nat):(List.replicate k xs).flatten.length=k * xs.length:=by
 induction k with
 | zero=>simp
 | succ k ih=>rw [K5,P8,p8,ih,Nat.succ_mul,Nat.add_comm]
def rY:lH X (binaryOp .Mult) GG:=by
 intro pins s σ H x y v u Q I rx ry h;let (l,k,xs,rfl,rfl,hH,h1,h2,hz,q):=h;cases rx;let (t,rfl):=ry;let (z,its,n,r,hl,e):=I.lstM hH
 let hlen:its.toArray.size * k.toNat<=sizeLine:=by rw [p9,<- hl];exact hz
 let hcap:¬ its.toArray.size * k.toNat > (2 ^ 63-1) / 8:=by
  have:(sizeLine:Nat)<=(2 ^ 63-1) / 8:=by decide
  omega
 let hfit:¬ (!Builtin.List.listFitsIndex k)=true:=by
  rw [fitsIndex_both h1 h2];exact r6
 let hlong:¬ Builtin.List.listTooLong (its.toArray.size * k.toNat)=true:=by
  rw [Os hlen];exact r6
 let hnew:List.foldl (λx1 x2=>x1++x2) #[] (List.replicate (if its.toArray.isEmpty=true then 0 else k.toNat) its.toArray)=(List.replicate k.toNat its).flatten.toArray:=by
  let f0:∀m:Nat,List.foldl (λx1 x2=>x1++x2) #[] (List.replicate m its.toArray)=(List.replicate m its).flatten.toArray:=λm=>by
   have:=vB its m [];rw [List.nil_append] at this;exact this
  rw [f0];cases its with
  | nil=>simp
  | cons a r'=>rw [if_neg 6#0]
 refine wpAny_binaryOp_repeat_ref (T:="list") (U:="int") 7#0 {_,e,rfl} (λs'=>typeIs_int s' k t) noFill_list_mul F.fills_int_mul F.slot_int_rmul repeat_list F.slot_int_index.lookup
  (call_meets F.slot_int_rmul (typeIs_int s k t) F.entry_int_rmul (F.args_int_rmul_2 _ _) (int___rmul___int_list k t l its.toArray n)
   {e,rfl,{_,e,rfl},call_meets F.slot_list_mul {_,e,rfl} F.entry_list_mul (F.args_list_mul_2 _ _) (AutoListH.list___mul___list_int_3 l its.toArray n k t hfit hcap hlong) {e,?_}})
 rw [hnew];exact {.ref _,_,I.lnew (t':=s.toks) (r.rep k.toNat) (by rw [wV,Nat.mul_comm];exact hz),rfl,q _ I.fresh}
section
variable {prog:Program} {w:World} {A:Around} {E:Value->Shared->Prop} {s:Shared}
set_option maxRecDepth 100000 in
end
end
end L2
namespace Att
open PySem PySem.W PySem.Calls PyProof.Rows
def pL {P:Params} {h:Heap}:∀(ns:List Int) (vs:List Value),WellAll P h vs (ns.map WData.int)->IntsAre vs ns:=by
 intro ns
 induction ns with
 | nil=>
  intro vs w;rw [O9] at w;cases w;exact .nil
 | cons n ns ih=>
  intro vs w;rw [x9] at w;cases w with
  | cons a b=>
   cases a;exact .cons _ _ (ih _ b)
def Ha {l:OpenLaw} {n:Nat} (L:l.most=some n) {P:Params} {h:Heap} {args:List WData} {y:List Value}
  (j:l.row.toRowW.claim.pre args=true) (G:WellAll P h y args):
  ∃a J i,y=[Value.ref a]/\args=[WData.list (i.map WData.int)]/\h.get? a=some { cls:=.type "list",data:=.seq J.toArray }/\IntsAre J i/\i.length<=n:=by
 let F:WShape.hasAll [] args [.list .int]=true:=(pre_splitW j).1;let I:l.pre.holds [] { args:=args }=true:=(pre_splitW j).2;let (d,r,rfl,h1,h2):=hasAllW_cons F;obtain rfl:=hasAllW_nil h2;let (xs,rfl,N):=hasW_list h1;let (i,rfl):=items_int N;let z:i.length<=n:=by
  unfold OpenLaw.pre at I;let B:(WTm.not (.lt (.lit (.int (n:Int))) (.len (.arg 0)))).holds [] { args:=[.list (i.map .int)] }=true:=by
   let B:=(holds_andW I).1;rw [L] at B;exact B
  let D:=condW_of B (w_not (w_lt w_lit (w_len_list (w_arg rfl))));rw [i6] at D;refine Nat.le_of_not_lt λq=>?_;let M:(n:Int)<((i.length:Nat):Int):=∎
  first
   | (rw [decide_eq_true M] at D;exact absurd D 7#0)
   | (simp at D;omega)
 cases G with
 | cons w1 w2=>
  cases w2;cases w1 with
  | list ho hall=>exact {_,_,i,rfl,rfl,ho,pL i _ hall,z}
def Hg (l:OpenLaw) (args:List WData):l.row.toRowW.claim.post args (.bool true) args=true:=
 postW_of (r:=l.row.toRowW) (X:=(true == true))
  (show WShape.has [] (.bool true) .bool=true by first|rfl|decide|simp [WShape.has,WShape.arms,WShape.armsAll])
  (show (WTm.eq .res (.lit (.bool true))).value [] { args:=args,res:=some (.bool true),after:=args }=some (.bool (true == true)) from w_eq_bool (w_res rfl) w_lit) rfl
def attach_call {l:OpenLaw} {n:Nat} {q:Program} {j:List Str} {XP:(Str->Option Value)->Heap->Prop} {YP:World->Heap->Prop} {d:DefRec}
  (hn:l.most=some n) (S:d.params.defaults=[])
  (y:∀(w:World) (s₀ i:Shared) (mg N:Str->Option Value) (D:Addr) (o:Obj) (pm L z:Value) (a:Addr) (vs:List Value) (ns:List Int),
   Ground q j [] XP w s₀ mg N i.heap->YP w i.heap ->
   i.heap.get? D=some o->o.data=.func (docDef d.name d.params d.body d.scope pm L z)->i.heap.CodeRec L d.name->mg d.name=some (.ref D) ->
   i.heap.get? a=some { cls:=.type "list",data:=.seq vs.toArray }->IntsAre vs ns->ns.length<=n->i.gens=#[] ->
   codeAny (model l.prog w) callerA (.call (.ref D) {[.ref a],[]}) (λr s'=>r=.ok (.ret (.bool true))/\OldK i.heap s'.heap/\s'.os=i.os/\AllBare s'.gens) i):
  WalkO q j XP YP l.row.toRowW d [] (λf vs=>PySem.call f vs):=by
 intro w s₀ i mg N G Y D o pm L z dV kV ho hd M W U hg Z a1 as J a0 a3 O a2;obtain rfl:dV=.none:=Dflts.none W S;obtain rfl:kV=.none:=Dflts.noKw W;let (a,vs,ns,rfl,rfl,F,B,I):=Ha hn J O;refine enter_call (G9 (y w s₀ i mg N D o pm L z a vs ns G Y ho (fd_plain hd) M U F B I hg) λr s' hq=>?_);let (rfl,h2,h3,h4):=hq;exact {.inl {.bool true,.bool true,[],rfl,λ_=>rfl,.bool true,Hg l _,λ_=>{J7,λ_ hm=>(nomatch hm)}},h2,h3,h4}
section
variable {prog:Program} {w:World} {A:Around} {E:Value->Shared->Prop} {s:Shared} {K:Frag}
end
end Att
namespace L2
open PySem PySem.Spec PyProof.Rows
def uI (h:IntsAre vs ns):bB (ns.map V.int) vs:=by
 induction h with
 | nil=>exact .nil
 | cons n t _ h=>exact .cons {(t),rfl} h
def bD (s:Stmt) (j:Nat):Stmt:=match s with
 | .ClassDef _ _ _ body _ _ _ _ _ _ _=>body.getD j (.Pass ⟨0,0,0,0⟩)
 | _=>.Pass ⟨0,0,0,0⟩
def eS (s:Stmt):Arguments:=match s with
 | .FunctionDef _ a _ _ _ _ _ _ _ _=>a
 | _=>{ posonlyargs:=[],args:=[],vararg:=none,kwonlyargs:=[],kw_defaults:=[],kwarg:=none,defaults:=[] }
def bG (s:Stmt):List Stmt:=match s with
 | .FunctionDef _ _ b _ _ _ _ _ _ _=>b
 | _=>[]
def aG (s:Stmt):Scope:=match s with
 | .FunctionDef _ _ _ _ _ _ sc _ _ _=>sc
 | _=>{ kind:=.function,names:=[],isGenerator:=false,isCoroutine:=false }
abbrev dI:pK:=λ_ _ _ _ _ _=>False
abbrev E0:XK:=λ_ _ _=>False
def aO {X:Cx}:eV dI X E0:=λ_ _ _ _ _ _ _ h=>h.elim
structure qW (K:PySem.W.Frag) (x qual:Str) (st:Stmt) (f:Addr) (fd:FuncData):Prop where
 ex:∃(oc:Value) (od:Option Addr) (kV doc pm:Value) (an:Option Addr) (cdv ct:Value) (osl:Array (Option Value)),
  fd=PySem.W.fnOf x qual (eS st) (bG st) (aG st) .none kV doc pm an cdv ct/\K.lookup f=some ⟨oc,od,.func fd,osl⟩/\PySem.W.codeIn K cdv qual=true
 kp:PySem.W.keepIn K (.ref f)=true
section
variable {P:Program} {w:World} {K:PySem.W.Frag} {mg:Str->Option Value} {base:Heap}
def qW.ok {x d:Str} {st:Stmt} {f:Addr} {fd:FuncData} {N ps:List Str} {k:Nat} {sp:Sp} (F:qW K x d st f fd) (S:aK N ps (aG st)) (n:∀vs H Q E,sp vs H Q E->vs.length=ps.length)
  (i:∀(cdv:Value) (A:Around) (outer:List Env) (s:Shared) (H:Hp) (vs:List V) (Q:VK) (E:XK),Room k (A.deeper (envOfC d (aG st) s.heap.objs.size f cdv))->sp vs H Q E ->
   ∃t,pJ (hU dI P w K mg base N d (aG st) f cdv A outer s H E).nox (bG st) t/\t { nx:=λ_ H'=>Q .non H',rt:=Q } (dB N vs) H):bH P w K mg base dI (k+1) f fd ps sp:=by
 let (L,J,kV,D,M,O,cdv,I,G,rfl,z,j):=F.ex;refine Qe z j S n λA outer s H vs Q E B y=>?_;let (t,h,q):=i cdv A outer s H vs Q E B y;exact {(t),h.nox,q}
def qW.binds {x d:Str} {st:Stmt} {f:Addr} {fd:FuncData} {ps:List Str} (F:qW K x d st f fd)
  (h:∀(kV i pm:Value) (j:Option Addr) (cdv ct:Value) (us:List Value),us.length=ps.length->bindArgs (PySem.W.fnOf x d (eS st) (bG st) (aG st) .none kV i pm j cdv ct) {us,[]}=pure (ps.zip us)):eW K fd ps []:=by
 let (B,z,kV,i,pm,j,cdv,ct,q,rfl,y,n):=F.ex;exact .all (h kV i pm j cdv ct)
def Ch {x d:Str} {st:Stmt} {f:Addr} {y:Value} {q n:Option Addr} {j:Array (Option Value)} {kV i pm cdv ct:Value} (l:K.lookup f=some {y,q,.func (PySem.W.fnOf x d (eS st) (bG st) (aG st) .none kV i pm n cdv ct),j})
  (c:PySem.W.codeIn K cdv d=true) (k:PySem.W.keepIn K (.ref f)=true):qW K x d st f (PySem.W.fnOf x d (eS st) (bG st) (aG st) .none kV i pm n cdv ct):={{(y),q,kV,i,pm,n,cdv,ct,j,rfl,l,c},k}
end
def jY {A:Around} {k:Nat} (d:Room k A):A.units+1<cLine:=P0 (Nat.add_le_add_left (by decide:1<=64) _) d.units
def iF (h:n<=1000):n<sizeLine:=P0 h 7#0
section
variable {X:Cx}
def pv (i:Nat) {x:Str} {pos:Pos} (q:X.N[i]?=some x:=by rfl) (j:ED X.env.scope x:=by first|exact j9 rfl|exact K9 (j9 rfl)|exact K9 (K9 rfl)) (n:(x == ("__debug__":Str))=false:=by decide)
  (d:(x == ("__classdict__":Str))=false:=by decide):PE X (.Name x pos) (iU i):=Nc q j n d
end
def dE {A B:Prop} (h:B):if false=true then A else B:=by
 rw [if_neg r6];exact h
def dD {A B:Prop} (h:A):if true=true then A else B:=by
 rw [if_pos rfl];exact h
def fE {c A B:Prop} [Decidable c] (h1:c->A) (h2:¬ c->B):if c then A else B:=by
 by_cases h:c
 ·rw [if_pos h];exact h1 h
 ·rw [if_neg h];exact h2 h
def Fo {c A B:Prop} [Decidable c] (d:c) (h:B):if (!decide c)=true then A else B:=by
 rw [decide_eq_true d];exact dE h
def aJ (H H':Hp):Prop:=∀b o,H b=some o->H' b=some o
def aJ.refl (H:Hp):aJ H H:=λ_ _ h=>h
def aJ.trans (a:aJ H H1) (b:aJ H1 H2):aJ H H2:=λc o h=>b c o (a c o h)
def aJ.free {H H':Hp} (e:aJ H H') {l:Addr} (h:H' l=Option.none):H l=Option.none:=by
 cases q:H l with
 | none=>rfl
 | some o=>
  rw [e l o q] at h;cases h
def aJ.seq {K:PySem.W.Frag} {H H':Hp} {a:Addr} {xs:List V} (e:aJ H H') (h:cM K H a xs):cM K H' a xs:=by
 rcases h with (h|⟨o,h⟩)|h
 ·exact .inl (.inl (e _ _ h))
 ·exact .inl (.inr {o,e _ _ h})
 ·exact .inr h
end L2
namespace Hd
open PySem PyProof.Rows
section
variable {M:Model} {A:Around} {E:Value->Shared->Prop} {s:Shared}
def NoCtx (h:Addr) (hp:Heap):Prop:=∃oh fs,hp.get? h=some oh/\oh.data=.fields fs/\fs[2]?=some .none
def NoCtx.other (x:NoCtx e h) (k:h'.get? e=h.get? e):NoCtx e h':=by
 let (o,a,z,r):=x;exact {o,a,k.trans z,r}
def Qi {bs:Heap} {env:Env} {rest:List Env} {L e:Addr} {o:Obj} {fs:Array Value} {K C:Value} {nx:Bool} {Q:Unit->Shared->Prop}
  (u:A.frames=some (env::rest)) (t:s.heap.FunFrames bs (env::rest)) (fr:env.frame=some L) (v:s.heap.get? e=some o) (st:bs.StaysIn s.heap) (T:bs.get? e=none)
  (r:o.data=.fields fs) (O:fs[0]?=some C) (J:fs[2]?=some .none)
  (q:∀y,Heap.NotedW bs (env::rest) e o.cls C (rawInt L) s.heap y->NoCtx e y->Q () { s with heap:=y }):
  wpAny M A (do let a <- frameOf env;let n <- entryPlaceOf L nx;let b <- EntryCells.newEntry K a .none (rawInt L) .none n;setField (.ref e) 1 b) Q E s:=by
 let B:e ∉ (env::rest).filterMap (·.frame):=λz=>by
  let (_,c,H,j):=t.mem z;rw [v] at H;cases H;exact j fs r
 let N:2<fs.size:=(N7.mp J).1;refine g7 (wpAny_frameOf_fun u t fr λg p=>g7 (wpAny_entryPlaceOf λn x=>?_));unfold EntryCells.newEntry newFields;refine g7 (C2 ?_ (x.sizeOk5 _ _ _ _ _));generalize hr:([K,Value.ref L,Value.none,rawInt L,Value.none]++(if n.isEmpty then List.replicate 6 Value.none else n)).toArray=row
 let l:row[3]?=some (rawInt L):=by rw [<- hr];simp
 let F:g.get? e=some o:=(p.2.1 e B).trans v;let D:bs.StaysIn g:=λb c z=>(p.2.1 b λw=>by rw [(t.mem w).1] at z;cases z).trans (st b c z);let k:g.objs.size≠e:=λz=>absurd (j6 F) (by rw [z];exact A5 _);let G:=i8 (h:=g) { cls:=.type "traceback",dict:=none,data:=.fields row } F;refine F8 G r ∎ ?_;let i:=P1 r (·.setIfInBounds 1 (Value.ref g.objs.size));let m:=J3 (Obj.mapFields (·.setIfInBounds 1 (Value.ref g.objs.size))) G (R6 i);let d:∀b c,b≠e->g.get? b=some c->((g.push { cls:=.type "traceback",dict:=none,data:=.fields row }).update e (Obj.mapFields (·.setIfInBounds 1 (Value.ref g.objs.size)))).get? b=some c:=λb c S z=>by
  rw [A7 _ _ (λw=>S w.symm)];exact i8 _ z
 let f:∀b c,s.heap.get? b=some c->(∀P,c.data≠.fields P)->b≠e:=λb c z j w=>by
  subst w;rw [v] at z;cases z;exact j fs r
 refine q _ {λb c z=>d b c (λw=>by rw [w,T] at z;cases z) (D b c z),t.of_keeps λb c z j=>?_,?_,λb c z j=>?_} {_,_,m,i,by rw [Array.getElem?_setIfInBounds_ne 7#0];exact J}
 ·let (I,w):=p.2.2 b c z;exact {_,d b _ (f b c z j) w,rfl}
 ·refine {_,fs.setIfInBounds 1 (.ref g.objs.size),g.objs.size,{ cls:=.type "traceback",dict:=none,data:=.fields row },row,m,{Obj.cls_mapFields _ _,by rw [Array.getElem?_setIfInBounds_ne 7#0];exact O},i,by rw [Array.getElem?_setIfInBounds_self,if_pos ∎],D.fresh,k,?_,rfl,l};rw [A7 _ _ (F7 k)];exact n9 g rfl
 ·let (I,w):=p.2.2 b c z;exact {I,d b _ (f b c z j) w}
def Yq {bs:Heap} {env:Env} {rest:List Env} {L e:Addr} {cls m:Value} {Q:Unit->Shared->Prop}
  (h:A.frames=some (env::rest)) (fr:env.frame=some L) (G:Heap.FlyingW bs (env::rest) e cls m s.heap) (v:NoCtx e s.heap)
  (q:∀g,Heap.NotedW bs (env::rest) e cls m (rawInt L) s.heap g->NoCtx e g->Q () { s with heap:=g }):wpAny M A (noteFrame (.ref e) env) Q E s:=by
 let (J,I,K,o,P,T,O,x,i,(t,y),k,D,H,B,l,j,r):=G;let (a,F,n,p,N):=v;rw [i] at n;cases n;rw [k] at p;cases p;subst t;unfold noteFrame;simp only [fr];refine g7 (z9 i k D ?_);rw [if_pos (by simp:(Value.ref T != Value.none)=true)];refine g7 (z9 l j r ?_);rw [if_neg (by simp [rawInt]:¬ ((Value.none == rawInt L)=true))];refine g7 (F8 l j (N7.mp r).1 ?_);let c:∀b,b≠T->(s.heap.update T (Obj.mapFields (·.setIfInBounds 3 Value.none))).get? b=s.heap.get? b:=λb z=>A7 _ _ (λw=>z w.symm);let d:∀b a,s.heap.get? b=some a->(∀C,a.data≠.fields C)->b≠T:=λb a z f w=>by
  subst w;rw [l] at z;cases z;exact f x j
 refine Qi h (K.of_keeps λb a z f=>{a,(c b (d b a z f)).trans z,rfl}) fr ((c e (F7 B)).trans i) (λb a z=>(c b λw=>by rw [w,H] at z;cases z).trans (J b a z)) I k y N λg ⟨u,x2,x3,x4⟩ nc'=>?_;exact q g {u,x2,x3,λb a z f=>x4 b a ((c b (d b a z f)).trans z) f} nc'
def Tl {bs:Heap} {l:List Env} {e:Addr} {cls m F:Value} {Q:Unit->Shared->Prop} (st:bs.StaysIn s.heap) (H:s.heap.FunFrames bs l) (D:s.heap.TracedAtW bs e cls m F) (y:NoCtx e s.heap)
  (q:∀h',bs.StaysIn h'->h'.FunFrames bs l->h'.TracedW bs e cls m->s.heap.UpToSlots h'->NoCtx e h'->Q () { s with heap:=h' }):wpAny M A (setFlight (.ref e) none) Q E s:=by
 let (o,B,T,I,n,r,x,v,t,u,j,k,i,G):=D;let p:3<n.size:=(N7.mp G).1;unfold setFlight;refine g7 (z9 r v t ?_);rw [if_pos (by simp:(Value.ref T != Value.none)=true)];refine F8 k i p ?_;let c:∀b,b≠T->(s.heap.update T (Obj.mapFields (·.setIfInBounds 3 ((none:Option Addr).elim Value.none λf=>rawInt f)))).get? b=s.heap.get? b:=λb z=>A7 _ _ (λw=>z w.symm);let d:∀b a,s.heap.get? b=some a->(∀C,a.data≠.fields C)->b≠T:=λb a z h w=>by
  subst w;rw [k] at z;cases z;exact h n i
 let g:=P1 i (·.setIfInBounds 3 ((none:Option Addr).elim Value.none λf=>rawInt f));refine q _ (λb a z=>(c b λw=>by rw [w,u] at z;cases z).trans (st b a z)) (H.of_keeps λb a z h=>{a,(c b (d b a z h)).trans z,rfl}) ?_ (λb a z h=>{a.slots,(c b (d b a z h)).trans z}) (y.other (c e (F7 j)));exact {o,B,T,_,_,(c e (F7 j)).trans r,x,v,t,u,j,J3 _ k (R6 g),g,by simp [p]}
def LG {h h1 h2:Heap} (x:∀b o,h.get? b=some o->(∀a,o.data≠.fields a)->∃c,h1.get? b=some { o with slots:=c }) (y:h1.UpToSlots h2):h.UpToSlots h2:=Heap.UpToSlots.trans x y
def made2 (d:A.frames=some (env::rest)) (fr:env.frame=some L) (st:bs.StaysIn h) (m:h.FunFrames bs (env::rest)) (c:Heap.MadeExcOf h s.heap e cls args)
  (q:∀a l,Heap.FlyingW bs rest e cls l a->s.heap.UpToSlots a->NoCtx e a->Q () { s with heap:=a }):wpAny M A (leaving env (.ref e)) Q E s:=by
 let (t,j,_,_):=c.there;let i:bs.get? e=none:=by
  cases z:bs.get? e with
  | none=>rfl
  | some o=>
   let w:=st e o z;rw [c.new] at w;cases w
 unfold leaving noteFrame;simp only [fr];refine g7 (g7 (z9 j rfl (x:=.none) rfl ?_));rw [if_neg 7#0];refine Qi d (m.of_keeps λb o z _=>{o,c.keeps b o z,rfl}) fr j (λb o z=>c.keeps b o (st b o z)) i rfl rfl rfl λv ⟨p,x2,x3,x4⟩ nc1=>?_;refine Tl (s:={ s with heap:=v }) p x2 x3 nc1 λu n g k r f=>?_;let (_,_,g):=g;exact q u _ {(n),i,g,k} (LG x4 r) f
def leave2 {bs:Heap} {env:Env} {rest:List Env} {L e:Addr} {cls f:Value} {Q:Unit->Shared->Prop} (b:A.frames=some (env::rest)) (fr:env.frame=some L) (g:Heap.FlyingW bs (env::rest) e cls f s.heap) (l:NoCtx e s.heap)
  (q:∀a,Heap.FlyingW bs rest e cls f a->s.heap.UpToSlots a->NoCtx e a->Q () { s with heap:=a }):wpAny M A (leaving env (.ref e)) Q E s:=by
 let h:=g.2.1;unfold leaving;refine g7 (Yq b fr g l λo ⟨k,x2,x3,x4⟩ nc1=>?_);refine Tl (s:={ s with heap:=o }) k x2 x3 nc1 λn j d i m c=>?_;let (_,_,d):=d;exact q n {(j),h,d,i} (LG x4 m) c
def look2 {bs:Heap} {env:Env} {rest:List Env} {L e:Addr} {cls c:Value} {Q:Unit->Shared->Prop} (b:A.frames=some (env::rest)) (fr:env.frame=some L) (d:Heap.FlyingW bs (env::rest) e cls c s.heap) (h:NoCtx e s.heap)
  (q:∀a,Heap.HeldW bs (env::rest) e cls c L a->s.heap.UpToSlots a->NoCtx e a->Q () { s with heap:=a }):wpAny M A (noteFrame (.ref e) env) Q E s:=by
 let f:=d.2.1;refine Yq b fr d h λi ⟨g,x2,x3,x4⟩ nc1=>q i {(g),f,x2,x3} x4 nc1
def land2 {bs:Heap} {l:List Env} {L e:Addr} {cls c:Value} {Q:Unit->Shared->Prop} (g:Heap.HeldW bs l e cls c L s.heap) (k:NoCtx e s.heap)
  (q:∀a,Heap.FlyingW bs l e cls c a->s.heap.UpToSlots a->NoCtx e a->Q () { s with heap:=a }):wpAny M A (setFlight (.ref e) none) Q E s:=by
 let (j,d,n,h):=g;exact Tl j n h k λa i o f m b=>q a {(i),d,o,f} m b
def again2 {bs:Heap} {l:List Env} {e:Addr} {cls c:Value} {Q:Unit->Shared->Prop} (g:Heap.FlyingW bs l e cls c s.heap) (k:NoCtx e s.heap)
  (q:∀a,Heap.FlyingW bs l e cls c a->s.heap.UpToSlots a->NoCtx e a->Q () { s with heap:=a }):wpAny M A (setFlight (.ref e) none) Q E s:=by
 let (j,d,n,h):=g;exact Tl j n h.at k λa i o f m b=>q a {(i),d,o,f} m b
end
end Hd
namespace L2
open PySem PySem.Spec PyProof.Rows
def bN.is {P:Program} {w:World} {H:Hp} {h:Heap} {a:Addr} {o:HO} (x:bN P w H h a o):∃b,h.get? a=some b:=by
 cases o with
 | lst xs=>let (_,_,_,_,q):=x;exact {_,q}
 | tup xs=>let (_,_,_,b,q,_):=x;exact {_,q}
 | dK kvs=>let (_,_,_,_,b,_,_,q,_):=x;exact {_,q}
 | dT kvs=>let (_,_,_,_,b,_,_,q,_):=x;exact {_,q}
 | set S n=>let (b,_,_,_,q,_):=x;exact {_,q}
 | ins C dx fs=>let (_,_,_,q,_):=x;exact {_,q}
 | own y=>exact x
 | xd fs=>let (_,(_,_,_,q,_),_):=x;exact {_,q}
 | rng lo hi=>let (_,_,_,q):=x;exact {_,q}
 | frz b u=>let (q,_):=x;exact {_,q}
 | tbl ps=>exact {_,(show h.get? a=some _ from x)}
 | met f y=>exact {_,(show h.get? a=some _ from x)}
 | ext φ=>let (_,q,_):=x;exact q
structure Ji (P:Program) (w:World) (outer:List Env) (H:Hp) (h:Heap) (ea:Addr) (cls a0:Value) (H':Hp) (B h':Heap):Prop where
 fly:Heap.FlyingW B outer ea cls a0 h'
 nc:Hd.NoCtx ea h'
 hok:lJ P w H' B
 new:h.get? ea=none
 keepB:∀b o,h.get? b=some o->H b=none->b ∉ mD outer->B.get? b=some o
 slot:∀b o,h.get? b=some o->b ∈ mD outer->∃sl,h'.get? b=some { o with slots:=sl }
 free:∀b o,h.get? b=some o->H b=none->H' b=none
 thereB:∀b o,h.get? b=some o->b ∉ mD outer->∃o',B.get? b=some o'
 tups:∀b xs,H b=some (.tup xs)->H' b=some (.tup xs)
 frzs:∀b o u,H b=some (.frz o u)->H' b=some (.frz o u)
 tbls:∀b ps,H b=some (.tbl ps)->∃more,H' b=some (.tbl (ps++more))
section
variable {P:Program} {w:World} {outer:List Env} {H H':Hp} {h h' h2 B:Heap} {ea:Addr} {cls a0:Value}
def Ji.freeE (F:Ji P w outer H h ea cls a0 H' B h'):H' ea=none:=by
 cases q:H' ea with
 | none=>rfl
 | some o=>
  let (ob,z):=(F.hok ea o q).is;rw [F.fly.2.1] at z;cases z
def Ji.later (F:Ji P w outer H h ea cls a0 H' B h') (fl:Heap.FlyingW B outer ea cls a0 h2) (nc:Hd.NoCtx ea h2) (up:h'.UpToSlots h2):Ji P w outer H h ea cls a0 H' B h2 where
 fly:=fl
 nc:=nc
 hok:=F.hok
 new:=F.new
 keepB:=F.keepB
 slot:=λb o q hb=>by
  let (sl,z):=F.slot b o q hb
  let (_,o',z',nf):=F.fly.2.2.1.mem hb
  rw [z] at z'
  cases z'
  let (sl',z2):=up b _ z nf
  exact {(sl'),z2}
 free:=F.free
 thereB:=F.thereB
 tups:=F.tups
 frzs:=F.frzs
 tbls:=F.tbls
def Ji.un (F:Ji P w outer H h ea cls a0 H' B h'):Un (mD outer) [] H H' h h' where
 keep:=λb o q n a _=>F.fly.1 b o (F.keepB b o q n a)
 slot:=λb o q _ a _=>F.slot b o q a
 free:=λb o q n _=>F.free b o q n
 there:=λb o q _=>by
  by_cases a:b ∈ mD outer
  ·let (d,z):=F.slot b o q a
   exact {_,z}
  ·let (c,z):=F.thereB b o q a
   exact {c,F.fly.1 b c z}
 tups:=F.tups
 frzs:=F.frzs
 tbls:=F.tbls
def Ji.hokN (F:Ji P w outer H h ea cls a0 H' B h'):lJ P w H' h':=F.hok.kept F.fly.1
end
def fS (P:Program) (w:World):pK:=λouter H s E e s'=>∃(ea:Addr) (cls a0:Value) (H':Hp) (B:Heap),
 e=Value.ref ea/\s'.os=s.os/\AllBare s'.gens/\Ji P w outer H s.heap ea cls a0 H' B s'.heap/\E cls none H'
def zY (X:Cx) (C:Addr) (R:Hp->Prop):Prop:=
 ∀(pins:List 10#0) (σ:St) (H:Hp) (s:Shared) (h':Heap) (e:Addr) (vs:List Value),aW X pins σ H s->Heap.MadeExcOf s.heap h' e (.ref C) vs->R H->X.xe (.ref e) { s with heap:=h' }
def sW (a:env.frame=some L):mD (env::outer)=L::mD outer:=by
 unfold mD;rw [O1,a]
section
variable {P:Program} {w:World} {K:PySem.W.Frag} {mg:Str->Option Value} {base:Heap} {N:List Str} {qual:Str} {scope:Scope} {f:Addr} {cd:Value} {A:Around} {outer:List Env} {s₀:Shared} {H₀:Hp} {E:XK}
def cO:zY (hU (fS P w) P w K mg base N qual scope f cd A outer s₀ H₀ E) C (λH=>E (.ref C) none H):=by
 intro pins σ H s h' e vs I hx hE;let stk:s.heap.FunFrames (PySem.W.hideAll s.heap (mD (envOfC qual scope s₀.heap.objs.size f cd::outer))) (envOfC qual scope s₀.heap.objs.size f cd::outer):=
  PySem.W.funFrames_hide I.stack λenv he a ha=>K7.mpr {(env),he,ha}
 let nof:∀b,(H b).isSome=true->b ∉ mD (envOfC qual scope s₀.heap.objs.size f cd::outer):=λb hb z=>by
  rw [I.stkFree b z] at hb;cases hb
 let low:∀b o,s₀.heap.get? b=some o->b ∉ mD outer->b ∉ mD (envOfC qual scope s₀.heap.objs.size f cd::outer):=λb o q hb z=>by
  rw [sW (L:=s₀.heap.objs.size) rfl] at z;rcases i9.mp z with z|z
  ·rw [z] at q;exact absurd (j6 q) (A5 _)
  ·exact hb z
 show wpAny _ _ (leaving _ (.ref e)) _ _ _;refine Hd.made2 (bs:=PySem.W.hideAll s.heap (mD (envOfC qual scope s₀.heap.objs.size f cd::outer))) (h:=s.heap) (rest:=outer) I.ok.frames rfl (λb o q=>PySem.W.of_hideAll _ q) stk hx λh2 t x1 x4 xn=>?_;refine {e,.ref C,t,H,_,rfl,I.os,I.bare,{x1,xn,λa o q=>?_,?_,λb o q n hb=>?_,λb o q hb=>?_,λb o q n=>I.base.free b o q n 1#0,λb o q hb=>?_,I.base.tups,I.base.frzs,I.base.tbls},hE}
 ·refine(I.hok a o q).stay (λb u hb r=>PySem.W.hideAll_get _ r (nof b ?_)) (λ_ z=>z) λ_ _ z=>z;rcases hb with rfl|hb
  ·rw [q];rfl
  ·rw [hb];rfl
 ·cases q:s₀.heap.get? e with
  | none=>rfl
  | some o=>
   let (o',z):=I.base.there e o q 1#0;rw [hx.new] at z;cases z
 ·exact PySem.W.hideAll_get _ (I.base.keep b o q n hb 1#0) (low b o q hb)
 ·let (sl,z):=I.base.slot b o q (I.ok.frf b hb) hb 1#0;let (_,o',z',nf):=I.funs.mem hb;rw [z] at z';cases z';let (sl',z2):=x4 b _ (hx.keeps b _ z) nf;exact {(sl'),z2}
 ·let (o',z):=I.base.there b o q 1#0;exact {o',PySem.W.hideAll_get _ z (low b o q hb)}
def dS (hE:∀cls d H,E' cls d H->E cls d H):eV (fS P w) (hU (fS P w) P w K mg base N qual scope f cd A outer s₀ H₀ E) E':=by
 intro pins σ H s e s' I hc;let (ea,cls,a0,H',B,rfl,os,bare,F,hE'):=hc;let low:∀b o,s₀.heap.get? b=some o->b ∉ mD outer->b ∉ mD (envOfC qual scope s₀.heap.objs.size f cd::outer):=λb o q hb z=>by
  rw [sW (L:=s₀.heap.objs.size) rfl] at z;rcases i9.mp z with z|z
  ·rw [z] at q;exact absurd (j6 q) (A5 _)
  ·exact hb z
 let up:∀b,b ∈ mD outer->b ∈ mD (envOfC qual scope s₀.heap.objs.size f cd::outer):=λb hb=>by
  rw [sW (L:=s₀.heap.objs.size) rfl];exact i4 _ hb
 show wpAny _ _ (leaving _ (.ref ea)) _ _ _;refine Hd.leave2 (rest:=outer) I.ok.frames rfl F.fly F.nc λh2 x1 x4 xn=>?_;refine {ea,cls,a0,H',B,rfl,os.trans I.os,bare,{x1,xn,F.hok,?_,λb o q n hb=>?_,λb o q hb=>?_,λb o q n=>?_,λb o q hb=>?_,λb xs q=>F.tups b xs (I.base.tups b xs q),λb o u q=>F.frzs b o u (I.base.frzs b o u q),λb ps q=>?_},hE _ _ _ hE'}
 ·cases q:s₀.heap.get? ea with
  | none=>rfl
  | some o=>
   let (o',z):=I.base.there ea o q 1#0;rw [F.new] at z;cases z
 ·exact F.keepB b o (I.base.keep b o q n hb 1#0) (I.base.free b o q n 1#0) (low b o q hb)
 ·let (sl,z):=I.base.slot b o q (I.ok.frf b hb) hb 1#0;let (sl2,z2):=F.slot b _ z (up b hb);let (_,o',z',nf):=F.fly.2.2.1.mem (up b hb);rw [z2] at z';cases z';let (sl',z3):=x4 b _ z2 nf;exact {(sl'),z3}
 ·let (o',z):=I.base.there b o q 1#0;exact F.free b o' z (I.base.free b o q n 1#0)
 ·let (o',z):=I.base.there b o q 1#0;exact F.thereB b o' z (low b o q hb)
 ·let (m1,z):=I.base.tbls b ps q;let (m2,z2):=F.tbls b _ z;exact {m1++m2,by rw [z2,Array.append_assoc]}
end
abbrev Js:List Value:=[.type "ValueError",.type "Exception",.type "BaseException",.type "object"]
def ExcIs (K:PySem.W.Frag) (C:Addr):Prop:=PySem.W.excIn K C Js "ValueError.__new__"=true
def Iq {K:PySem.W.Frag} {h:Heap} {C:Addr} (X:K.In h) (q:ExcIs K C):
  ∃j N p s m d u b o a dd f g e c i w,h.get? C=some (excClassObj p s C N m j d u b o a dd f g e c i "ValueError.__new__")/\h.Ns N w/\w "__init__"=none/\OwnTail h Js j:=by
 unfold ExcIs PySem.W.excIn at q;split at q
 ·next dd cd sl ho=>
  split at q
  ·next C' j f g e c n i hm hs=>
   simp only [C6,beq_iff_eq,J8] at q;let (((((E,B),y),D),k),v):=q;subst E;subst B;let (p,m,z,A,s,G,u,b,o,a,F):=cd;dsimp only at hm y k v;subst hm;subst y;let t:sl=#[f,g,e,c,some (.builtin "ValueError.__new__"),i]:=by
    cases sl with
    | mk l=>
     let r:l=[f,g,e,c,some (.builtin "ValueError.__new__"),i]:=hs;rw [r]
   subst t;exact {j,A,p,s,m,G,u,b,o,a,dd,f,g,e,c,i,_,X _ _ ho,.of_isNs (PySem.W.isNs_of_in X k),PySem.W.nsMap_none_of_in X k v,PySem.W.tail_of_in X D}
  ·cases q
 ·cases q
section
variable {X:Cx} {x:Str} {C:Addr} {R:Hp->Prop} {e₀:Expr} {ta:TA} {np cpos pos:Pos}
def Zp (ta:TA) (R:Hp->Prop):TS:=λ_ σ H=>ta σ H λvs H1=>vs.length<=sizeLine/\R H1
def eB (i:X.calm=true) (n:ExcIs X.K C) (o:Gl X x) (A:X.mg x=some (.ref C)) (t:zY X C R) (B:PA X [e₀] ta)
  (g:starEach [e₀] X.env=[(false,eval e₀ X.env)]:=by rfl) (G:(x == ("__debug__":Str))=false:=by decide):
  PS X (.Raise (some (.Call (.Name x np) [e₀] [] cpos)) none pos) (Zp ta R):=by
 intro a s σ H D I h;let (v,N,nm,q,bs,hdct,sn,sub,ab,col,dd,k0,k1,k2,k3,k5,mN,y,E,d,T):=Iq I.mod.kin n;refine wpAny_Raise_call_subT (C:=C) (nm:=nm) (q:=q) (N:=N) (bs:=bs) (bm:=v) (hdct:=hdct) (sn:=sn) (sub:=sub) (ab:=ab) (col:=col) (dd:=dd) (k0:=k0) (k1:=k1) (k2:=k2) (k3:=k3) (k5:=k5)
  PySem.F.excBase_ValueError (mN:=mN) (T.hasType PySem.F.excBase_ValueError.hasBase) (I.ok.hd i) (by rw [g];rfl) d (lC I o A {rfl,?_} G)
 let b:=@B cpos a s σ H _ I h;rw [g] at b ⊢;refine N0 (y7 b (λk p l=>?_) λ_ _ z=>z);let (J,m,c,j,r,f):=l;refine {rfl,?_,c.bk _ _ y,E.keeps c.bk,T.keeps c.bk,λu e w=>t a σ m p u e _ c w f};show k.length<=sizeLine;rw [<- j.length];exact r
end
end L2
namespace L2
open PySem PySem.Spec PyProof.Rows PySem.W PySem.Calls Builtin Builtin.ObjectAttr Builtin.Getset_descriptor
structure xG (K:Frag) (C:Addr):Prop where
 exc:ExcIs K C
 cl:(clsIn K C).isSome=true
 ga:findIn K (.ref C) "__getattribute__"=some (some (.builtin "BaseException.__getattribute__"))
 gh:findIn K (.ref C) "__getattr__"=some none
 ca:findIn K (.ref C) "__class__"=some (some (.builtin "object.__class__"))
 cg:specialIn K (.builtin "object.__class__") "__get__"=some (some (.builtin "getset_descriptor.__get__"))
 ct:takesIn K (.builtin "object.__class__")=some true
 mo:mroIn K C (.type "object")=some true
 mb:mroIn K C (.type "BaseException")=some true
def lR (e C:Addr) (h:Heap):Prop:=∃o,h.get? e=some o/\o.cls=.ref C
section
variable {K:Frag} {e C:Addr}
def lR.ty {M:Model} {h:Heap} (p:lR e C h):Looks M h (typeOf (.ref e)) (.ref C):=by
 let (o,b,a):=p;exact a ▸ (Looks.ld b).andThen .now
def Ir {M:Model} {h:Heap} (X:K.In h) (T:xG K C):Looks M h (find (.ref e) (.ref C) "__class__") (.bind (.builtin "getset_descriptor.__get__") (.builtin "object.__class__")):=by
 let a:=looks_findIn (M:=M) X T.ca;let b:=looks_specialIn (M:=M) X T.cg;let c:=looks_takesIn (M:=M) X T.ct;refine a.andThen (b.andThen ?_);exact(show Looks M h (dataDescriptor? (some _) (some _)) (some (_,_)) from c.andThen .now).andThen (Looks.tag .now)
variable {prog:Program} {w:World} {A:Around} {E:Value->Shared->Prop} {s:Shared} {R:Result->Shared->Prop}
def uB (X:K.In s.heap) (T:xG K C) (p:lR e C s.heap) (h:R (.ok (.ret (.ref C))) s):
  codeAny 8#0 A (.call (.builtin "getset_descriptor.__get__") {[.builtin "object.__class__",.ref e,a],[]}) R s:=by
 let (c,g,b,t,d):=s;let i:=p.ty (M:=model prog w);let f:=looks_mroIn (M:=model prog w) X T.mo;refine S0 KF.slot_gs.plain KF.entry_gs (KF.slot_gs.check _ _ _ _ _ _ _ _ KF.type_class (KF.args_gs _ _ _) ?_);unfold Builtin.«getset_descriptor.__get__» descrGet;rw [dga_obj];refine g7 (j3 ?_);unfold descrGetter descrCheckInstance descrNameAndClass isInstance;simp only [KF.owner_class]
 repeat lk
 refine {Code.quiet_builtin _ ⋯,L0 KF.entry_class ?_};unfold Builtin.«object.__class__» shownTypeOf
 repeat lk
 exact h
end
section
variable {K:Frag} {e C:Addr} {prog:Program} {w:World} {A:Around} {E:Value->Shared->Prop} {s:Shared} {R:Result->Shared->Prop}
def wX {M:Model} {a:Value} {Q:Unit->Shared->Prop} (X:K.In s.heap) (T:xG K C) (p:lR e C s.heap) (d:Q () s):
  wpAny M A (checkBuiltinCall "BaseException.__getattribute__" {[.ref e,a],[]}) Q E s:=by
 let c:builtinKind "BaseException.__getattribute__"=some .slot:=⋯;let b:splitId "BaseException.__getattribute__"=some ("BaseException","__getattribute__"):=⋯;let j:=F.args_bexc_ga (.ref e) a;let f:Looks M s.heap (isInstance (.ref e) (.type "BaseException")) true:=p.ty.andThen (looks_mroIn X T.mb);let (i,g,h,t,k):=s;simp only [checkBuiltinCall,c,b];refine g7 (f.at ?_)
 repeat (first|wp_step)
 exact d
def zJ (X:K.In s.heap) (T:xG K C) (p:lR e C s.heap) (c:Q (.done (.ret (.ref C))) s):
  wpAny 8#0 A (Builtin.«object.__getattribute__» {[.ref e,.str "__class__" tk],[]}) Q E s:=by
 let b:=p.ty (M:=model prog w);let a:=Ir (M:=model prog w) (e:=e) X T;let (f,g,d,t,h):=s;unfold Builtin.«object.__getattribute__»
 repeat (first|with_reducible refine b.at ?_|with_reducible refine a.at ?_|wp_step)
 refine uB X T p ?_;exact j3 c
def wW (X:K.In s.heap) (T:xG K C) (p:lR e C s.heap) (h:Q (some (.ref C)) { s with toks:=s.toks+1 }):
  wpAny 8#0 A (getAttr? (.ref e) "__class__") Q E s:=by
 let f:=p.ty (M:=model prog w);let a:=looks_findIn (M:=model prog w) X T.ga;let c:=looks_findIn (M:=model prog w) X T.gh;let d:=F.attr_ValueError.ga.bind (.ref e);let b:(Value.builtin "BaseException.__getattribute__" == Value.builtin "object.__getattribute__")=false:=⋯;let (j,g,i,t,k):=s;unfold getAttr? getAttrBy? getAttrBy;refine g7 (wpAny_mkText (g7 (J6 (y4 (g7 (f.at (g7 (a.at ?_))))))));dsimp only
 rw [if_neg (by rw [b];simp)];unfold getAttrByItsOwn hookBefore;refine g7 (c.at ?_);refine g7 (J6 (y4 ?_));unfold callGetattribute boundAndCalled;rw [if_neg 6#0];rw [d];refine g7 (j3 ?_);refine M9 (S0 F.attr_ValueError.ga.plain F.entry_bexc_ga (wX X T p (zJ X T p ?_)));refine j3 (j3 ?_);exact h
def Pk (T:xG K C):KitX K (.ref e) (.ref C) (lR e C) where
 ty:=λ_ _ _ p=>p.ty
 it:=λ_ _ X _=>by
  have a:=T.cl
  unfold clsIn at a
  split at a
  ·next c' d' cd' sl' ho=>
   intro g j i l k q
   unfold isType loadHead
   exact g7 (wpAny_loadPart (k _ _ (X _ _ ho)) (j3 q))
  ·cases a
 ne:=λh d dd c n m X b=>by
  have a:=T.cl
  refine F4.mpr λq=>?_
  have f:C=d:=Value.ref.inj (beq_iff_eq.mp q)
  subst f
  unfold clsIn at a
  split at a
  ·next c' d' cd' sl' ho=>
   have z:=(X _ _ ho).symm.trans b
   cases z
  ·cases a
 ca:=λX p k=>wW X T p k
end
def lY (e C:Addr):HO:=.ext λhp=>lR e C hp/\Hd.NoCtx e hp
def Vy {P:Program} {w:World} {H:Hp} {h:Heap} {e C:Addr} (p:lR e C h) (n:Hd.NoCtx e h):bN P w H h e (lY e C):=by
 refine {{(p),n},?_,λg f q k=>?_}
 ·let (o,z,_):=p;exact {(o),z}
 ·let ((o,z,c),a,b,d,r):=q;exact {{o,k o z,c},a,b,k a d,r}
section
variable {X:Cx}
inductive LC:V->Value->Prop where
 | ty (n:String):LC (.ty n) (.type n)
 | ref (a:Addr):LC (.ref a) (.ref a)
def rQ (K:Frag):List V->Hp->VK->Prop:=λxs H Q=>∃x y c b,xs=[x,y]/\LC y c/\((∃t,kG K H x t/\PySem.W.kitOne K t c=some b)\/∃e C,x=.ref e/\H e=some (lY e C)/\xG K C/\PySem.W.kitOne K (.ref C) c=some b)/\Q (.bl b) H
def cA:gN X (.builtin "isinstance") (rQ X.K):=by
 intro g s σ H B D Q I r h;let (x,y,c,b,rfl,k,l,q):=h;let (u,v,rfl,i,j):=Jv r;let o:v=c:=by
  cases k with
  | ty n=>exact j
  | ref a=>exact j
 subst o;rcases l with ⟨t,ty,e⟩|⟨d,C,rfl,m,T,e⟩
 ·exact Ih I i ty e λf=>{.bl b,H,I.tok f,rfl,q}
 ·cases (show u=Value.ref d from i);let ((p,_),_):=(show bN X.prog X.w H s.heap d (lY d C) from I.hok d _ m);exact kia_one (Pk T) I.kIn p e 13#0 λf=>{.bl b,H,I.tok f,rfl,q}
end
end L2
namespace L2
open PySem PySem.Spec PyProof.Rows
def aW.re {X Y:Cx} {pins pins':List 10#0} {σ:St} {H:Hp} {s:Shared} (I:5#0) (v:Y.Ok) (e1:Y.prog=X.prog) (k:Y.w=X.w) (q:Y.N=X.N) (m:Y.s₀=X.s₀) (h:Y.H₀=X.H₀) (j:Y.env=X.env) (n:Y.outer=X.outer) (r:Y.ex=X.ex)
  (C:∀p ∈ Y.pn++pins',p ∈ X.pn++pins):aW Y pins' σ H s:=by
 let (l,w,K,mg,t,A,N,M,T,D,e,d,L,P,o,U,J):=X;let (f,S,W,B,g,O,Q,u,E,i,b,a,F,x,c,y,G):=Y;dsimp only at e1 k q m h j n r;subst e1 k q m h j n r;exact {v,I.os,I.bare,I.base,I.loc,I.cell,I.free,I.freeC,λp z=>I.pin p (C p z),I.hok,I.len}
abbrev Cx.try_ (X:Cx) (pn:List 10#0) (xe:Value->Shared->Prop):Cx:={ X with pn:=pn,xe:=xe }
abbrev Cx.suite (X:Cx) (e:Value):Cx:={ X with A:=X.A.mark (some e),calm:=false,xe:=λ_ _=>False }
theorem Cx.Ok.try_ {X:Cx} (a:X.Ok) (pn:List 10#0) (xe:Value->Shared->Prop):(X.try_ pn xe).Ok:=
 {(a.mod),a.kind,a.glob,a.blt,a.above,a.inj,a.has,a.cab,a.hd,a.frames,a.stk,a.exf,a.bs,a.bsz,a.noex,a.exfs,a.funs,a.frf}
theorem Cx.Ok.suite {X:Cx} (a:X.Ok) (e:Value):(X.suite e).Ok:=
 {a.mod,a.kind,a.glob,a.blt,a.above,a.inj,a.has,a.cab,λz=>(nomatch z),a.frames,a.stk,a.exf,a.bs,a.bsz,a.noex,a.exfs,a.funs,a.frf}
def Ji.laid {P:Program} {w:World} {outer:List Env} {H H':Hp} {h h' B:Heap} {d C:Addr} {k:Value} (F:Ji P w outer H h d (.ref C) k H' B h'):
  Un (mD outer) [] H (upd H' d (lY d C)) h h'/\lJ P w (upd H' d (lY d C)) h':=by
 let a:=F.un;let e:=F.freeE;refine {{a.keep,a.slot,λb o q n i=>?_,a.there,λb f q=>?_,λb o u q=>?_,λb j q=>?_},λb u q=>?_}
 ·rw [aE (λz=>by rw [z,F.new] at q;cases q)];exact a.free b o q n i
 ·let z:=a.tups b f q;rw [aE (aF z e)];exact z
 ·let z:=a.frzs b o u q;rw [aE (aF z e)];exact z
 ·let (m,z):=a.tbls b j q;exact {m,by rw [aE (aF z e)];exact z}
 ·by_cases g:b=d
  ·subst g;rw [aB] at q;cases q;let (o,z,c):=F.fly.there;exact Vy {(o),z,c} F.nc
  ·rw [aE g] at q;exact(F.hokN b u q).stay (λ_ _ _ z=>z) (λc z=>by rw [aE (aF z e)];exact z) λc f z=>by rw [aE (aF z e)];exact z
section
variable {X:Cx}
def kZ {A:Around} {E:Value->Shared->Prop} {pins:List 10#0} {σ:St} {H:Hp} {s:Shared} {i:Nat} {x:Str} {pos:Pos} {Q:Unit->Shared->Prop} (I:5#0) (hN:X.N.Nodup) (hi:X.N[i]?=some x) (hx:X.env.scope.names.lookup x=some .local)
  (h:∀M,aW X pins (σ.set i none) H M->Q () M):wpAny 4#0 A (do bindName X.env x .none;unbindBehindTheSuite X.env x pos) Q E s:=by
 let (m,L,Y):=id I.loc;let l:(X.env.scope.kind == .class || (X.env.scope.kind == .module && X.env.locals != X.env.globals))=false:=by rw [I.ok.kind];rfl
 refine wpAny_nameGoes_keeps hx L l λh' v u a=>?_;let (oL,_,_,W,_):=id L;let f:∀b o,X.s₀.heap.get? b=some o->b≠X.env.locals:=λb o q=>q5 (u5 (j6 q) I.ok.above);refine h _ {I.ok,I.os,I.bare,{λb o q n D g=>(a.2 b (f b o q)).trans (I.base.keep b o q n D g),λb o q n D g=>?_,I.base.free,λb o q g=>?_,I.base.tups,I.base.frzs,I.base.tbls},
  {_,u,λj y v' K t e3=>?_},λy c q=>?_,I.free,I.freeC,λp T=>?_,λb ob q=>?_,by simpa using I.len}
 ·let (Z,z):=I.base.slot b o q n D g;exact {Z,(a.2 b (f b o q)).trans z}
 ·let (S,z):=I.base.there b o q g;exact {S,(a.2 b (f b o q)).trans z}
 ·by_cases B:j=i
  ·subst B;let C:j<σ.length:=by rw [I.len];exact(i5.mp hi).1
   rw [E6 C] at t;cases t
  ·rw [E9 (F7 B)] at t;let (F,O,z):=Y j y v' K t e3;refine {F,O,?_};rcases z with ⟨k,z⟩|⟨k,c,z,P⟩
   ·refine .inl {k,?_};let U:y≠x:=λw=>B (sJ hN K (w ▸ hi));show (if y=x then v else m y)=some F;rw [if_neg U];exact z
   ·exact .inr {k,c,z,P.sameBut a (I.cne y c z)}
 ·let (J,z):=I.cell y c q;exact {J,z.sameBut a (I.cne y c q)}
 ·let (e,n,G,nf,d):=I.pin p T;exact {(a.2 p.1 G).trans e,n,G,nf,d}
 ·refine(I.hok b ob q).stay (λc J hc r=>(a.2 c ?_).trans r) (λ_ r=>r) λ_ _ r=>r;rintro rfl;rcases hc with rfl|hc
  ·rw [I.free] at q;cases q
  ·rw [I.free] at hc;cases hc
def IR (Y:Cx) (ifs:List Expr) (t:TT):Prop:=
 ∀ ⦃pins:List 10#0⦄ (s:Shared) (σ:St) (H:Hp) (Q:Bool->Hp->Prop),aW Y pins σ H s->t σ H Q ->
  wpAny (model Y.prog Y.w) Y.A (forIn ifs true λc r=>if r=true then do let ok <- isTrue c Y.env (eval c Y.env);pure (ForInStep.yield ok) else pure (ForInStep.yield r)) (TP Y pins σ Q) Y.xe s
def EY:TT:=λ_ H Q=>Q true H
def dZ:IR Y [] EY:=λ_ _ _ H _ I h=>wpAny_tests_nil {(H),I,h}
def kQ {Y:Cx} {c:Expr} {t:TT} (h:PT Y c t):IR Y [c] t:=λa s σ H Q I b=>wpAny_tests_one (h s σ H Q I b)
section
variable {NB:List Str} {scope:Scope}
end
mutual
inductive vM (K:PySem.W.Frag) (H:Hp):V->PyData->Prop where
 | non:vM K H .non .none
 | bl (b:Bool):vM K H (.bl b) (.bool b)
 | int (i:Int):vM K H (.int i) (.int i)
 | str (x:Str):vM K H (.str x) (.str x)
 | lst {a:Addr} {xs:List V} {ds:List PyData}:cM K H a xs->Db K H xs ds->vM K H (.ref a) (.list ds)
 | tup {a:Addr} {xs:List V} {ds:List PyData}:cG K H a xs->Db K H xs ds->vM K H (.ref a) (.tuple ds)
inductive Db (K:PySem.W.Frag) (H:Hp):List V->List PyData->Prop where
 | nil:Db K H [] []
 | cons {x:V} {d:PyData} {xs:List V} {ds:List PyData}:vM K H x d->Db K H xs ds->Db K H (x::xs) (d::ds)
end
section
variable {pins:List (Addr × Obj)} {σ:St} {H:Hp} {s:Shared}
def vM.reads (I:5#0) {x:V} {d:PyData} {u:Value} (h:vM X.K H x d):bF x u->∃c,Reads s.heap u d c:=by
 refine vM.rec (motive_1:=λx d _=>∀u,bF x u->∃c,Reads s.heap u d c) (motive_2:=λj g _=>∀z,bB j z->∃c,ReadsAll s.heap z g c) ?_ ?_ ?_ ?_ ?_ ?_ ?_ ?_ h u
 ·intro _ r;cases (show _=Value.none from r);exact {_,.none}
 ·intro b _ r;cases (show _=Value.bool b from r);exact {_,.bool b}
 ·intro i _ r;let (t,q):=(show ∃t,_=Value.int i t from r);cases q;exact {_,.int i t}
 ·intro x _ r;let (t,q):=(show ∃t,_=Value.str x t from r);cases q;exact {_,.str x t}
 ·intro a j g w _ k _ r;cases (show _=Value.ref a from r);let (e,m,p,_):=I.list w;let (c,f):=k _ m;let (o,l,v,n,y):=p.isList;exact {_,.list l v y (by simpa using f)}
 ·intro a j g w _ k _ r;cases (show _=Value.ref a from r);let (e,m,p,_):=I.tuple w;let (c,f):=k _ m;let (o,l,v,n,y):=(show s.heap.IsTuple a e.toArray from p);exact {_,.tuple l v y (by simpa using f)}
 ·intro _ r;cases r;exact {_,.nil}
 ·intro x d j g _ _ B D _ r;cases r with
  | cons r rs=>
   let (c,f):=B _ r;let (E,C):=D _ rs;exact {_,.cons f C}
end
def JM (K:PySem.W.Frag):R2:=λx y H Q=>∃dx dy,vM K H x dx/\vM K H y dy/\SeqAt.shaped dx=true/\SeqAt.shaped dy=true/\Q (.bl (PyData.eqv dx dy)) H
def JK (K:PySem.W.Frag):R2:=λx y H Q=>∃dx dy,vM K H x dx/\vM K H y dy/\SeqAt.shaped dx=true/\SeqAt.shaped dy=true/\Q (.bl (!PyData.eqv dx dy)) H
def Bk (f:X.A.units+64<cLine):lH X (compareOp .Eq) (JM X.K):=by
 intro pins s σ H x y v u Q I b j h;let (n,m,a,e,g,d,q):=h;let (k,i):=a.reads I b;let (l,c):=e.reads I j;exact SeqAt.compareEq_shaped i c g d f {.bl _,H,I,rfl,q}
def wQ (f:X.A.units+64<cLine):lH X (compareOp .NotEq) (JK X.K):=by
 intro pins s σ H x y v u Q I b j h;let (n,m,a,e,g,d,q):=h;let (k,i):=a.reads I b;let (l,c):=e.reads I j;exact SeqAt.compareNe_shaped i c g d f {.bl _,H,I,rfl,q}
end
end L2
namespace PySem.SeqAt
open AutoSeq1 (wpAny_loadPart')
open MeetsSeq MeetsSeq2 MeetsSeq3
section
variable {A:Around} {s:Shared}
end
end PySem.SeqAt
namespace L2
open PySem PySem.Spec PyProof.Rows
section
variable {X:Cx}
section
variable {κ:Type} [DecidableEq κ]
def cH (kvs:List (κ × V)) (k:κ):Option V:=(kvs.find? λkv=>decide (kv.1=k)).map (·.2)
def gP (kvs:List (κ × V)) (k:κ) (v:V):List (κ × V):=
 if (kvs.any λkv=>decide (kv.1=k))=true then kvs.map (λkv=>if kv.1=k then(kv.1,v) else kv) else kvs++[(k,v)]
def iT (kvs:List (κ × V)) (k:κ):List (κ × V):=kvs.filter λkv=>decide (kv.1≠k)
def fL {p:κ × V} {r:List (κ × V)} {k:κ} (e:p.1=k):cH (p::r) k=some p.2:=by simp [cH,J4,e]
def fM {p:κ × V} {r:List (κ × V)} {k:κ} (e:¬ p.1=k):cH (p::r) k=cH r k:=by simp [cH,J4,e]
theorem rC (k:κ):∀kvs:List (κ × V),(kvs.any λb=>decide (b.1=k))=(cH kvs k).isSome
 | []=>rfl
 | p::r=>by
  rw [K6]
  by_cases e:p.1=k
  ·simp only [fL e,decide_eq_true e,Bool.true_or,Option.isSome_some]
  ·rw [fM e,decide_eq_false e,Bool.false_or];exact rC k r
theorem uK (k j:κ) (y:V):∀kvs:List (κ × V),cH kvs k=none->cH (kvs++[(k,y)]) j=if j=k then some y else cH kvs j
 | [],_=>by
  by_cases e:k=j
  ·rw [if_pos e.symm];exact fL (p:=(k,y)) e
  ·rw [if_neg (λz=>e z.symm)];exact fM (p:=(k,y)) e
 | p::r,hn=>by
  rw [List.cons_append]
  have b:¬ p.1=k:=λz=>by rw [fL z] at hn;cases hn
  rw [fM b] at hn
  have c:=uK k j y r hn
  by_cases e:p.1=j
  ·rw [fL e,fL e,if_neg (λz=>b (e.trans z))]
  ·rw [fM e,fM e,c]
def jW (kvs:List (κ × V)) (k:κ) (v:V):(gP kvs k v).length<=kvs.length+1:=by
 unfold gP;split
 ·rw [i6];omega
 ·rw [p8,t7,O4];omega
def rR {kvs:List (κ × V)} {k:κ} (v:V) (h:cH kvs k=none):gP kvs k v=kvs++[(k,v)]:=by
 unfold gP;rw [rC,h];exact if_neg 7#0
def jC.isSome_eq (r:jC o u):o.isSome=u.isSome:=by
 cases o with
 | none=>cases u with
  | none=>rfl
  | some _=>exact(show False from r).elim
 | some _=>cases u with
  | none=>exact(show False from r).elim
  | some _=>rfl
theorem jC.getD (r:jC o u) (b:bF d d'):bF (o.getD d) (u.getD d'):=by
 cases o with
 | none=>cases u with
  | none=>exact b
  | some _=>exact(show False from r).elim
 | some _=>cases u with
  | none=>exact(show False from r).elim
  | some _=>exact r
def KV.val {kvs:List (κ × V)} {vs:List (κ × Value)} (r:KV kvs vs) (k:κ):jC (cH kvs k) (valueAt vs k):=by
 unfold KV at r
 induction r with
 | nil=>exact E1
 | @cons p q n c h t l=>
  let (j,m):=h;by_cases e:p.1=k
  ·let g:q.1=k:=j.symm.trans e;let b:valueAt (q::c) k=some q.2:=by simp [valueAt,J4,g]
   rw [fL e,b];exact m
  ·let g:¬ q.1=k:=λz=>e (j.trans z);let b:valueAt (q::c) k=valueAt c k:=by simp [valueAt,J4,g]
   rw [fM e,b];exact l
theorem KV.any (r:KV kvs vs) (k:κ):(kvs.any λb=>decide (b.1=k))=vs.any λb=>decide (b.1=k):=by
 unfold KV at r
 induction r with
 | nil=>rfl
 | cons h t ih=>rw [K6,K6,ih,h.1]
def KV.repl (r:KV kvs vs) (k:κ) {y:V} {u:Value} (j:bF y u):
  KV (kvs.map λb=>if b.1=k then(b.1,y) else b) (vs.map λb=>if b.1=k then(b.1,u) else b):=by
 unfold KV at r ⊢
 induction r with
 | nil=>exact .nil
 | @cons p q ps qs h t ih=>
  rw [x9,x9];refine .cons ?_ ih;let (c,g):=h;by_cases e:p.1=k
  ·rw [if_pos e,if_pos (c.symm.trans e)];exact {(c),j}
  ·rw [if_neg e,if_neg (λz=>e (c.trans z))];exact {(c),g}
def KV.put (r:KV kvs vs) (k:κ) {y:V} {u:Value} (b:bF y u):KV (gP kvs k y) (stored vs k u):=by
 unfold gP stored;rw [r.any k];by_cases e:(vs.any λc=>decide (c.1=k))=true
 ·rw [if_pos e,if_pos e];exact r.repl k b
 ·rw [if_neg e,if_neg e];exact Paired.snoc r {(rfl),b}
def KV.drop {kvs:List (κ × V)} {vs:List (κ × Value)} (r:KV kvs vs) (k:κ):KV (iT kvs k) (without vs k):=by
 unfold KV at r ⊢;unfold iT without
 induction r with
 | nil=>exact .nil
 | @cons p q ps qs h t ih=>
  let (c,g):=h;rw [Q7,Q7];by_cases e:p.1=k
  ·let a:¬ decide (p.1≠k)=true:=by simp [e]
   let b:¬ decide (q.1≠k)=true:=by simp [c.symm.trans e]
   rw [if_neg a,if_neg b];exact ih
  ·let j:¬ q.1=k:=λz=>e (c.trans z);let a:decide (p.1≠k)=true:=by simp [e]
   let b:decide (q.1≠k)=true:=by simp [j]
   rw [if_pos a,if_pos b];exact .cons {(c),g} ih
def KV.keys {kvs:List (κ × V)} {vs:List (κ × Value)} (r:KV kvs vs):kvs.map (·.1)=vs.map (·.1):=by
 unfold KV at r
 induction r with
 | nil=>rfl
 | cons h t ih=>rw [x9,x9,ih,h.1]
theorem KV.length (r:KV kvs vs):kvs.length=vs.length:=Paired.length r
def Ql (kvs:List (κ × V)) (k:κ):(iT kvs k).length<=kvs.length:=C1 _ _
end
def pB {P:Program} {w:World} {k:bK} {u:Value} (r:bF (kV k) u):(cC P w).is k u=true:=by
 cases k with
 | inl i=>let (t,e):=(show ∃t,u=Value.int i t from r);subst e;exact yT P w i t
 | inr x=>let (t,e):=(show ∃t,u=Value.str x t from r);subst e;exact yS P w x t
theorem vA {P:Program} {w:World}:∀{ks:List bK} {us:List Value},bB (ks.map kV) us->ItemsAre (cC P w) ks us
 | [],_,r=>by rw [O9] at r;cases r;exact .nil
 | k::ks,_,r=>by
  rw [x9] at r
  cases r with
  | cons h t=>exact .cons (pB h) (vA t)
abbrev KT (H:Hp):List (List bK × V)->List (List bK × Addr × Value)->Prop:=Paired λp q=>p.1=q.1/\H q.2.1=some (.tup (p.1.map kV))/\bF p.2 q.2.2
def KT.val {H:Hp} {kvs:List (List bK × V)} {xs:List (List bK × Addr × Value)} (r:KT H kvs xs) (k:List bK):jC (cH kvs k) ((atKey xs k).map (·.2)):=by
 induction r with
 | nil=>exact E1
 | @cons p q n c h t l=>
  let (j,_,m):=h;by_cases e:p.1=k
  ·let g:q.1=k:=j.symm.trans e;let b:atKey (q::c) k=some q.2:=by simp [atKey,J4,g]
   rw [fL e,b];exact m
  ·let g:¬ q.1=k:=λz=>e (j.trans z);let b:atKey (q::c) k=atKey c k:=by simp [atKey,J4,g]
   rw [fM e,b];exact l
def KT.repl (r:KT H kvs xs) (k:List bK) {y:V} {u:Value} (j:bF y u):
  KT H (kvs.map λc=>if c.1=k then(c.1,y) else c) (xs.map (putAt k u)):=by
 induction r with
 | nil=>exact .nil
 | @cons p q ps qs h t ih=>
  rw [x9,x9];refine .cons ?_ ih;let (b,g,l):=h;unfold putAt;by_cases e:p.1=k
  ·rw [if_pos e,if_pos (b.symm.trans e)];exact {(b),g,j}
  ·rw [if_neg e,if_neg (λz=>e (b.trans z))];exact {(b),g,l}
def KT.put (r:KT H kvs xs) (k:List bK) {b:Addr} {y:V} {u:Value} (g:H b=some (.tup (k.map kV))) (c:bF y u):
  KT H (gP kvs k y) (storedH xs k b u):=by
 let e:(kvs.any λj=>decide (j.1=k))=(atKey xs k).isSome:=by
  rw [rC,(r.val k).isSome_eq,Option.isSome_map]
 unfold gP storedH;rw [e];by_cases q:(atKey xs k).isSome=true
 ·rw [if_pos q,if_pos q];exact r.repl k c
 ·rw [if_neg q,if_neg q];exact Paired.snoc r {(rfl),g,c}
def KT.keeps (r:KT H kvs xs) (g:∀b c,H b=some (.tup c)->H' b=some (.tup c)):KT H' kvs xs:=
 Paired.mapP r λ_ _ z=>{z.1,g _ _ z.2.1,z.2.2}
section
variable {P:Program} {w:World} {H:Hp} {h:Heap} {a:Addr}
def Yi (b:lJ P w H h) (e:Rd H a u):bN P w H h a u:=e.ok b
def tF (c:lJ P w H h) (e:Rd H a (.dK kvs)):kvs.length<=sizeLine/\(a == sysModules)=false/\∃b,KV kvs b/\h.DictOf (cC P w) a b:=
 show bN P w H h a (.dK kvs) from Yi c e
def Qo (c:lJ P w H h) (e:H a=some (.dK kvs)):kvs.length<=sizeLine/\(a == sysModules)=false/\∃b,KV kvs b/\h.DictOf (cC P w) a b:=tF c (.inl e)
def oP (g:lJ P w H h) (e:H a=some (.tup (ks.map kV))):(tupleKind (cC P w)).is h ks a:=by
 let (_,b,r,o,l,j,n,c):=(show bN P w H h a (.tup (ks.map kV)) from g a _ e);exact {o,b.toArray,n,l,j,c,by simpa using vA r}
def tD (g:lJ P w H h) (e:Rd H a (.dT kvs)):kvs.length<=sizeLine/\(a == sysModules)=false /\
  ∃b,KT H kvs b/\h.DictOfH (tupleKind (cC P w)) a b:=by
 let (z,y,b,r,o,F,C,G,D,n,B,j):=(show bN P w H h a (.dT kvs) from Yi g e);refine {z,y,b,r,o,F,C,G,D,n,B,λx hx=>?_,j};let c:∀{l:List (List bK × V)} {m:List (List bK × Addr × Value)},KT H l m->∀x ∈ m,(tupleKind (cC P w)).is h x.1 x.2.1:=by
  intro l m q
  induction q with
  | nil=>intro x hx;exact nomatch hx
  | @cons p q ps qs hq t ih=>
   intro x hx;rcases i9.mp hx with e|hx
   ·subst e;exact oP g (by rw [<- hq.1];exact hq.2.1)
   ·exact ih x hx
 exact c r x hx
def HL (c:lJ P w H h) (e:H a=some (.dT kvs)):kvs.length<=sizeLine/\(a == sysModules)=false /\
  ∃b,KT H kvs b/\h.DictOfH (tupleKind (cC P w)) a b:=tD c (.inl e)
end
def eK (H:Hp) (a:Addr) (y:V) (r:Option V):Prop:=
 (∃kvs k,Rd H a (.dK kvs)/\y=kV k/\r=cH kvs k)\/∃kvs k b,Rd H a (.dT kvs)/\y=.ref b/\H b=some (.tup (k.map kV))/\r=cH kvs k
def pO (H:Hp) (a:Addr) (y v:V) (H':Hp):Prop:=
 (∃kvs k,H a=some (.dK kvs)/\y=kV k/\kvs.length<sizeLine/\H'=upd H a (.dK (gP kvs k v))) \/
 ∃kvs k b,H a=some (.dT kvs)/\y=.ref b/\H b=some (.tup (k.map kV))/\kvs.length<sizeLine/\H'=upd H a (.dT (gP kvs k v))
theorem eK.k {H:Hp} {a:Addr} {kvs:List (bK × V)} {k:bK} (e:H a=some (.dK kvs)):eK H a (kV k) (cH kvs k):=.inl {kvs,k,.inl e,rfl,rfl}
theorem pO.k {H:Hp} {a:Addr} {kvs:List (bK × V)} {k:bK} {v:V} (e:H a=some (.dK kvs)) (b:kvs.length<sizeLine):pO H a (kV k) v (upd H a (.dK (gP kvs k v))):=.inl {(kvs),k,e,rfl,b,rfl}
section
variable {pins:List (Addr × Obj)} {σ:St} {H:Hp} {s:Shared} {a:Addr} {y v:V} {u r:Value} {o:Option V} {A:Around} {E:Value->Shared->Prop}
def aW.big (I:5#0):sysModules<s.heap.objs.size:=by
 let h:mainGlobals<s.heap.objs.size:=(I.mod.glob.keeps I.bk).lt;exact Nat.lt_trans 7#0 h
def Iy (G:A.units+1<cLine) (I:5#0) (g:eK H a y (some v)) (x:bF y u) (h:∀m B,aW X pins σ H B->bF v m->Q m B):
  wpAny 4#0 A (getItem (.ref a) u) Q E s:=by
 rcases g with ⟨kvs,k,e,n,l⟩|⟨kvs,k,b,e,n,J,l⟩
 ·subst n;let (z,K,D,j,dd):=tF I.hok e;let (m,t,c):=jC.some_of (v:=v) (o:=valueAt D k) (by rw [l];exact j.val k);exact wpAny_getItem_of (pB x) dd.mapOf t (h m _ (I.tok _) c)
 ·subst n;cases (show u=Value.ref b from x);let (z,K,C,j,dd):=tD I.hok e;let (m,t,c):=jC.some_of (v:=v) (o:=(atKey C k).map (·.2)) (by rw [l];exact j.val k);let (p,F,q):=Option.map_eq_some_iff.mp t;refine wpAny_getItem_heap (tupleKind_room_in1 G) (oP I.hok J) dd F ?_;rw [q];exact h m _ (I.tok _) c
def KK (t:A.units+1<cLine) (I:5#0) (g:eK H a y o) (p:bF y u) (h:∀n,aW X pins σ H n->Q (.bool o.isSome) n):
  wpAny 4#0 A (compareOp .In u (.ref a)) Q E s:=by
 rcases g with ⟨kvs,k,e,j,l⟩|⟨kvs,k,b,e,j,x,l⟩
 ·subst j;let (z,m,C,c,dd):=tF I.hok e;refine wpAny_in_of (pB p) m dd.mapOf ?_;rw [<- (c.val k).isSome_eq,<- l];exact h _ (I.tok _)
 ·subst j;cases (show u=Value.ref b from p);let (z,m,B,c,dd):=tD I.hok e;refine wpAny_in_heap (tupleKind_room_in1 t) (oP I.hok x) m dd ?_;let q:=(c.val k).isSome_eq;rw [Option.isSome_map] at q;rw [<- q,<- l];exact h _ (I.tok _)
def Wh (t:A.units+1<cLine) (I:5#0) (g:eK H a y o) (p:bF y u) (h:∀n,aW X pins σ H n->Q (.bool (!o.isSome)) n):
  wpAny 4#0 A (compareOp .NotIn u (.ref a)) Q E s:=by
 rcases g with ⟨kvs,k,e,j,l⟩|⟨kvs,k,b,e,j,x,l⟩
 ·subst j;let (z,m,C,c,dd):=tF I.hok e;refine wpAny_notIn_of (pB p) m dd.mapOf ?_;rw [<- (c.val k).isSome_eq,<- l];exact h _ (I.tok _)
 ·subst j;cases (show u=Value.ref b from p);let (z,m,B,c,dd):=tD I.hok e;refine wpAny_notIn_heap (tupleKind_room_in1 t) (oP I.hok x) m dd ?_;let q:=(c.val k).isSome_eq;rw [Option.isSome_map] at q;rw [<- q,<- l];exact h _ (I.tok _)
def qK (I:5#0) (n:IF (H a)) (m:Heap.SameBut a s.heap h') (l:∃q,h'.get? a=some q) (c:bN X.prog X.w (upd H a g) h' a g):
  aW X pins σ (upd H a g) { s with heap:=h',toks:=t' }:=
 I.write (x:=a) (e:=a) n (.inl rfl) (λb q j z=>(m.2 b j).trans z) l c
def Ci {P:Program} {w:World} {H':Hp} {h':Heap} {kvs:List (bK × V)} {vs:List (bK × Value)} (z:kvs.length<=sizeLine) (c:(a == sysModules)=false) (b:KV kvs vs) (dd:h'.DictOf (cC P w) a vs):
  bN P w H' h' a (.dK kvs):={(z),c,vs,b,dd}
def Ix (W:A.units+1<cLine) (I:5#0) (g:pO H a y v H') (K:bF y u) (G:bF v r) (h:∀L,aW X pins σ H' L->Q () L):
  wpAny 4#0 A (setItem (.ref a) u r) Q E s:=by
 rcases g with ⟨kvs,k,e,x,l,t⟩|⟨kvs,k,b,e,x,M,l,t⟩
 ·subst x t;let (z,D,vs,j,dd):=Qo I.hok e
  let C:vs.length<=sizeLine:=by rw [<- j.length];exact z
  let B:(gP kvs k v).length<=sizeLine:=by have:=jW kvs k v;omega
  refine wpAny_setItem_pairs (hsz:=C) (pB K) dd λJ m p=>h _ ?_;let O:∃q,J.get? a=some q:=let ⟨q,_,_,n,_⟩:=m;{(q),n};exact qK I (by rw [e];exact E1) p O (Ci B D (j.put k G) m)
 ·subst x t;cases (show u=Value.ref b from K);let (z,D,xs,j,dd):=HL I.hok e
  let C:xs.length<=sizeLine:=by rw [<- Paired.length j];exact z
  let B:(gP kvs k v).length<=sizeLine:=by have:=jW kvs k v;omega
  refine wpAny_setItem_heap (hsz:=C) (tupleKind_room_in1 W) (oP I.hok M) dd λJ m p=>h _ ?_;let (q,U,S,n,T,Y,Z,_,N):=m;refine qK I (by rw [e];exact E1) p {(q),n} {B,D,_,(j.put k M G).keeps λc ys F=>?_,q,U,S,n,T,Y,Z,N};rw [aE (aL F e 13#0)];exact F
end
section
variable {pins:List (Addr × Obj)} {σ:St} {H:Hp} {s:Shared} {a:Addr} {kvs:List (bK × V)} {k:bK} {u:Value} {A:Around} {E:Value->Shared->Prop}
def HN (I:5#0) (e:H a=some (.dK kvs)) (m:bF (kV k) u) (l:cH kvs k=some v) (B:b=[]\/∃x,b=[x])
  (h:∀g p,aW X pins σ (upd H a (.dK (iT kvs k))) p->bF v g->Q g p):wpAny 4#0 A (call (.builtin "dict.pop") (.ref a::u::b)) Q E s:=by
 let (z,N,C,c,dd):=Qo I.hok e
 let (g,G,n):=jC.some_of (v:=v) (o:=valueAt C k) (by rw [<- l];exact c.val k)
 let M:(keyPart u).isSome=true:=by
  cases k with
  | inl i=>let (t,q):=(show ∃t,u=Value.int i t from m);subst q;rfl
  | inr x=>let (t,q):=(show ∃t,u=Value.str x t from m);subst q;rfl
 let L:argsOk "dict.pop" {.ref a::u::b,[]}:=by
  rcases B with q|⟨x,q⟩
  ·subst q;exact PySem.F.args_dict_pop_2 _ _
  ·subst q;exact PySem.F.args_dict_pop_3 _ _ _
 refine call_meetsIn PySem.F.slot_dict_pop dd.typeIs PySem.F.entry_dict_pop L (meets_dict_pop_there (cC X.prog X.w) a (pB m) b B M)
  {C,g,dd,by rw [<- c.length];exact z,G,λD j K=>h g _ ?_ n}
 let J:∃q,D.get? a=some q:=let ⟨q,_,_,hq,_⟩:=j;{(q),hq};exact qK I (by rw [e];exact E1) K J (Ci (u8 (Ql kvs k) z) N (c.drop k) j)
end
def DU (i:Expr):Prop:=∀ov iv,subscripted i false ov iv=operate [ov,iv] (getItem ov iv)
def So {prog:Program} {w:World} {A:Around} {E:Value->Shared->Prop} {s:Shared} {env:Env} {value b:Expr} {pos:Pos} {T q:String} {Q:Value->Shared->Prop}
  (p:typeLookup (.type T) "__getitem__"=pure (some (.builtin q))) (n:DU b)
  (h:wpAny 8#0 A (eval value env) (λo j=>wpAny 8#0 A (eval b env) (λi s₂=>s₂.TypeIs o T/\wpAny 8#0 A (getItem o i) Q E s₂) E j) E s):
  wpAny 8#0 A (eval (.Subscript value b pos) env) Q E s:=by
 refine Subscript_ (y7 h (λo j z=>y7 z (λi s₂ g=>?_) λ_ _ x=>x) λ_ _ x=>x);let (l,g):=g;unfold subscriptTail;refine g7 ?_;rw [getitemInPython_of_ne l.not_modules];refine g7 (wpAny_specialOf l p ?_);let c:wpAny 8#0 A (subscripted b false o i) (λr m=>wpAny 8#0 A (letTemporaryGo value o r >>= λ_=>pure r) Q E m) E s₂:=by
  rw [n o i];exact wpAny_operating (y7 g (λr m t=>g7 (wpAny_letTemporaryGo (j3 t))) λ_ _ x=>x)
 first
  | exact j3 (g7 c)
  | exact g7 (j3 (g7 c))
  | exact g7 c
def zO {X:Cx} {pins:List 10#0} {σ:St} {H:Hp} {s:Shared} {a:Addr} {y:V} {o:Option V} (I:5#0) (g:eK H a y o):s.TypeIs (.ref a) "dict":=by
 rcases g with ⟨kvs,k,e,_,_⟩|⟨kvs,k,b,e,_,_,_⟩
 ·let (_,_,j,_,dd):=tF I.hok e;exact dd.typeIs
 ·let (_,_,c,_,dd):=tD I.hok e;exact dd.typeIs
def Xx (td ty:TE):TE:=λσ H Q=>td σ H λx H1=>ty σ H1 λy H2=>∃a v,x=.ref a/\eK H2 a y (some v)/\Q v H2
def JA (ty td:TE):TE:=λσ H Q=>ty σ H λy H1=>td σ H1 λx H2=>∃a o,x=.ref a/\eK H2 a y o/\Q (.bl o.isSome) H2
def Sn (ty td:TE):TE:=λσ H Q=>ty σ H λy H1=>td σ H1 λx H2=>∃a o,x=.ref a/\eK H2 a y o/\Q (.bl (!o.isSome)) H2
def GE (td ty tv:TE):TS:=λD σ H=>tv σ H λv H1=>td σ H1 λx H2=>ty σ H2 λy H3=>∃a H4,x=.ref a/\pO H3 a y v H4/\D.nx σ H4
section
variable {o i e value:Expr} {pos pos' tpos:Pos} {td ty tv:TE}
def gQ (hu:X.A.units+1<cLine) (ho:PE X o td) (hi:PE X i ty) (hs:DU i):PE X (.Subscript o i pos) (Xx td ty):=by
 intro pins s σ H Q I h;refine So PySem.F.slot_dict_getitem.lookup hs (eN (ho s σ H _ I h) λu s1 x H1 I1 rx q1=>eN (hi s1 σ H1 _ I1 q1) λiv s2 y H2 I2 ry hUp=>?_);let (a,v,ex,g,q2):=hUp;subst ex;obtain rfl:u=Value.ref a:=rx;exact {zO I2 g,Iy hu I2 g ry λw' s3 I3 rw'=>{(v),H2,I3,rw',q2}}
def BJ (hu:X.A.units+1<cLine) (hi:PE X i ty) (ho:PE X o td):PC X .In i o (JA ty td):=by
 intro pins s σ H Q I h;refine eN (hi s σ H _ I h) λiv s1 y H1 I1 ry q1=>eN (ho s1 σ H1 _ I1 q1) λu s2 x H2 I2 rx hUp=>?_;let (a,ov,ex,g,q2):=hUp;subst ex;obtain rfl:u=Value.ref a:=rx;exact KK hu I2 g ry λs3 I3=>{.bl ov.isSome,H2,I3,rfl,q2}
def kY (hu:X.A.units+1<cLine) (hi:PE X i ty) (ho:PE X o td):PC X .NotIn i o (Sn ty td):=by
 intro pins s σ H Q I h;refine eN (hi s σ H _ I h) λiv s1 y H1 I1 ry q1=>eN (ho s1 σ H1 _ I1 q1) λu s2 x H2 I2 rx hUp=>?_;let (a,ov,ex,g,q2):=hUp;subst ex;obtain rfl:u=Value.ref a:=rx;exact Wh hu I2 g ry λs3 I3=>{.bl (!ov.isSome),H2,I3,rfl,q2}
def kU (hu:X.A.units+1<cLine) (ho:PE X o td) (hi:PE X i ty) (hv:PE X value tv) (hs:swapsWith value (some (.Subscript o i pos')) pos.line X.env=pure false):
  PS X (.Assign [.Subscript o i pos'] value pos) (GE td ty tv):=by
 intro pins s σ H D I h;refine wpAny_Assign_Subscript (eN (hv s σ H _ I h) λr s1 v H1 I1 rv q1=>eN (ho s1 σ H1 _ I1 q1) λu s2 x H2 I2 rx q2=>eN (hi s2 σ H2 _ I2 q2) λiv s3 y H3 I3 ry hUp=>?_) hs;let (a,H4,ex,g,q3):=hUp;subst ex;obtain rfl:u=Value.ref a:=rx;exact Ix hu I3 g ry rv λs4 I4=>{(σ),H4,I4,q3}
end
def zN {P:Program} {w:World} {H:Hp} (h:Heap) (b:sysModules<h.objs.size):bN P w H (h.push { cls:=.type "dict",data:=.dict #[] }) h.objs.size (.dK []):=
 {l7 _,beq_eq_false_iff_ne.mpr (F7 (q5 b)),[],.nil,Heap.DictOf.new h}
def Zr:TE:=λ_ H Q=>∀p,H p=none->Q (.ref p) (upd H p (.dK []))
section
variable {pos:Pos}
def mZ:PE X (.Dict [] [] pos) Zr:=λpins s σ H Q I h=>
 wpAny_Dict_empty {.ref s.heap.objs.size,_,I.laid (a:=s.heap.objs.size) (o:=.dK []) (t':=s.toks) (λ_ _ q=>i8 _ q) (i7 _) (zN s.heap I.big),rfl,h _ (I.hok.fresh (i7 _))}
end
def Ao:List (TE × TE)->St->Hp->(List (V × V)->Hp->Prop)->Prop
 | [],_,H,Q=>Q [] H
 | (tk,tv)::r,σ,H,Q=>tk σ H λx H1=>tv σ H1 λy H2=>Ao r σ H2 λps H3=>Q ((x,y)::ps) H3
abbrev VV:List (V × V)->List (Value × Value)->Prop:=Paired λp q=>bF p.1 q.1/\bF p.2 q.2
def IS (X:Cx) (pos:Pos) (keys:List (Option Expr)) (values:List Expr) (trs:List (TE × TE)):Prop:=
 ∀(pins:List 10#0) (s:Shared) (σ:St) (H:Hp) (Q:List (V × V)->Hp->Prop),aW X pins σ H s->Ao trs σ H Q ->
  wpAny 4#0 X.A (evalPairs (pairTrees keys values X.env pos)) (λvs s'=>∃ps H',aW X pins σ H' s'/\VV ps vs/\Q ps H') X.xe s
def Uh {X:Cx} {pos:Pos}:IS X pos [] [] []:=λpins s σ H Q I h=>pairTrees_nil_walk {[],H,I,.nil,h}
def iK {X:Cx} {pos:Pos} {k v:Expr} {ks:List (Option Expr)} {vs:List Expr} {tk tv:TE} {b:List (TE × TE)} (C:PE X k tk) (D:PE X v tv) (m:IS X pos ks vs b):
  IS X pos (some k::ks) (v::vs) ((tk,tv)::b):=λpins s σ H Q I h=>
 pairTrees_cons_walk (eN (C s σ H _ I h) λu c x F t g p=>eN (D c σ F _ t p) λK n y z j l B=>
  fY (m pins n σ z _ j B) λG J ⟨q,H3,I3,rel,q3⟩=>{(x,y)::q,H3,I3,.cons {(g),l} rel,q3})
def oM (kvs more:List (bK × V)):List (bK × V):=more.foldl (λacc kv=>gP acc kv.1 kv.2) kvs
def KV.merge:∀{b:List (bK × V)} {c:List (bK × Value)} {kvs:List (bK × V)} {vs:List (bK × Value)},KV b c->KV kvs vs->KV (oM kvs b) (merged vs c):=by
 intro b c kvs vs r;unfold KV at r
 induction r generalizing kvs vs with
 | nil=>intro q;exact q
 | @cons p q ps qs h t ih=>
  intro g;let e:KV (gP kvs p.1 p.2) (stored vs q.1 q.2):=by
   have:=g.put p.1 h.2;rw [<- h.1];exact this
  exact ih e
theorem lO:∀(b kvs:List (bK × V)),(oM kvs b).length<=kvs.length+b.length
 | [],kvs=>by show kvs.length<=kvs.length+0;omega
 | p::r,kvs=>by
  have g:=lO r (gP kvs p.1 p.2)
  have c:=jW kvs p.1 p.2
  show (oM (gP kvs p.1 p.2) r).length<=_
  rw [t7];omega
theorem tI {P:Program} {w:World}:∀{kvs:List (bK × V)} {j:List (Value × Value)},VV (kvs.map λl=>(kV l.1,l.2)) j->∃g,Carries (cC P w) j g/\KV kvs g
 | [],_,r=>by rw [O9] at r;cases r;exact {[],E1,.nil}
 | p::kvs,_,r=>by
  rw [x9] at r
  cases r with
  | @cons a b as bs h t=>
   let (g,c,q):=tI (P:=P) (w:=w) t
   let (n,m):=b
   exact {(p.1,m)::g,{pB h.1,rfl,c},.cons {(rfl),h.2} q}
def FL (trs:List (TE × TE)):TE:=λσ H Q=>∀p,H p=none->Ao trs σ (upd H p (.dK [])) λps H2=>H2 p=some (.dK [])/\∃kvs:List (bK × V),ps=kvs.map (λkv=>(kV kv.1,kv.2))/\kvs.length<=15/\Q (.ref p) (upd H2 p (.dK (oM [] kvs)))
def Up {X:Cx} {pos:Pos} {b:List (Option Expr)} {g:List Expr} {m:List (TE × TE)} (h:IS X pos b g m) (j:b.all (·.isSome)=true) (O:b.length=g.length) (L:b≠[])
  (n:b.length<=15):PE X (.Dict b g pos) (FL m):=by
 intro pins s σ H Q I q;let S:=I.hok.fresh (i7 s.heap.objs.size);let D:=I.laid (a:=s.heap.objs.size) (o:=.dK []) (h':=s.heap.push { cls:=.type "dict",data:=.dict #[] }) (t':=s.toks) (λ_ _ q=>i8 _ q) (i7 _) (zN s.heap I.big);refine wpAny_Dict_walk (knd:=cC X.prog X.w) j O L n (fY (h pins _ σ _ _ D (q _ S)) λY Z p=>?_);let (ps,H2,x,t,(e,kvs,F,lk,U)):=p;subst F;let (G,c,K):=tI (P:=X.prog) (w:=X.w) t;let (z,W,M,N,dd):=Qo x.hok e;cases N;refine {G,c,dd,λh' l C=>{.ref s.heap.objs.size,_,?_,rfl,U}};let T:(oM [] kvs).length<=sizeLine:=by
  let J:=lO kvs [];rw [O4] at J;rw [sizeLine_eq];omega
 let B:∃q,h'.get? s.heap.objs.size=some q:=let ⟨q,_,_,hq,_⟩:=l;{(q),hq};exact qK x (by rw [e];exact E1) C B (Ci T W (K.merge .nil) l)
structure M1 (X:Cx) (o:Expr) (m:Str) (apos:Pos) (e:Expr) (cpos:Pos):Prop where
 base:attributeBase o m X.env (eval o X.env)=eval o X.env
 few:((backTo cpos (starEach [e] X.env)).all (λx=>!x.1) && (backToKw cpos (keywordEach [] X.env)).all (λx=>x.1.isSome)
  && decide (([e]:List Expr).length+([]:List Keyword).length+(if ([]:List Keyword).isEmpty then 0 else 1)<30))=true
 line:(apos.endLine == cpos.line)=true
 trees:backTo cpos (starEach [e] X.env)=[(false,eval e X.env)]
def LB (H:Hp) (a:Addr):Prop:=(∃kvs,Rd H a (.dK kvs))\/∃kvs,Rd H a (.dT kvs)
def Pq {X:Cx} {pins:List 10#0} {σ:St} {H:Hp} {s:Shared} {a:Addr} (I:5#0) (d:LB H a):
  s.TypeIs (.ref a) "dict"/\(∀b,Value.ref a=.ref b->∃c,s.heap.get? b=some c/\c.dict=none)/\(a == sysModules)=false:=by
 rcases d with ⟨kvs,e⟩|⟨kvs,e⟩
 ·let (_,j,n,_,dd):=tF I.hok e;refine {dd.typeIs,λb q=>?_,j};cases q;let (c,_,_,l,g,_):=dd;exact {(c),l,g.2.1}
 ·let (_,j,m,_,dd):=tD I.hok e;refine {dd.typeIs,λb q=>?_,j};cases q;let (c,_,_,l,g,_):=dd;exact {(c),l,g.2.1}
section
variable {pins:List (Addr × Obj)} {σ:St} {H:Hp} {s:Shared} {a:Addr} {y d:V} {u r:Value} {o:Option V} {A:Around} {E:Value->Shared->Prop}
def DF (x:A.units+1<cLine) (I:5#0) (g:eK H a y o) (n:bF y u) (h:∀q p,aW X pins σ H p->bF (o.getD .non) q->Q q p):
  wpAny 4#0 A (call (.builtin "dict.get") [.ref a,u]) Q E s:=by
 rcases g with ⟨kvs,k,e,j,l⟩|⟨kvs,k,b,e,j,B,l⟩
 ·subst j;let (z,m,C,c,dd):=tF I.hok e;refine call_meetsIn PySem.F.slot_dict_get dd.typeIs PySem.F.entry_dict_get (PySem.F.args_dict_get_2 _ _) (meets_dict_get (cC X.prog X.w) a (pB n) m) {_,dd.mapOf,h _ _ (I.tok _) ?_};rw [l];exact(c.val k).getD rfl
 ·subst j;cases (show u=Value.ref b from n);let (z,m,t,c,dd):=tD I.hok e;refine call_meetsIn PySem.F.slot_dict_get dd.typeIs PySem.F.entry_dict_get (PySem.F.args_dict_get_2 _ _) (meetsH_dict_get (tupleKind (cC X.prog X.w)) a b m) {tupleKind_room_in1 x,k,t,oP I.hok B,dd,h _ _ (I.tok _) ?_};rw [l];exact(c.val k).getD rfl
end
def Zs (td ty:TE):TE:=λσ H Q=>td σ H λx H1=>∃a,x=.ref a/\LB H1 a/\ty σ H1 λy H2=>∃o,eK H2 a y o/\Q (o.getD .non) H2
def Zq (td ty:TE):TE:=λσ H Q=>td σ H λx H1=>∃a,x=.ref a/\LB H1 a/\ty σ H1 λy H2=>∃kvs k v,H2 a=some (.dK kvs)/\y=kV k/\cH kvs k=some v/\Q v (upd H2 a (.dK (iT kvs k)))
section
variable {o e f:Expr} {apos cpos:Pos} {td ty tx:TE}
def Ni (hu:X.A.units+1<cLine) (ho:PE X o td) (he:PE X e ty) (m:M1 X o "get" apos e cpos):PE X (.Call (.Attribute o "get" apos) [e] [] cpos) (Zs td ty):=by
 intro pins s σ H Q I h;refine wpAny_Call_method m.base m.few m.line PySem.F.plainAttrs_dict PySem.F.slot_dict_get PySem.F.type_dict_get (eN (ho s σ H _ I h) λu s1 x H1 I1 rx hUp=>?_);let (a,ex,d,q1):=hUp;subst ex;obtain rfl:u=Value.ref a:=rx;let (t1,t2,_):=Pq I1 d;refine {t1,t2,?_};rw [m.trees];refine L7 rfl (N0 (T3 (eN (he s1 σ H1 _ I1 q1) λiv s2 y H2 I2 ry ⟨ov,g,q2⟩=>Calls.spliced_nil ?_)));exact DF hu I2 g ry λw' s3 I3 rw'=>{_,H2,I3,rw',q2}
def Nh (ho:PE X o td) (he:PE X e ty) (m:M1 X o "pop" apos e cpos):PE X (.Call (.Attribute o "pop" apos) [e] [] cpos) (Zq td ty):=by
 intro pins s σ H Q I h;refine wpAny_Call_method m.base m.few m.line PySem.F.plainAttrs_dict PySem.F.slot_dict_pop PySem.F.type_dict_pop (eN (ho s σ H _ I h) λu s1 x H1 I1 rx hUp=>?_);let (a,ex,d,q1):=hUp;subst ex;obtain rfl:u=Value.ref a:=rx;let (t1,t2,_):=Pq I1 d;refine {t1,t2,?_};rw [m.trees];refine L7 rfl (N0 (T3 (eN (he s1 σ H1 _ I1 q1) λiv s2 y H2 I2 ry ⟨kvs,k,v,ea,ey,l,q2⟩=>Calls.spliced_nil ?_)));subst ey;exact HN I2 ea ry l (.inl rfl) λw' s3 I3 rw'=>{v,_,I3,rw',q2}
end
section
variable {pins:List (Addr × Obj)} {σ:St} {H:Hp} {s:Shared} {a:Addr} {kvs:List (bK × V)} {A:Around} {E:Value->Shared->Prop}
end
section
variable {pins:List (Addr × Obj)} {σ:St} {H:Hp} {s:Shared} {a:Addr} {y:V} {u:Value} {A:Around} {E:Value->Shared->Prop}
end
def aI (h:H p=none):aJ H (upd H p o):=λb u q=>by
 rw [aE (aF q h)]
 exact q
def Nq:lH X (binaryOp .FloorDiv) (rI (λ_ j=>0<j/\j<2 ^ 64) λi j=>.int (i / j)):=GP λi j _ _ _ _ _ a q=>by
 let e:i.fdiv j=i / j:=Int.fdiv_eq_ediv_of_nonneg _ (z4 a.1)
 rw [<- e] at q
 refine floordiv_int (Int.ne_of_gt a.1) q (.inl (PyProof.noPylong_of_log2 ?_))
 let c:j.natAbs<2 ^ 64:=∎
 let b:j.natAbs≠0:=∎
 let d:j.natAbs.log2<64:=(Nat.log2_lt b).mpr c
 omega
end
end L2
namespace HT
open PySem PyProof.Rows
section
variable {prog:Program} {w:World} {A:Around} {E:Value->Shared->Prop} {s:Shared}
def getItem_tuple_all {t e:Addr} {a:Array Value} {j l:Value} {lo hi:Option Int} {Q:Value->Shared->Prop} (b:IsTup s.heap t a) (k:s.heap.IsSliceOf e j l .none) (pl:IsPart j lo) (q:IsPart l hi)
  (i:sIx a.size 0 lo=0/\sIx a.size a.size hi=a.size) (h:Q (.ref t) s):wpAny 8#0 A (getItem (.ref t) (.ref e)) Q E s:=by
 let (p,g,d,m):=id k;let f:s.TypeIs (.ref e) "slice":={(p),g,d};unfold getItem
 try with_reducible refine y4 ?_
 first|refine g7 (j3 ?_)|skip
 refine g7 (wpAny_sequenceKey b.typeIs 7#0 ?_);refine g7 (B2 (name:=Str.ofString "__getitem__") b.typeIs E8
  (D8 E8 b.typeIs entry_tuple_getitem ?_ (args_tuple_getitem _ _)));show wpAny _ _ (Builtin.Tuple.tupleItemsOf (.ref t) >>= _) _ _ s;refine g7 (tupleItemsOf_ b ?_);refine g7 (wpAny_typeOf f ?_);rw [if_pos 7#0];refine g7 (iG k pl q ?_);let c:(((sIx a.size 0 lo:Nat):Int) == 0 && (1:Int) == 1 && (sIx a.size a.size hi-sIx a.size 0 lo) == a.size)=true:=by
  rw [i.1,i.2];simp
 show wpAny _ _ (if (((sIx a.size 0 lo:Nat):Int) == 0 && (1:Int) == 1 && (sIx a.size a.size hi-sIx a.size 0 lo) == a.size)=true then _ else _) _ _ s;rw [if_pos c];let (o,u,r,n,v):=id b;refine g7 ?_;unfold Builtin.Tuple.tupleIsExact;refine g7 (wpAny_typeOf b.typeIs ?_);refine j3 ?_;rw [if_pos 7#0];refine g7 (F1 ?_);exact j3 {_,rfl,j3 h}
end
end HT
namespace L2
open PySem PySem.Spec PyProof.Rows
section
variable {X:Cx}
def JI:V->Option Int->Option Int->Hp->VK->Prop:=λx lo hi H Q=>∃a xs,x=.ref a/\H a=some (.tup xs)/\∀p H',aJ H H'->H' p=some (.tup (oR xs lo hi))->Q (.ref p) H'
def Kr:IQ X JI:=by
 intro c s σ H x v u z i k B Q I m n t o h;let (a,b,rfl,j,q):=h;by_cases f:HT.sIx b.length 0 i=0/\HT.sIx b.length b.length k=b.length
 ·cases (show v=Value.ref a from m);let (g,r,l,C):=I.tuple (cG.of j);let d:g.toArray.size=b.length:=by rw [p9];exact r.length.symm
  refine {"tuple",_,PyProof.Rows.slot_tuple_getitem.lookup,l.typeIs,?_};refine HT.getItem_tuple_all l n t o (by rw [d];exact f) {.ref a,H,I,rfl,q a H (aJ.refl H) ?_};let e:oR b i k=b:=by
   unfold oR;rw [f.1,f.2];simp
  rw [e];exact j
 ·exact AI c s σ H _ v u z i k B Q I m n t o {a,b,rfl,cG.of j,f,λp y=>q p _ (aI y) aB}
end
abbrev Cx.blkF (X:Cx) (NB:List Str) (scope:Scope) (cl:List (Str × Addr)) (C:Addr) (s:Shared) (H:Hp) (fp:List Addr) (pn:List 10#0):Cx:=
 { X with N:=NB,s₀:=s,H₀:=H,env:=compEnvC scope cl C X.env,outer:=X.stack,ex:=fp,fn:=λ_=>false,pn:=pn,xe:=λ_ _=>False }
def dQ (n:Nat) (js:List Nat) (σ:St):St:=List.replicate n none++js.map λj=>(σ[j]?).join
def vU (n:Nat) (js:List Nat) (wi:TI) (g:TG) (tc:TT) (te:TE):TE:=λσ H Q=>wi σ H λJ H1=>∀acc,H1 acc=none ->
 ∃W:Nat->Nat->List V->Hp->Prop,(∃m,W 0 m [] (upd H1 acc (.lst [])))/\∀i m ys H,W i m ys H->H acc=some (.lst ys) /\
  ((J.stop i H/\Q (.ref acc) H)\/(J.go i H/\∀x H',J.yld i H x H'->g x (dQ n js σ) H' λσ2 H2=>σ2.drop n=(dQ n js σ).drop n/\tc σ2 H2 λb H3=>
   if b=true then te σ2 H3 λy H4=>H4 acc=some (.lst ys)/\ys.length<sizeLine/\∃m',m'<m/\W (i+1) m' (ys++[y]) (upd H4 acc (.lst (ys++[y])))
   else ∃m',m'<m/\W (i+1) m' ys H3))
structure fA (X:Cx) (NB:List Str) (n:Nat) (js:List Nat) (scope:Scope) (cl:List (Str × Addr)):Prop where
 clo:closureFor scope X.env=pure cl
 sub:∀x c,cl.lookup x=some c->X.env.cells.lookup x=some c
 has:∀x,((relabel scope X.env).names.lookup x=some .cell\/(relabel scope X.env).names.lookup x=some .free)->(cl.lookup x).isSome=true
 len:NB.length=n+js.length
 nam:∀k j,js[k]?=some j->NB[n+k]?=X.N[j]?
 ck:∀x,ED (relabel scope X.env) x->x ∈ NB.drop n->((relabel scope X.env).names.lookup x=some .cell\/(relabel scope X.env).names.lookup x=some .free)/\(X.env.kindOf x=some .cell\/X.env.kindOf x=some .free)/\(cl.lookup x).isSome=true
section
variable {X:Cx} {NB:List Str} {n:Nat} {js:List Nat} {scope:Scope} {cl:List (Str × Addr)}
def oU (T:fA X NB n js scope cl) (σ:St):(dQ n js σ).length=NB.length:=by
 unfold dQ;rw [p8,D5,i6,T.len]
def tM (h:(dQ n js σ)[i]?=some (some v)):∃k j,i=n+k/\js[k]?=some j/\σ[j]?=some (some v):=by
 unfold dQ at h;rcases Nat.lt_or_ge i n with c|c
 ·rw [B7 (by rw [D5];exact c),List.getElem?_replicate,if_pos c] at h;cases h
 ·rw [B1 (by rw [D5];exact c),D5,j7] at h;cases hj:js[i-n]? with
  | none=>rw [hj] at h;cases h
  | some j=>
   rw [hj] at h;let h:some ((σ[j]?).join)=some (some v):=h;let h:=Option.some.inj h;refine {i-n,j,∎,hj,?_};cases hs:σ[j]? with
   | none=>rw [hs] at h;cases h
   | some o=>
    rw [hs] at h;let h:o=some v:=h;rw [h]
def zR {pins:List 10#0} {σ:St} {H:Hp} {s:Shared} {h4:Heap} {tk:Nat} {A:List Addr} (I:5#0) (Y:scope.kind=.function) (T:fA X NB n js scope cl)
  (t:∀b ∈ A,mC X pins H b) (U:∀b ∈ A,b<s.heap.objs.size) {m:Str->Option Value} (hn:h4.Ns s.heap.objs.size m) (a:∀b o,s.heap.get? b=some o->h4.get? b=some o):
  aW (X.blkF NB scope cl s.heap.objs.size s H A (X.pn++pins)) [] (dQ n js σ) H { s with heap:=h4,toks:=tk }:=by
 let r:∀b,b≠X.env.locals->b ∉ X.fs->b ∉ mD X.stack:=λb M L z=>(i9.mp (I.stkSub b z)).elim M L;let (m0,P,C):=I.loc;refine {{I.ok.mod,Y,I.ok.glob,I.ok.blt,i7 _,λx y c l E=>I.ok.inj x y c (T.sub x c l) (T.sub y c E),λx q=>O8.mp (T.has x q),λx c q=>(nomatch q),I.ok.hd,I.ok.frames,.inl rfl,λb h=>{q5 (U b h),λx c q=>(t b h).2.2.2.2.1 x c (T.sub x c q)},I.bs,u8 I.ok.bsz I.sz,
  λb o q h=>?_,λb h=>r b (t b h).2.1 (t b h).2.2.1,I.stack,I.stkFree},rfl,I.bare,Un.kept a,{m,hn,λi x v l E J=>?_},λx c q=>?_,I.hok.fresh (i7 _),λx c q=>I.freeC x c (T.sub x c q),λp W=>?_,I.hok.kept a,?_}
 ·rcases (t b h).2.2.2.1 with z|z
  ·exact I.ok.noex b o q z
  ·exact absurd (u5 (j6 q) (u8 I.ok.bsz z)) (A5 _)
 ·let (k,j,rfl,O,K):=tM E;let l:NB[n+k]?=some x:=l
  let hx:X.N[j]?=some x:=by rw [<- T.nam k j O];exact l
  let hd:x ∈ NB.drop n:=j8 (i:=k) (by rw [v9];exact l);let (k1,G,S):=T.ck x J hd;let (c,F):=O8.mp S;let (u,ru,Z):=C j x v hx K (G.elim (λz=>.inr (.inl z)) λz=>.inr (.inr z));refine {u,ru,.inr {k1,c,F,?_}};rcases Z with ⟨z,_⟩|⟨_,Q,B,o,f,g⟩
  ·rcases G with w|w <;> (rw [w] at z;cases z)
  ·let e:Q=c:=Option.some.inj (B.symm.trans (T.sub x c F));subst e;exact {o,a _ _ f,g}
 ·let (v,o,f,g):=I.cell x c (T.sub x c q);exact {v,o,a _ _ f,g}
 ·let D:p ∈ X.pn++pins:=by simpa using W
  let (q,n,ne,nf,d):=I.pin p D;exact {a _ _ q,n,q5 (j6 q),r _ ne nf,d}
 ·exact oU T σ
def vH {pins:List 10#0} {σ k:St} {H H':Hp} {s s':Shared} {h2:Heap} {g:List Addr} {pl:List 10#0} (I:5#0) (i:∀b ∈ g,mC X pins H b) (w:∀b ∈ g,b<s.heap.objs.size)
  (J:aW (X.blkF NB scope cl s.heap.objs.size s H g (X.pn++pins)) pl k H' s') (f:Heap.SameBut s.heap.objs.size s'.heap h2):aW X pins σ H' { s' with heap:=h2 }:=by
 let u:=J.base;let a:∀b o,s.heap.get? b=some o->b≠s.heap.objs.size:=λb o q=>q5 (j6 q);refine I.call' (s':={ s' with heap:=h2 }) (ch:=g) J.os {λb o q n d e=>(f.2 b (a b o q)).trans (u.keep b o q n d e),λb o q n d e=>?_,u.free,λb o q e=>?_,u.tups,u.frzs,u.tbls} (λb o q=>?_) J.bare λb d=>?_
 ·let (t,z):=u.slot b o q n d e;exact {t,(f.2 b (a b o q)).trans z}
 ·let (m,z):=u.there b o q e;exact {m,(f.2 b (a b o q)).trans z}
 ·refine(J.hok b o q).stay (λc x hc r=>(f.2 c ?_).trans r) (λ_ r=>r) λ_ _ r=>r;let h:H' s.heap.objs.size=none:=J.free;rintro rfl;rcases hc with rfl|hc
  ·rw [h] at q;cases q
  ·rw [h] at hc;cases hc
 ·let (v,p,y,l,f4,j):=i b d;exact {(l),p,f4,j}
def dL {M tg E:Expr} {O:List Expr} {pos:Pos} {wi:TI} {g:TG} {tc:TT} {te:TE} (hk:scope.kind=.function) (a2:∀x ∈ scope.names,x.2≠.cell)
  (N:∀x ∈ scope.names,x.2=.local->scope.names.lookup x.1=some .local) (_:(0:Nat)=0) (T:fA X NB n js scope cl) (hi:PI X tg E wi)
  (hg:∀C s H B pn,PG (X.blkF NB scope cl C s H B pn) tg g) (ht:∀C s H B pn,IR (X.blkF NB scope cl C s H B pn) O tc) (he:∀C s H B pn,PE (X.blkF NB scope cl C s H B pn) M te)
  (hs:∀x,foldedSetIterable E X.env x=pure x:=by intro _;rfl):PE X (.ListComp M [{tg,E,O,0}] scope pos) (vU n js wi g tc te):=by
 intro a s σ H Q I h;rw [eval_ListComp];refine wpAny_comprehension_free (use:=none) rfl hs T.clo hk N (fY (hi s σ H _ I h) λv s1 h1=>fY h1 λb1 t h2=>?_);let (it,B,tn,J,K,rfl,I2,U,a3,f2,h2):=h2;let an:∀b ∈ B,b<t.heap.objs.size:=λb D=>by
  let (o,q,_):=U.obj 0 _ a3 b D;exact j6 q
 refine C2 ?_;let hz:K t.heap.objs.size=none:=I2.hok.fresh (i7 _);let (W,(m0,w0),af):=h2 t.heap.objs.size hz;let I3:aW X a σ (upd K t.heap.objs.size (.lst [])) { t with heap:=t.heap.push { cls:=.type "list",dict:=none,data:=.seq ([]:List Value).toArray } }:=
  I2.laid (t':=t.toks) (λb o q=>i8 _ q) (i7 _) {l7 _,[],0,.nil,n9 _ rfl}
 generalize hs3:({ t with heap:=t.heap.push { cls:=.type "list",dict:=none,data:=.seq ([]:List Value).toArray } }:Shared)=f at I3 ⊢
 let a0:∀b o,t.heap.get? b=some o->f.heap.get? b=some o:=λb o q=>by rw [<- hs3];exact i8 _ q
 let f3:∀b ∈ B,mC X a (upd K t.heap.objs.size (.lst [])) b:=λb D=>{by rw [aE (q5 (an b D))];exact(f2 b D).1,(f2 b D).2};let a4:∀b ∈ B,b<f.heap.objs.size:=λb D=>by
  let (o,q,_):=U.obj 0 _ a3 b D;exact j6 (a0 b o q)
 refine wpAny_newFunctionEnv a2 (by intro y hy;simp at hy) (λh4 aq ao=>?_) hk;let G:∀b o,f.heap.get? b=some o->h4.get? b=some o:=λb o q=>(ao.2 b (q5 (j6 q))).trans (i8 _ q);let I4:=zR (tk:=f.toks+([]:List (Str × Value)).length) I3 hk T f3 a4 aq G;let a9:tn 0 h4:=U.keep _ _ _ a3 λb D o q=>G b o (a0 b o q);let a1:∀{H':Hp},(∀b ∈ B,H' b=none)->∀b ∈ B,mC (X.blkF NB scope cl f.heap.objs.size f (upd K t.heap.objs.size (.lst [])) B (X.pn++a)) [] H' b:=λhn b D=>by
  let (g0,g1,g2,g3,g4,g5):=f3 b D;exact {hn b D,q5 (a4 b D),λz=>(i9.mp (I3.stkSub b z)).elim g1 g2,.inl D,λx c q=>g4 x c (T.sub x c q),λp hp=>g5 p (by simpa using hp)}
 let Z:∀s5:Shared,s5={ f with heap:=h4,toks:=f.toks+([]:List (Str × Value)).length }->codeAny 4#0 X.A (.compLoop (.ListComp M [{tg,E,O,0}] scope pos) 0 (.ref it) (.ref t.heap.objs.size) (compEnvC scope cl f.heap.objs.size X.env))
   (compPost 4#0 X.A X.xe none (EP X a σ Q) (.ref t.heap.objs.size) f.heap.objs.size) s5:=by
  rintro s5 rfl;refine codeAny_loop rfl (λk s'=>∃i ys H',aW (X.blkF NB scope cl f.heap.objs.size f (upd K t.heap.objs.size (.lst [])) B (X.pn++a)) [] (dQ n js σ) H' s'/\tn i s'.heap/\(∀b ∈ B,H' b=none)/\W i k ys H')
   (λk s6 hI=>?_) m0 {0,[],_,I4,a9,λb D=>(f3 b D).1,w0}
  let (i,ys,H6,I6,ae,a8,w6):=hI;show wpAny _ _ ((compTurn (.ListComp M [{tg,E,O,0}] scope pos) 0 (.ref it) (.ref t.heap.objs.size) (compEnvC scope cl f.heap.objs.size X.env)).onRaise (λx=>do noteFrame x (compEnvC scope cl f.heap.objs.size X.env);theTreesLotGoes x)) _ _ s6;refine wpAny_noted ?_;rw [compTurn_list];refine g7 (N5 (g7 ?_));let (b0,am):=af i k ys H6 w6;rcases am with ⟨ac,q⟩|⟨go,ah⟩
  ·refine fY (U.done (X.blkF NB scope cl f.heap.objs.size f (upd K t.heap.objs.size (.lst [])) B (X.pn++a)) rfl rfl rfl rfl i [] s6 _ H6 _ I6 (a1 a8) ae ac) λr s7 F=>?_;let (hr,I7):=F;subst hr;let (m,hm,_):=I7.loc;exact j3 {m,hm,λh' al=>{.ref t.heap.objs.size,H6,vH I3 f3 a4 I7 al,rfl,q}}
  ·refine fY (U.item (X.blkF NB scope cl f.heap.objs.size f (upd K t.heap.objs.size (.lst [])) B (X.pn++a)) rfl rfl rfl rfl i [] s6 _ H6 _ I6 (a1 a8) ae go) λr s7 F=>?_;let (u,hr,h7):=F;subst hr;refine g7 (fY h7 λ_ s8 F=>?_);let (x,H8,I8,r8,y8,a6,ax):=F;let aw:=I8.pinned (a1 ax) (U.obj _ _ a6);let gp:∀{P:St} {Y:Hp} {s9:Shared},aW (X.blkF NB scope cl f.heap.objs.size f (upd K t.heap.objs.size (.lst [])) B (X.pn++a)) ([]++gH B s8.heap) P Y s9->tn (i+1) s9.heap/\∀b ∈ B,Y b=none:=λI9=>
    ⟨U.keep _ _ _ a6 λb D o e=>(I9.pin (b,o) (k7 _ (k7 _ (eE D e)))).1,λb D=>by
     let (o,e,d):=U.obj _ _ a6 b D
     exact(I9.pin (b,o) (k7 _ (k7 _ (eE D e)))).2.1⟩
   let wk:∀{P:St} {Y:Hp} {s9:Shared},P.drop n=(dQ n js σ).drop n->aW (X.blkF NB scope cl f.heap.objs.size f (upd K t.heap.objs.size (.lst [])) B (X.pn++a)) ([]++gH B s8.heap) P Y s9->aW (X.blkF NB scope cl f.heap.objs.size f (upd K t.heap.objs.size (.lst [])) B (X.pn++a)) [] (dQ n js σ) Y s9:=λ{P Y s9} hd I9=>
    I9.unpinned.weak (by rw [oU T,I9.len]) λk v z=>by
     let (k',j,rfl,_,_):=tM z;let e:=congrArg (λl=>l[k']?) hd;simp only [v9] at e;rw [e];exact z
   refine g7 (y7 (hg _ _ _ _ _ s8 _ H8 x u _ aw r8 (ah x H8 y8)) (λ_ s9 hq=>?_) λ_ _ z=>z.elim);let (P,Y,I9,aa,q9):=hq;refine g7 (y7 (ht _ _ _ _ _ s9 P Y _ I9 q9) (λok ap hq=>?_) λ_ _ z=>z.elim);let (ag,S,L):=hq;cases ok with
   | false=>
    rw [if_neg 6#0] at L;let (m',a7,au):=L;exact j3 {rfl,m',a7,i+1,ys,ag,wk aa S,(gp S).1,(gp S).2,au}
   | true=>
    rw [if_pos rfl] at L;refine g7 (g7 (y7 (he _ _ _ _ _ ap P ag _ S L) (λy ay hq=>?_) λ_ _ z=>z.elim));let (yv,av,az,ry,ad,ai,m',a7,ar):=hq;let mt:=eJ (X:=X.blkF NB scope cl f.heap.objs.size f (upd K t.heap.objs.size (.lst [])) B (X.pn++a)) ([]++gH B s8.heap) ay P av (.ref t.heap.objs.size) [yv] (.ref t.heap.objs.size) [y] (λ_ H'=>W (i+1) m' (ys++[yv]) H') az rfl (.cons ry .nil) {_,ys,yv,rfl,rfl,ad,ai,ar};refine g7 (y7 mt (λ_ b3 hq=>?_) λ_ _ z=>z.elim);let (b2,aj,a5,_,ak):=hq;exact j3 (j3 {rfl,m',a7,i+1,_,aj,wk aa a5,(gp a5).1,(gp a5).2,ak})
 exact codeAny_compStart_list (Z _ rfl) (U.self _ 0 _ _ _ a9 (Z _ rfl))
def KE (K:PySem.W.Frag) (tl:TE):TI:=λσ H R=>tl σ H λx H1=>∃a,x=.ref a/\(((∃xs,cM K H1 a xs)/\R (De K a) H1)\/((∃xs,cG K H1 a xs)/\R (Xo K a) H1))
def BE (w:PE X l m) (g:X.calm=true:=by rfl):PI X B l (KE X.K m):=by
 intro r s σ H R I h;refine eN (w s σ H _ I h) λv c x t d y j=>?_;let (a,e,j):=j;subst e;cases y;rcases j with ⟨⟨u,k⟩,q⟩|⟨⟨u,k⟩,q⟩
 ·let (f,A,p,z):=d.list k;refine P7 p.isList ?_;refine {c.heap.objs.size,[c.heap.objs.size],_,_,t,rfl,d.kept (t':=c.toks) λb o e=>i8 _ e,uL a _ (I.ok.hd g),{_,n9 _ rfl,rfl,rfl},λb i=>?_,q};let e:b=c.heap.objs.size:=by simpa using i
  subst e;exact d.fpOk (i7 _) (d.hok.fresh (i7 _))
 ·let (f,A,p,z):=d.tuple k;refine T0 (show c.heap.IsTuple a f.toArray from p) ?_;refine {c.heap.objs.size,[c.heap.objs.size],_,_,t,rfl,d.kept (t':=c.toks) λb o e=>i8 _ e,rD a _ (I.ok.hd g),{_,n9 _ rfl,rfl,rfl},λb i=>?_,q};let e:b=c.heap.objs.size:=by simpa using i
  subst e;exact d.fpOk (i7 _) (d.hok.fresh (i7 _))
theorem xP:∀{ys:List Str} {us:List Value},bB (ys.map V.str) us->StrsAre us ys
 | [],_,.nil=>.nil
 | y::ys,_,.cons {(t),e} r=>by
  subst e
  exact .cons _ _ (xP r)
def GJ (K:PySem.W.Frag):V->List V->Hp->VK->Prop:=λx vs H Q=>∃z a ys,x=.str z/\vs=[.ref a]/\cM K H a (ys.map V.str)/\(ys.map λy=>y.length).sum+ys.length * z.length<=16777216/\Q (.str (Txt.join z ys)) H
def Vg:LX X "str.join" (GJ X.K):=by
 intro b s σ H x p v w Q I d i h;let (z,a,o,rfl,rfl,l,g,q):=h;let (t,rfl):=d;let (u,rfl,f):=i.one;cases f;let (c,e,m,j):=I.list l;exact join_list m.isList (xP e) g λr k=>{.str _,H,I.tok _,{_,rfl},q}
end
end L2
namespace L2
open PySem PySem.Spec PyProof.Rows PySem.W
open Classical in
section
variable {prog:Program} {w:World} {A:Around} {E:Value->Shared->Prop} {s:Shared}
end
theorem lL (f:α->β) (g:α->γ):∀{l:List α},(∀i ∈ l,F (f i) (g i))->Paired F (l.map f) (l.map g)
 | [],_=>.nil
 | a::l,h=>.cons (h a (j1 ..)) (lL f g λi b=>h i (i4 _ b))
section
variable {X:Cx}
section
variable {prog:Program} {w:World} {A:Around} {E:Value->Shared->Prop}
end
section
variable {pos:Pos}
end
def aW.byNews {pins:List 10#0} {σ:St} {H:Hp} {s:Shared} {h':Heap} {tk:Nat} {m:Str->Option Value} (I:5#0) (g:s.heap.Ns X.env.locals m) (F:Fr X.base X.env.locals h' m) (N:News X.base X.env.locals h' (qQ X.base s.heap X.env.locals)):
  aW X pins σ H { s with heap:=h',toks:=tk }:=by
 let a:∀b o,b≠X.env.locals->s.heap.get? b=some o->h'.get? b=some o:=λb o d e=>by
  cases z:X.base.get? b with
  | some f=>
   have:=I.bk b f z;rw [e] at this;cases this;exact F.keep b o z
  | none=>exact(N (b,o) (jV d z e)).1
 refine I.step (g':=s.gens) (d':=s.drawn) (ch:=[]) (λ_ z=>nomatch z) (λb o d _ _ e _=>a b o d e) (λb o d _ _ e _=>{o.slots,a b o d e}) (λb o _ e n=>n) (λb o _ e=>?_) (λ_ _ e=>e) (λ_ _ _ e=>e) (λb k e=>{#[],by simpa using e}) (λj h=>?_) (λb o q=>?_) I.bare
 ·by_cases d:b=X.env.locals
  ·subst d;let (f,_,_,z,_):=F.ns;exact {(f),z}
  ·exact {o,a b o d e}
 ·have:j=m:=funext λx=>h.agree g x;subst this;exact F.ns
 ·refine(I.hok b o q).stay (λc i hc r=>a c i ?_ r) (λ_ r=>r) λ_ _ r=>r;rintro rfl;rcases hc with hc|hc
  ·rw [<- hc,I.free] at q;cases q
  ·rw [I.free] at hc;cases hc
theorem oS:∀{bs:List Bool} {us:List Value},bB (bs.map V.bl) us->LSm.BoolsAre us bs
 | [],_,.nil=>.nil
 | b::bs,_,.cons e r=>by
  cases (show _=Value.bool b from e)
  exact .cons b (oS r)
def Qt (g:X.calm=true):gN X (.builtin "any") (λb H Q=>∃(a:Addr) (bs:List Bool),b=[.ref a]/\cM X.K H a (bs.map V.bl)/\Q (.bl (bs.any id)) H):=by
 intro c s σ H b p Q I r h;let (a,bs,rfl,k,q):=h;let (u,rfl,e):=jM r;cases e;let (d,f,l,o):=I.list k;let (m,F):=I.fr;exact LSm.any_bools F sK (I.ok.hd g) l.isList (oS f) λn t i j=>{.bl _,H,I.byNews F.ns i j,rfl,q}
def tK (g:X.calm=true):gN X (.builtin "all") (λb H Q=>∃(a:Addr) (bs:List Bool),b=[.ref a]/\cM X.K H a (bs.map V.bl)/\Q (.bl (bs.all id)) H):=by
 intro c s σ H b p Q I r h;let (a,bs,rfl,k,q):=h;let (u,rfl,e):=jM r;cases e;let (d,f,l,o):=I.list k;let (m,F):=I.fr;exact LSm.all_bools F sK (I.ok.hd g) l.isList (oS f) λn t i j=>{.bl _,H,I.byNews F.ns i j,rfl,q}
theorem bN.get {P:Program} {w:World} {H:Hp} {h:Heap} {a:Addr} {o:HO} (x:bN P w H h a o):∃u,h.get? a=some u:=by
 cases o with
 | lst xs=>let (_,_,_,_,e):=x;exact {_,e}
 | tup xs=>let (_,_,_,o,e,_):=x;exact {_,e}
 | dK kvs=>let (_,_,_,_,o,_,_,e,_):=x;exact {_,e}
 | dT kvs=>let (_,_,_,_,o,_,_,e,_):=x;exact {_,e}
 | set S n=>let (o,_,_,_,e,_):=x;exact {_,e}
 | ins C dx fs=>let (_,_,_,e,_):=x;exact {_,e}
 | own y=>let (_,e):=x;exact {_,e}
 | xd fs=>let (_,(_,_,_,e,_),_):=x;exact {_,e}
 | rng lo hi=>let (_,_,_,e):=x;exact {_,e}
 | frz ob u=>let (e,_):=x;exact {_,e}
 | tbl ps=>exact {_,show h.get? a=some _ from x}
 | met f y=>exact {_,show h.get? a=some _ from x}
 | ext φ=>let (_,(_,e),_):=x;exact {_,e}
def aW.byNewsL {pins:List 10#0} {σ:St} {H:Hp} {s:Shared} {h':Heap} {tk:Nat} {m:Str->Option Value} {D:Addr} {zs:List V} (I:5#0) (p:s.heap.Ns X.env.locals m) (h:h'.Ns X.env.locals m)
  (a:∀b o,b≠X.env.locals->s.heap.get? b=some o->h'.get? b=some o) (j:s.heap.get? D=none) (v:zs.length<=sizeLine) {g:List Value} {n:Nat} (B:bB zs g) (i:h'.get? D=some { cls:=.type "list",data:=.seq g.toArray n }):
  H D=none/\aW X pins σ (upd H D (.lst zs)) { s with heap:=h',toks:=tk }:=by
 let k:H D=none:=by
  cases z:H D with
  | none=>rfl
  | some o=>
   let (u,e):=(I.hok D o z).get;rw [j] at e;cases e
 refine {k,?_};let C:∀b o,s.heap.get? b=some o->b≠D:=λb o e z=>by
  rw [z,j] at e;cases e
 let d:∀b o,H b=some o->b≠D:=λb o e z=>by
  rw [z,k] at e;cases e
 refine I.step (g':=s.gens) (d':=s.drawn) (ch:=[]) (λ_ z=>nomatch z) (λb o f _ _ e _=>a b o f e) (λb o f _ _ e _=>{o.slots,a b o f e}) (λb o _ e n=>by rw [aE (C b o e)];exact n) (λb o _ e=>?_) (λb l e=>by rw [aE (d b _ e)];exact e) (λb o u e=>by rw [aE (d b _ e)];exact e) (λb E e=>{#[],by rw [aE (d b _ e)];simpa using e}) (λA t=>?_) (λb o q=>?_) I.bare
 ·by_cases f:b=X.env.locals
  ·subst f;let (w,_,_,z,_):=h;exact {(w),z}
  ·exact {o,a b o f e}
 ·have:A=m:=funext λx=>t.agree p x;subst this;exact h
 ·by_cases f:b=D
  ·subst f;rw [aB] at q;cases q;exact {(v),g,n,B,i}
  ·rw [aE f] at q;refine(I.hok b o q).stay (λc y hc r=>a c y ?_ r) (λc e=>by rw [aE (d c _ e)];exact e) λc l e=>by rw [aE (d c _ e)];exact e
   rintro rfl;rcases hc with hc|hc
   ·rw [<- hc,I.free] at q;cases q
   ·rw [I.free] at hc;cases hc
theorem yZ:∀{ns:List Int} {us:List Value},bB (ns.map V.int) us->IntsAre us ns
 | [],_,.nil=>.nil
 | n::ns,_,.cons {(t),e} r=>by
  subst e
  exact .cons n t (yZ r)
def uW:lH X (compareOp .LtE) (λx y H Q=>∃i j,x=.str i/\y=.str j/\Q (.bl (!decide (j.cps.toList<i.cps.toList))) H):=by
 intro a s σ H x y v u Q I b c h;let (i,j,rfl,rfl,q):=h;let (t,rfl):=b;let (d,rfl):=c;exact PySem.P.le_str {.bl _,H,I,rfl,q}
section
variable {prog:Program} {w:World} {A:Around} {E:Value->Shared->Prop} {s:Shared}
def Aj {α:Type} {M:Model} {c:Prop} [Decidable c] {a b:Sem α} {Q:α->Shared->Prop} (d:c->wpAny M A a Q E s) (h2:¬ c->wpAny M A b Q E s):wpAny M A (if c then a else b) Q E s:=by
 split
 ·exact d ‹_›
 ·exact h2 ‹_›
def Cr (ht:IsTup s.heap t items) (hi:Builtin.SmallTypes.fitsIndex i=true)
  (hQ:∀h':Heap,IsEnum h' (s.heap.objs.size+1) s.heap.objs.size i .none->h'.IsTupleIter s.heap.objs.size t 0->h'.objs.size=s.heap.objs.size+2->(∀b o,s.heap.get? b=some o->h'.get? b=some o)->Q (.ref (s.heap.objs.size+1)) { s with heap:=h' }):
  wpAny 8#0 A (call (.type "enumerate") [.ref t] [("start",.int i u)]) Q E s:=by
 refine M9 (codeAny_of_tree ?_);refine j3 {Code.quiet_builtin _ callType_meets._proof_1_1,L0 F.entry_type_call ?_};rw [Around.under_plain (weight_type_call_type "enumerate" [.ref t] [("start",.int i u)]) (units_type_call_type "enumerate" [.ref t] [("start",.int i u)])];let ft:=F.called_enumerate;unfold Builtin.«type.__call__»;refine D4 7#0 ?_;refine D4 (by rw [ft.canCreate];decide) ?_;let hct:checkTypeCall "enumerate" { pos:=[.ref t],kw:=[("start",.int i u)] }=pure ():=by rfl
 let (c,tl,hmro):=ft.mro;let hmade:=ft.made;refine g7 (C9 hct ?_);refine g7 (C9 hmro ?_);refine D4 6#0 ?_;refine g7 (C9 hmade ?_);refine g7 (j3 ?_);refine g7 (y4 ?_);let hcn:checkBuiltinCall "enumerate.__new__" { pos:=[Value.type "enumerate",.ref t],kw:=[("start",.int i u)] }=pure ():=by kernel_rfl
 refine M9 (S0 ft.plain F.entry_enumerate_new (C9 hcn ?_));unfold Builtin.«enumerate.__new__»;let hnc:Builtin.SmallTypes.newClass "enumerate" { pos:=[Value.type "enumerate",.ref t],kw:=[("start",.int i u)] }=pure (Value.type "enumerate",[.ref t]):=by rfl
 refine g7 (C9 hnc ?_);refine S6 7#0 ?_;refine g7 ?_;unfold Builtin.SmallTypes.calledThroughType;refine g7 (wpAny_stack_any λst=>j3 ?_);let rest:∀(R:PySem.Fin->Shared->Prop) (E':Value->Shared->Prop),(∀h':Heap,IsEnum h' (s.heap.objs.size+1) s.heap.objs.size i .none->h'.IsTupleIter s.heap.objs.size t 0->h'.objs.size=s.heap.objs.size+2->(∀b o,s.heap.get? b=some o->h'.get? b=some o)->R (PySem.Fin.done (Flow.ret (.ref (s.heap.objs.size+1)))) { s with heap:=h' }) ->
   wpAny 8#0 A.in1.in1 (do
    let obj <- Builtin.SmallTypes.indexObject "enumerate.__new__" (Value.int i u)
    let x <- asInt? obj
    match x with
    | some i=>
     if (!Builtin.SmallTypes.fitsIndex i)=true then do
      rule "enumerate.__new__.huge-start"
      match obj with
      | Value.int _ _=>do
       let given <- pure obj
       let it <- pyIter (.ref t)
       let r <- Builtin.SmallTypes.newRecord (Value.type "enumerate") (Builtin.SmallTypes.ownedTupleFields++[it,rawInt i,given,Value.none])
       ret r
      | _=>do
       let given <- mkInt i
       let it <- pyIter (.ref t)
       let r <- Builtin.SmallTypes.newRecord (Value.type "enumerate") (Builtin.SmallTypes.ownedTupleFields++[it,rawInt i,given,Value.none])
       ret r
     else do
      let it <- pyIter (.ref t)
      let r <- Builtin.SmallTypes.newRecord (Value.type "enumerate") (Builtin.SmallTypes.ownedTupleFields++[it,rawInt i,Value.none,Value.none])
      ret r
    | none=>do
     let _ <- (unsupported "internal:enumerate.__new__":Sem Unit)
     let it <- pyIter (.ref t)
     let r <- Builtin.SmallTypes.newRecord (Value.type "enumerate") (Builtin.SmallTypes.ownedTupleFields++[it,rawInt 0,Value.none,Value.none])
     ret r) R E' s:=λR E' hR=>by
  refine g7 (C9 (a:=Value.int i u) (by rfl) ?_);refine g7 (C9 (a:=some i) (by rfl) ?_);refine D4 (by rw [hi];decide) ?_;refine g7 (T0 (show s.heap.IsTuple t items from ht) ?_);refine g7 ?_;show wpAny _ _ (newObj (Value.type "enumerate") (Data.fields #[Value.none,Value.bool false,.ref s.heap.objs.size,rawInt i,Value.none,Value.none])) _ _ _;refine C2 ?_;refine j3 ?_;let sz:(s.heap.push { cls:=Value.type "tuple_iterator",data:=Data.fields #[Value.ref t,Value.int 0 0] }).objs.size=s.heap.objs.size+1:=by rw [M4]
  rw [sz];refine hR _ ?_ ?_ ?_ ?_
  ·rw [<- sz];exact n9 _ rfl
  ·exact {_,i8 _ (n9 _ rfl),rfl,rfl}
  ·rw [M4,sz]
  ·exact λb o e=>i8 _ (i8 _ e)
 refine Aj (λ_=>?_) (λ_=>?_)
 all_goals
  refine g7 (C9 (a:=(Value.ref t,some (Value.int i u))) (by kernel_rfl) ?_);refine rest _ _ λh' e1 e2 e3 e4=>?_;show wpAny _ _ (isInstance (Value.ref (s.heap.objs.size+1)) (Value.type "enumerate") >>= _) _ _ _;refine g7 (Q8 {_,e1,rfl} ft.sub ?_);refine D4 7#0 ?_;refine g7 (y4 (B2 {_,e1,rfl} ft.init ?_));refine wpAny_call_entry_kw ft.init {_,e1,rfl} F.entry_object_init ?_ (by kernel_rfl);unfold Builtin.«object.__init__»;refine S6 (by rfl) ?_;refine g7 (wpAny_typeOf {_,e1,rfl} ?_);refine g7 (C9 ft.init.lookup ?_);refine g7 (C9 hmade ?_);refine D4 7#0 ?_;refine D4 (by kernel_rfl) ?_;refine j3 {_,rfl,?_};refine D4 7#0 ?_;refine j3 ?_;exact hQ h' e1 e2 e3 e4
def Bw (b:IsTupIter s.heap it t i) (h:IsTup s.heap t a) (j:a[i]?=some x)
  (m:∀e,IsTupIter e it t (i+1)->Heap.SameBut it s.heap e->Q x { s with heap:=e }):wpAny 8#0 A (Builtin.SmallTypes.nextOf (.ref it)) Q E s:=by
 let (o,d,k,c):=id b;let (n,g,l,p,f):=id h;unfold Builtin.SmallTypes.nextOf;refine g7 (B2 b.typeIs slot_tupleiter_next (D8 slot_tupleiter_next b.typeIs entry_tupleiter_next ?_ (args_tupleiter_next _)));show wpAny _ _ (field (Value.ref it) 0 >>= _) _ _ _;refine g7 (z9 d c (x:=.ref t) rfl ?_);refine D4 (by rfl) ?_;refine g7 (z9 d c (x:=.int i 0) rfl ?_);refine g7 (K4 g f ?_);show wpAny _ _ (match a[((i:Int)).toNat]? with|some x=>_|none=>_) _ _ _;rw [E3,j];refine g7 (F8 d c 6#0 ?_);refine j3 {x,rfl,j3 (m _ {_,J3 _ d (R6 (P1 c _)),(Obj.cls_mapFields o _).trans k,?_} (D3 s.heap it _))};rw [P1 c];simp [rawInt]
def jT (m:A.handled=none) (c:IsTupIter s.heap it t i) (k:IsTup s.heap t a) (l:a[i]?=none)
  (q:∀d e,Heap.ExtBut it s.heap d->(∃o,d.get? e=some o/\o.cls=Value.type "StopIteration")->E (.ref e) { s with heap:=d }):wpAny 8#0 A (Builtin.SmallTypes.nextOf (.ref it)) Q E s:=by
 let (o,g,u,h):=id c;let (r,j,p,y,f):=id k;unfold Builtin.SmallTypes.nextOf;refine g7 (B2 c.typeIs slot_tupleiter_next (D8 slot_tupleiter_next c.typeIs entry_tupleiter_next ?_ (args_tupleiter_next _)));show wpAny _ _ (field (Value.ref it) 0 >>= _) _ _ _;refine g7 (z9 g h (x:=.ref t) rfl ?_);refine D4 (by rfl) ?_;refine g7 (z9 g h (x:=.int i 0) rfl ?_);refine g7 (K4 j f ?_);show wpAny _ _ (match a[((i:Int)).toNat]? with|some x=>_|none=>_) _ _ _;rw [E3,l];refine g7 (F1 ?_);refine g7 (F8 g h 6#0 ?_);unfold Builtin.SmallTypes.stopIteration;refine g7 ?_;unfold newExc;refine g7 (S7 ?_ (l7 _));refine g7 (C9 rfl ?_);refine C2 ?_ (sizeOk_excFields _ _ _ _ _ _ _ _);unfold raiseNew;refine g7 (wpAny_handled ?_);rw [show A.in1.handled=none from m];refine wpAny_throw ?_;refine q _ _ (λb v n e=>?_) {_,n9 _ rfl,rfl};refine i8 _ (i8 _ ?_);rw [Heap.get?_update_ne _ _ _ _ n];exact e
def Iw (m:A.handled=none) (n:t≠it):Draws prog w A it [it,t] a.size (λi v=>a[i]?=some v) (λi h=>IsTupIter h it t i/\IsTup h t a) where
 live:=λi h ⟨⟨o,ho,_⟩,_⟩=>{(o),ho}
 frame:=λi h g ⟨⟨o,ho,r⟩,⟨e,b,f⟩⟩ k=>{{o,k it 6#0 o ho,r},{e,k t 6#0 e b,f}}
 item:=λi s Q E j c h=>Bw c.1 c.2 (w9 j) λg d l=>h _ g s.toks (w9 j) ⟨d,by
  let (e,b,f):=c.2
  exact {e,(l.2 t n).trans b,f}⟩ l
 done:=λs Q E c h=>jT m c.1 c.2 6#0 h
def Hu {e it:Addr} {Z:List Addr} {n j:Nat} {i:Int} {P:Nat->Value->Prop} {St:Nat->Heap->Prop} {G:Value} {Q:Option Value->Shared->Prop} (D:Draws prog w A.in1 it Z n P St) (H:IsEnum s.heap e it i G) (K:St j s.heap) (U:j<n) (W:e≠it) (L:e ∉ Z)
  (hQ:∀x t k,P j x->IsEnumOut t e it (i+1) x s.heap.objs.size->St (j+1) t->t.get? s.heap.objs.size=some { cls:=Value.type "tuple",data:=Data.seq #[Value.int i k,x] }->t.objs.size=s.heap.objs.size+1 ->
   (∀b o,b≠e->b≠it->s.heap.get? b=some o->t.get? b=some o)->Q (some (.ref s.heap.objs.size)) { s with heap:=t,toks:=k+1 }):wpAny 8#0 A (pyNext (.ref e)) Q E s:=by
 let hT:s.TypeIs (.ref e) "enumerate":={_,H,rfl};show wpAny _ _ (_ >>= _) _ _ _;refine g7 (J6 (B2 hT M6 (D8 M6 hT F.entry_enumerate_next ?_ (F.args_enumerate_next_1 _))));unfold Builtin.«enumerate.__next__»;refine g7 (C9 (a:=(Value.ref e,[])) (by rfl) ?_);refine g7 (z9 H rfl rfl ?_);refine g7 (D.item j s _ _ U K λx h1 k hx J h=>?_);let l:=(h.2 e W).trans H;refine g7 (z9 l rfl rfl ?_);refine g7 (z9 l rfl rfl ?_);refine S6 (by rfl) ?_;refine g7 (wpAny_mkInt ?_);refine g7 (L1 l 6#0 λh2 S u=>?_);refine g7 (L1 S 6#0 λr X v=>?_);refine g7 (S7 ?_ (by show 2<=sizeLine;decide));let m:(r.push { cls:=Value.type "tuple",data:=Data.seq #[Value.int i k,x] }).get? e=some { cls:=Value.type "enumerate",data:=Data.fields #[Value.none,Value.bool false,Value.ref it,rawInt (i+1),Value.none,G] }:=i8 _ X;unfold Builtin.SmallTypes.ownedTupleIsFree;refine g7 (g7 (z9 m rfl rfl (j3 ?_)));refine S6 (by rfl) ?_;refine g7 (F1 ?_);refine g7 (z9 m rfl rfl ?_);refine g7 (L1 m 6#0 λh5 N B=>?_);unfold Builtin.SmallTypes.ownedTupleHandOut;refine g7 (g7 (L1 N 6#0 λh6 O C=>?_));refine L1 O 6#0 λp Y y=>?_;refine g7 (Q3 ?_);let d:r.objs.size=s.heap.objs.size:=v.1.trans (u.1.trans h.1);let T:(r.push { cls:=Value.type "tuple",data:=Data.seq #[Value.int i k,x] }).objs.size=s.heap.objs.size+1:=by rw [M4,d]
 let M:p.objs.size=s.heap.objs.size+1:=y.1.trans (C.1.trans (B.1.trans T));let el:e<s.heap.objs.size:=j6 H;let f:∀b o,b≠e->(r.push { cls:=Value.type "tuple",data:=Data.seq #[Value.int i k,x] }).get? b=some o->p.get? b=some o:=λb o c z=>(y.2 b c).trans ((C.2 b c).trans ((B.2 b c).trans z));let k1:∀b o,b≠e->h1.get? b=some o->p.get? b=some o:=λb o c z=>f b o c (i8 _ ((v.2 b c).trans ((u.2 b c).trans z)));refine j3 {_,rfl,?_};show wpAny _ _ (pure (some (Value.ref r.objs.size))) _ _ _;refine j3 ?_;rw [d];let g:p.get? e=some { cls:=Value.type "enumerate",data:=Data.fields #[rawInt (r.objs.size:Nat),Value.bool false,Value.ref it,rawInt (i+1),Value.none,x] }:=Y;rw [d] at g;refine hQ x p k hx g (D.frame (j+1) h1 p J λb c o z=>k1 b o (λq=>L (q ▸ c)) z) ?_ M λb o c I z=>k1 b o c ((h.2 b I).trans z);refine f _ _ (M3 el) ?_;rw [<- d];exact n9 _ rfl
def tZ (n:A.handled=none) (h:IsEnum s.heap e it i f) (d:IsTupIter s.heap it t j) (l:IsTup s.heap t b) (m:b[j]?=none)
  (p:∀c,Heap.ExtBut it s.heap c->Q none { s with heap:=c }):wpAny 8#0 A (pyNext (.ref e)) Q E s:=by
 let k:s.TypeIs (.ref e) "enumerate":={_,h,rfl};show wpAny _ _ (_ >>= _) _ _ _;refine g7 (J6 (B2 k M6 (D8 M6 k F.entry_enumerate_next ?_ (F.args_enumerate_next_1 _))));unfold Builtin.«enumerate.__next__»;refine g7 (C9 (a:=(Value.ref e,[])) (by rfl) ?_);refine g7 (z9 h rfl rfl ?_);exact g7 (jT n d l m λc x g ⟨o,ho,hc⟩=>g7 (Q8 {(o),ho,hc} isSubtype_stop (j3 (p c g))))
end
def aW.turnedL {pins:List 10#0} {σ:St} {H:Hp} {s:Shared} {h':Heap} {tk:Nat} {ch:List Addr} {T:Addr} {zs:List V} (I:5#0) (d:∀b ∈ ch,mC X pins H b) (k:∀b o,b ∉ ch->s.heap.get? b=some o->h'.get? b=some o)
  (i:s.heap.objs.size<=T) (h:bN X.prog X.w (upd H T (.tup zs)) h' T (.tup zs)):aW X pins σ (upd H T (.tup zs)) { s with heap:=h',toks:=tk }:=by
 let p:H T=none:=I.hok.fresh i;let l:∀b o,s.heap.get? b=some o->b≠T:=λb o e z=>by
  have:=j6 e;rw [z] at this;exact absurd (u5 this i) (A5 _)
 let a:∀b o,H b=some o->b≠T:=λb o e z=>by
  rw [z,p] at e;cases e
 let g:X.env.locals ∉ ch:=λz=>(d _ z).2.1 rfl;refine I.step (g':=s.gens) (d':=s.drawn) (ch:=ch) (λb f=>{(d b f).2.2.2.1,(d b f).2.1,(d b f).2.2.2.2.1,(d b f).2.2.2.2.2}) (λb o _ _ hc e _=>k b o hc e) (λb o _ _ hc e _=>{o.slots,k b o hc e}) (λb o _ e n=>by rw [aE (l b o e)];exact n) (λb o hc e=>{o,k b o hc e}) (λb j e=>by rw [aE (a b _ e)];exact e) (λb o u e=>by rw [aE (a b _ e)];exact e) (λb B e=>{#[],by rw [aE (a b _ e)];simpa using e}) (λy m=>?_) (λb o q=>?_) I.bare
 ·let (o,x,t,z,r):=m;exact {o,x,t,k _ _ g z,r}
 ·by_cases f:b=T
  ·subst f;rw [aB] at q;cases q;exact h
  ·rw [aE f] at q;refine(I.hok b o q).stay (λc v hc r=>k c v ?_ r) (λc e=>by rw [aE (a c _ e)];exact e) λc j e=>by rw [aE (a c _ e)];exact e
   intro z;rcases hc with hc|hc
   ·rw [<- hc,(d c z).1] at q;cases q
   ·rw [(d c z).1] at hc;cases hc
def aW.turnedN {pins:List 10#0} {σ:St} {H:Hp} {s:Shared} {h':Heap} {tk:Nat} {ch:List Addr} (I:5#0) (a:∀b ∈ ch,mC X pins H b) (k:∀b o,b ∉ ch->s.heap.get? b=some o->h'.get? b=some o):aW X pins σ H { s with heap:=h',toks:=tk }:=by
 let f:X.env.locals ∉ ch:=λz=>(a _ z).2.1 rfl;refine I.step (g':=s.gens) (d':=s.drawn) (ch:=ch) (λb d=>{(a b d).2.2.2.1,(a b d).2.1,(a b d).2.2.2.2.1,(a b d).2.2.2.2.2}) (λb o _ _ hc e _=>k b o hc e) (λb o _ _ hc e _=>{o.slots,k b o hc e}) (λb o _ e n=>n) (λb o hc e=>{o,k b o hc e}) (λb g e=>e) (λb o u e=>e) (λb p e=>{#[],by simpa using e}) (λm h=>?_) (λb o q=>?_) I.bare
 ·let (o,l,j,z,r):=h;exact {o,l,j,k _ _ f z,r}
 ·refine(I.hok b o q).stay (λc i hc r=>k c i ?_ r) (λc e=>e) λc g e=>e;intro z;rcases hc with hc|hc
  ·rw [<- hc,(a c z).1] at q;cases q
  ·rw [(a c z).1] at hc;cases hc
def IH (K:Frag) (t:Addr) (dB:Int):It:=
 ⟨λi H=>∃xs x,cG K H t xs/\xs[i]?=some x,λi H x H'=>∃T v,H T=none/\x=.ref T/\H'=upd H T (.tup [.int (dB+i),v])/\∀xs,cG K H t xs->xs[i]?=some v,λi H=>∃xs,cG K H t xs/\xs.length<=i⟩
def Gu {P:Program} {C:Option Value} {w:World} {K:Frag} {F:List Expr} {k1:Nat} {pos:Pos} {t e it:Addr} {dB:Int} (l:e≠it) (e0:C=none):xD P w K C (.Tuple F k1 pos) (IH K t dB) [e,it] e (λi h=>(∃a,IsEnum h e it (dB+i) a)/\IsTupIter h it t i) where
 mem:=by simp
 obj:=λi h ⟨⟨a,d⟩,⟨o,B,_,hd⟩⟩ b hb=>by
  rcases i9.mp hb with rfl|hb
  ·exact {_,d,λv z=>by cases z}
  ·let e1:b=it:=by simpa using hb
   subst e1
   exact {o,B,λv z=>by rw [hd] at z;cases z}
 keep:=λi h h' ⟨⟨a,d⟩,⟨o,B,r⟩⟩ k=>{{a,k e 6#0 _ d},{o,k it 6#0 o B,r}}
 item:=by
  intro X Z Q hK O i n s σ H E I L st Y;subst Z Q hK;let (xs,x,J,hx):=Y;let (c,U,p,hz):=I.tuple J;let (u,hu,ru):=U.get hx;let ((a,d),f):=st;let a3:t≠it:=λz=>by
   let (o1,z1,z2,_):=f;let (o2,G,g,_):=p;rw [z,z1] at G;cases G;rw [z2] at g;injection g with g;exact absurd g (by decide)
  let a1:t≠e:=λz=>by
   let (o2,G,g,_):=p;rw [z,d] at G;cases G;injection g with g;exact absurd g (by decide)
  let D:Draws X.prog X.w X.A.in1 it [it,t] c.toArray.size (λi v=>c.toArray[i]?=some v) (λi h=>IsTupIter h it t i/\IsTup h t c.toArray):=Iw (O.trans e0) a3;let a2:i<c.toArray.size:=by
   have:=(i5.mp hu).1;simpa using this
  refine Hu D d {(f),p} a2 l (by simp [l,a1.symm]) λy h1 tk hy B N hT a4 kp=>{_,rfl,?_};let ey:y=u:=by
   have:c.toArray[i]?=some u:=by simpa using hu
   exact Option.some.inj (hy.symm.trans this)
  subst ey;refine wpAny_letOwnedTupleGo_enum B λh2 a0 j=>?_;let M:s.heap.objs.size≠e:=M3 (j6 d);let T2:h2.get? s.heap.objs.size=some { cls:=Value.type "tuple",data:=Data.seq #[Value.int (dB+i) tk,y] }:=(j.2 _ M).trans hT;let k2:∀b o,b ∉ [e,it]->s.heap.get? b=some o->h2.get? b=some o:=λb o hb z=>by
   let m:b≠e:=λq=>hb (by simp [q]);let S:b≠it:=λq=>hb (by simp [q]);exact(j.2 b m).trans (kp b o m S z)
  refine {.ref s.heap.objs.size,upd H s.heap.objs.size (.tup [.int (dB+i),x]),I.turnedL L k2 (i7 _) {by show 2<=sizeLine;decide,[Value.int (dB+i) tk,y],.cons {_,rfl} (.cons ru .nil),{_,T2,rfl,_,rfl}},rfl,{_,x,I.hok.fresh (i7 _),rfl,rfl,λys T=>by rw [I.tuple_inj T J];exact hx},{{y,?_},?_},λb hb=>?_}
  ·rw [show dB+((i+1:Nat):Int)=dB+i+1 by omega];exact a0
  ·let (o,z,r):=N.1;exact {o,(j.2 it l.symm).trans z,r}
  ·let lb:b<s.heap.objs.size:=by
    rcases i9.mp hb with rfl|hb
    ·exact j6 d
    ·let e1:b=it:=by simpa using hb
     subst e1;let (o,z,_):=f;exact j6 z
   rw [aE (q5 lb)];exact(L b hb).1
 done:=by
  intro X Z Q hK O i n s σ H E I L st Y;subst Z Q hK;let (xs,J,hx):=Y;let (c,U,p,hz):=I.tuple J;let ((a,d),f):=st;let hl:=U.length;exact tZ (O.trans e0) d f p (by simp;omega) λh' eb=>{rfl,I.turnedN (tk:=s.toks) L λb o hb z=>eb b o (λq=>hb (by simp [q])) z}
 self:=λ_ _ _ _ _ ⟨⟨a,d⟩,_⟩ h=>wpAny_pyIter_enum d h
def HH (K:Frag) (ta td:TA):TI:=λσ H R=>ta σ H λxs H1=>td σ H1 λds H2=>∃(t:Addr) (d:Int),xs=[.ref t]/\ds=[.int d]/\Builtin.SmallTypes.fitsIndex d=true/\(∃ys,cG K H2 t ys)/\R (IH K t d) H2
def Es {x:Str} {p pos c k:Pos} {a b:Expr} {m:List Expr} {k1:Nat} {B C:TA} (T:Gl X x) (hm:X.mg x=none) (hv:bootBuiltins x=some (.type "enumerate")) (ha:PA X [a] B) (hd:PK X [{some "start",b,c}] C) (hn:x≠"__name__":=by decide) (o:(x == ("__debug__":Str))=false:=by decide)
  (l:(backToKw pos (keywordEach [{some "start",b,c}] X.env)).all (·.1.isSome)=true:=by rfl) (n:(backToKw pos (keywordEach [{some "start",b,c}] X.env)).filterMap (·.1)=[("start":Str)]:=by rfl)
  (G:starEach [a] X.env=(false,eval a X.env)::starEach [] X.env:=by rfl) (y:((backTo pos (starEach [a] X.env)).any (·.1) || (backToKw pos (keywordEach [{some "start",b,c}] X.env)).any (·.1.isNone))=false:=by rfl) (v:X.calm=true:=by rfl):
  PI X (.Tuple m k1 k) (.Call (.Name x p) [a] [{some "start",b,c}] pos) (HH X.K B C):=by
 intro f s σ H R I h;refine D7 (jX I T hm hv ?_ hn o);refine PySem.W.callWith_of (P:=λg=>X.K.In g) y (λ_ _=>{.machine,.inr (.inl rfl),.now}) (O5 l (vT (ha f s σ H _ I h) λus N vs M J r q=>?_) G);refine vT (hd pos f N σ M _ J q) λws j zs D i rz z=>{i.kIn,?_};rw [n];let (t,d,rfl,rfl,hf,(ys,L),z):=z;let (u,rfl,Z):=r.one;cases Z;let (u',rfl,tk,rfl):=rz.one;let (O,rv,Q,hz):=i.tuple L;refine Cr Q hf λh' F U e3 Y=>?_;refine wpAny_pyIter_enum F ?_;let S:aW X f σ D { j with heap:=h' }:=i.kept (t':=j.toks) Y;refine {j.heap.objs.size+1,[j.heap.objs.size+1,j.heap.objs.size],_,_,D,rfl,S,Gu (t:=t) (dB:=d) (Nat.succ_ne_self _) (I.ok.hd v),{{.none,by rw [show d+((0:Nat):Int)=d by omega];exact F},U},λb hb=>?_,z};rcases i9.mp hb with rfl|hb
 ·exact i.fpOk (L5 _) (i.hok.fresh (L5 _))
 ·let e:b=j.heap.objs.size:=by simpa using hb
  subst e;exact i.fpOk (i7 _) (i.hok.fresh (i7 _))
end
end L2
namespace L2
open PySem PySem.Spec PyProof.Rows
section
variable {X:Cx}
end
section
variable {X:Cx} {NB:List Str} {n:Nat} {js:List Nat} {scope:Scope} {cl:List (Str × Addr)}
def kR {K tg B:Expr} {M:List Expr} {pos a4 py:Pos} {y:Str} {ix:Nat} {wi:TI} {g:TG} {tc:TT} {te:TE} (hN:X.N.Nodup) (ax:X.N[ix]?=some y) (b7:vN X.env.scope y) (hk:scope.kind=.function) (a7:∀x ∈ scope.names,x.2≠.cell)
  (a1:∀x ∈ scope.names,x.2=.local->scope.names.lookup x.1=some .local) (_:(0:Nat)=0) (T:fA X NB n js scope cl) (hi:PI X tg B wi)
  (hg:∀C s H G pn,PG (X.blkF NB scope cl C s H G pn) tg g) (ht:∀C s H G pn,IR (X.blkF NB scope cl C s H G pn) M tc) (he:∀C s H G pn,PE (X.blkF NB scope cl C s H G pn) K te)
  (b5:swapsWith (.ListComp K [{tg,B,M,0}] scope pos) (some (.Name y py)) a4.line X.env=pure true:=by rfl)
  (hf:X.fn y=true\/X.env.scope.names.lookup y=some .local:=by first|exact .inl rfl|exact .inr rfl|assumption)
  (hs:∀x,foldedSetIterable B X.env x=pure x:=by intro _;rfl):PS X (.Assign [.Name y py] (.ListComp K [{tg,B,M,0}] scope pos) a4) (Gw (vU n js wi g tc te) (cS ix)):=by
 intro f s σ H D I h;rw [exec_Assign_Name_used _ _ _ _ b5];refine g7 (N5 (g7 ?_));show wpAny _ X.A (do let _ <- comprehension (.ListComp K [{tg,B,M,0}] scope pos) scope X.env _ (newList []) false (eval B X.env) (some (assign (.Name y py) X.env))) _ _ s;refine g7 (y7 (wpAny_comprehension_free (use:=some (assign (.Name y py) X.env)) (Q:=λ_ s'=>SP X f D .next s') rfl hs T.clo hk a1 (fY (hi s σ H _ I h) λv s1 h1=>fY h1 λbd E h2=>?_)) (λ_ s' Y=>j3 (j3 Y)) λ_ _ e=>e);let (it,G,tn,J,S,rfl,I2,U,a8,f2,h2):=h2;let aw:∀b ∈ G,b<E.heap.objs.size:=λb F=>by
  let (o,q,_):=U.obj 0 _ a8 b F;exact j6 q
 refine C2 ?_;let hz:S E.heap.objs.size=none:=I2.hok.fresh (i7 _);let (W,(m0,w0),am):=h2 E.heap.objs.size hz;let I3:aW X f σ (upd S E.heap.objs.size (.lst [])) { E with heap:=E.heap.push { cls:=.type "list",dict:=none,data:=.seq ([]:List Value).toArray } }:=
  I2.laid (t':=E.toks) (λb o q=>i8 _ q) (i7 _) {l7 _,[],0,.nil,n9 _ rfl}
 generalize hs3:({ E with heap:=E.heap.push { cls:=.type "list",dict:=none,data:=.seq ([]:List Value).toArray } }:Shared)=t at I3 ⊢
 let a5:∀b o,E.heap.get? b=some o->t.heap.get? b=some o:=λb o q=>by rw [<- hs3];exact i8 _ q
 let f3:∀b ∈ G,mC X f (upd S E.heap.objs.size (.lst [])) b:=λb F=>{by rw [aE (q5 (aw b F))];exact(f2 b F).1,(f2 b F).2};let a9:∀b ∈ G,b<t.heap.objs.size:=λb F=>by
  let (o,q,_):=U.obj 0 _ a8 b F;exact j6 (a5 b o q)
 refine wpAny_newFunctionEnv a7 (by intro y hy;simp at hy) (λh4 b0 ay=>?_) hk;let P:∀b o,t.heap.get? b=some o->h4.get? b=some o:=λb o q=>(ay.2 b (q5 (j6 q))).trans (i8 _ q);let I4:=zR (tk:=t.toks+([]:List (Str × Value)).length) I3 hk T f3 a9 b0 P;let ah:tn 0 h4:=U.keep _ _ _ a8 λb F o q=>P b o (a5 b o q);let a6:∀{H':Hp},(∀b ∈ G,H' b=none)->∀b ∈ G,mC (X.blkF NB scope cl t.heap.objs.size t (upd S E.heap.objs.size (.lst [])) G (X.pn++f)) [] H' b:=λhn b F=>by
  let (g0,g1,g2,g3,g4,g5):=f3 b F;exact {hn b F,q5 (a9 b F),λz=>(i9.mp (I3.stkSub b z)).elim g1 g2,.inl F,λx c q=>g4 x c (T.sub x c q),λp hp=>g5 p (by simpa using hp)}
 let a3:∀s5:Shared,s5={ t with heap:=h4,toks:=t.toks+([]:List (Str × Value)).length }->codeAny 4#0 X.A (.compLoop (.ListComp K [{tg,B,M,0}] scope pos) 0 (.ref it) (.ref E.heap.objs.size) (compEnvC scope cl t.heap.objs.size X.env))
   (compPost 4#0 X.A X.xe (some (assign (.Name y py) X.env)) (λ_ s'=>SP X f D .next s') (.ref E.heap.objs.size) t.heap.objs.size) s5:=by
  rintro s5 rfl;refine codeAny_loop rfl (λk s'=>∃i ys H',aW (X.blkF NB scope cl t.heap.objs.size t (upd S E.heap.objs.size (.lst [])) G (X.pn++f)) [] (dQ n js σ) H' s'/\tn i s'.heap/\(∀b ∈ G,H' b=none)/\W i k ys H')
   (λk s6 hI=>?_) m0 {0,[],_,I4,ah,λb F=>(f3 b F).1,w0}
  let (i,ys,H6,I6,al,ag,w6):=hI;show wpAny _ _ ((compTurn (.ListComp K [{tg,B,M,0}] scope pos) 0 (.ref it) (.ref E.heap.objs.size) (compEnvC scope cl t.heap.objs.size X.env)).onRaise (λx=>do noteFrame x (compEnvC scope cl t.heap.objs.size X.env);theTreesLotGoes x)) _ _ s6;refine wpAny_noted ?_;rw [compTurn_list];refine g7 (N5 (g7 ?_));let (bc,au):=am i k ys H6 w6;rcases au with ⟨aj,q⟩|⟨go,ao⟩
  ·refine fY (U.done (X.blkF NB scope cl t.heap.objs.size t (upd S E.heap.objs.size (.lst [])) G (X.pn++f)) rfl rfl rfl rfl i [] s6 _ H6 _ I6 (a6 ag) al aj) λr s7 O=>?_;let (hr,I7):=O;subst hr;let (m,hm,_):=I7.loc;let b4:aW X f σ H6 s7:=vH (h2:=s7.heap) I3 f3 a9 I7 {rfl,λ_ _=>rfl};let ac:H6 t.heap.objs.size=none:=I7.free;let L:=I3.fpOk (H':=H6) (i7 _) ac;refine j3 ?_;show wpAny _ _ (assign (.Name y py) X.env (.ref E.heap.objs.size)) _ _ _;refine wpAny_assign_Name (uN b4 hN ax b7 (v:=.ref E.heap.objs.size) rfl (λs8 I8 ae=>?_) hf);let (a,av,ha):=ae;let b2:t.heap.objs.size≠a:=by
    rcases ha with rfl|ha
    ·exact L.2.1
    ·exact λz=>L.2.2.2.2.1 _ _ ha z.symm
   refine {m,hm.sameBut av b2,λh9 Z=>{_,H6,?_,q}};refine I8.call' (s':={ s8 with heap:=h9 }) (ch:=[t.heap.objs.size]) rfl {λb o q n F he=>(Z.2 b (λz=>he (by simp [z]))).trans q,λb o q n F he=>{o.slots,(Z.2 b (λz=>he (by simp [z]))).trans q},λ_ _ _ n _=>n,λb o q he=>{o,(Z.2 b (λz=>he (by simp [z]))).trans q},λ_ _ q=>q,λ_ _ _ q=>q,λ_ ps q=>{#[],by rw [q];simp}} (λb o q=>?_) I8.bare λb F=>?_
   ·refine(I8.hok b o q).stay (λc w' hc r=>(Z.2 c ?_).trans r) (λ_ r=>r) λ_ _ r=>r;rintro rfl;rcases hc with rfl|hc
    ·rw [ac] at q;cases q
    ·rw [ac] at hc;cases hc
   ·let e:b=t.heap.objs.size:=by simpa using F
    subst e;exact {(L.2.2.2.1),L.2.1,L.2.2.2.2.1,L.2.2.2.2.2}
  ·refine fY (U.item (X.blkF NB scope cl t.heap.objs.size t (upd S E.heap.objs.size (.lst [])) G (X.pn++f)) rfl rfl rfl rfl i [] s6 _ H6 _ I6 (a6 ag) al go) λr s7 O=>?_;let (u,hr,h7):=O;subst hr;refine g7 (fY h7 λ_ s8 O=>?_);let (x,H8,I8,r8,y8,ad,b9):=O;let b8:=I8.pinned (a6 b9) (U.obj _ _ ad);let gp:∀{σ9:St} {H9:Hp} {s9:Shared},aW (X.blkF NB scope cl t.heap.objs.size t (upd S E.heap.objs.size (.lst [])) G (X.pn++f)) ([]++gH G s8.heap) σ9 H9 s9->tn (i+1) s9.heap/\∀b ∈ G,H9 b=none:=λI9=>
    ⟨U.keep _ _ _ ad λb F o e=>(I9.pin (b,o) (k7 _ (k7 _ (eE F e)))).1,λb F=>by
     let (o,e,d):=U.obj _ _ ad b F
     exact(I9.pin (b,o) (k7 _ (k7 _ (eE F e)))).2.1⟩
   let wk:∀{σ9:St} {H9:Hp} {s9:Shared},σ9.drop n=(dQ n js σ).drop n->aW (X.blkF NB scope cl t.heap.objs.size t (upd S E.heap.objs.size (.lst [])) G (X.pn++f)) ([]++gH G s8.heap) σ9 H9 s9->aW (X.blkF NB scope cl t.heap.objs.size t (upd S E.heap.objs.size (.lst [])) G (X.pn++f)) [] (dQ n js σ) H9 s9:=λ{σ9 H9 s9} hd I9=>
    I9.unpinned.weak (by rw [oU T,I9.len]) λk v z=>by
     let (k',j,rfl,_,_):=tM z;let e:=congrArg (λl=>l[k']?) hd;simp only [v9] at e;rw [e];exact z
   refine g7 (y7 (hg _ _ _ _ _ s8 _ H8 x u _ b8 r8 (ao x H8 y8)) (λ_ s9 Y=>?_) λ_ _ z=>z.elim);let (σ9,H9,I9,ai,q9):=Y;refine g7 (y7 (ht _ _ _ _ _ s9 σ9 H9 _ I9 q9) (λok az Y=>?_) λ_ _ z=>z.elim);let (an,a2,a0):=Y;cases ok with
   | false=>
    rw [if_neg 6#0] at a0;let (m',af,b3):=a0;exact j3 {rfl,m',af,i+1,ys,an,wk ai a2,(gp a2).1,(gp a2).2,b3}
   | true=>
    rw [if_pos rfl] at a0;refine g7 (g7 (y7 (he _ _ _ _ _ az σ9 an _ a2 a0) (λy ba Y=>?_) λ_ _ z=>z.elim));let (yv,b6,bb,ry,ak,ap,m',af,b1):=Y;let mt:=eJ (X:=X.blkF NB scope cl t.heap.objs.size t (upd S E.heap.objs.size (.lst [])) G (X.pn++f)) ([]++gH G s8.heap) ba σ9 b6 (.ref E.heap.objs.size) [yv] (.ref E.heap.objs.size) [y] (λ_ H'=>W (i+1) m' (ys++[yv]) H') bb rfl (.cons ry .nil) {_,ys,yv,rfl,rfl,ak,ap,b1};refine g7 (y7 mt (λ_ bg Y=>?_) λ_ _ z=>z.elim);let (be,aq,aa,_,ar):=Y;exact j3 (j3 {rfl,m',af,i+1,_,aq,wk ai aa,(gp aa).1,(gp aa).2,ar})
 exact codeAny_compStart_list (a3 _ rfl) (U.self _ 0 _ _ _ ah (a3 _ rfl))
end
end L2
namespace L2
open PySem PySem.Spec PyProof.Rows PySem.W
theorem hD:∀{xs:List α} {ys:List β},xs.length=ys.length->(∀(j:Nat) x y,xs[j]?=some x->ys[j]?=some y->F x y)->Paired F xs ys
 | [],[],_,_=>.nil
 | [],_::_,h,_=>by simp at h
 | _::_,[],h,_=>by simp at h
 | a::xs,b::ys,h,f=>.cons (f 0 a b rfl rfl) (hD (by simpa using h) λj x y c d=>f (j+1) x y (by simpa using c) (by simpa using d))
section
variable {X:Cx}
def JJ:List V->Hp->VK->Prop:=λxs H Q=>∃i j:Int,xs=[.int i,.int j]/\∀r,H r=none->Q (.ref r) (upd H r (.rng i j))
def zQ:gN X (.type "range") JJ:=by
 intro a s σ H d c Q I r h;let (i,j,rfl,q):=h;let (u,v,rfl,(t,rfl),(t',rfl)):=Jv r;refine call_range_2 ?_;refine {.ref s.heap.objs.size,_,I.laid (o:=.rng i j) (t':=s.toks+1) (λb o e=>i8 _ e) (i7 _) {t,t',s.toks,n9 _ rfl},rfl,q _ (I.hok.fresh (i7 _))}
def wJ (lo:Int) (n:Nat):List V:=(List.range n).map λ(k:Nat)=>V.int (lo+(k:Int))
def yD (lo:Int) (n:Nat):(wJ lo n).length=n:=by
 unfold wJ;rw [i6,v6]
def AZ:List V->Hp->VK->Prop:=λxs H Q=>∃(p:Addr) (lo hi:Int),xs=[.ref p]/\H p=some (.rng lo hi)/\(-(2 ^ 62)<=lo/\lo<2 ^ 62/\-(2 ^ 62)<=hi/\hi<2 ^ 62)/\hi-lo<=1000/\∀l,H l=none->Q (.ref l) (upd H l (.lst (wJ lo (hi-lo).toNat)))
def tJ (v:X.calm=true):gN X (.type "list") AZ:=by
 intro i s σ H S M Q I r h;let (p,a,b,rfl,E,(A,m,G,F),N,q):=h;let (u,rfl,J):=jM r;cases J;let (t,t',l,e):=(show bN X.prog X.w H s.heap p (.rng a b) from I.hok p _ E);let L:Builtin.Range.rangeSize a b 1=(((b-a).toNat:Nat):Int):=by rw [rangeSize_one];split <;> omega
 refine call_list_range (I.ok.hd v) e (small_one A m G F) L ∎ λP f c D z n g=>?_;let (B,K):=g;refine {.ref s.heap.objs.size,_,I.laid (o:=.lst (wJ a (b-a).toNat)) (t':=f) z (i7 _) ?_,rfl,q _ (I.hok.fresh (i7 _))};let O:sizeLine=16777216:=sizeLine_eq;refine {by rw [yD];omega,c.toList,D,?_,by simpa using n};refine hD (by rw [yD];simp [B]) λj x y d k=>?_;unfold wJ at d;rw [j7] at d;let C:j<(b-a).toNat:=by
  have:=(i5.mp k).1;simp only [u9] at this;omega
 rw [O2 C] at d;cases d;let (f,rfl):=K j y (by simpa using k);exact {f,by rw [Int.mul_one]}
theorem yE:∀{cs:List Addr} {us:List Value},bB (cs.map V.ref) us->us=cs.map Value.ref
 | [],_,.nil=>rfl
 | c::cs,_,.cons r t=>by
  cases r
  rw [yE t]
  rfl
end
end L2
namespace L2
open PySem PySem.Spec PyProof.Rows PySem.W Builtin
section
variable {K:Frag} {x C:Addr} {prog:Program} {w:World} {A:Around} {E:Value->Shared->Prop} {s:Shared}
end
section
variable {X:Cx}
end
end L2
namespace L2
open PySem PySem.Spec PyProof.Rows PySem.W
section
variable {X:Cx}
def aW.as_at {pins:List 10#0} {σ:St} {H:Hp} {s:Shared} {a:Addr} {u h:HO} (I:5#0) (e:H a=some u) (j:∀d,u≠.tup d) (F:∀i,u≠.tbl i) (B:∀x,u≠.own x) (E:∀o v,X.H₀ a≠some (.frz o v)) (g:bN X.prog X.w (upd H a h) s.heap a h):aW X pins σ (upd H a h) s:=by
 let f:∀b,H b=none->b≠a:=λb n z=>by
  rw [z,e] at n;cases n
 refine {I.ok,I.os,I.bare,{I.base.keep,I.base.slot,λb o q n t=>?_,I.base.there,λb d q=>?_,λb o v q=>?_,λb i q=>?_},I.loc,I.cell,?_,λx c q=>?_,λp C=>?_,λb o q=>?_,I.len}
 ·let z:=I.base.free b o q n t;rw [aE (f b z)];exact z
 ·let z:=I.base.tups b d q;rw [aE (λy=>by rw [y,e] at z;exact j d (Option.some.inj z))];exact z
 ·rw [aE (λy=>E o v (by rw [<- y];exact q))];exact I.base.frzs b o v q
 ·let (m,z):=I.base.tbls b i q;exact {m,by rw [aE (λy=>by rw [y,e] at z;exact F _ (Option.some.inj z))];exact z}
 ·rw [aE (f _ I.free)];exact I.free
 ·rw [aE (f _ (I.freeC x c q))];exact I.freeC x c q
 ·let (A,l,D):=I.pin p C;exact {A,by rw [aE (f _ l)];exact l,D}
 ·by_cases k:b=a
  ·subst k;rw [aB] at q;cases q;exact g
  ·rw [aE k] at q;refine(I.hok b o q).stay (λc G _ r=>r) (λc z=>?_) λc d z=>?_
   ·rw [aE (λy=>by rw [y,e] at z;exact B _ (Option.some.inj z))];exact z
   ·rw [aE (λy=>by rw [y,e] at z;exact j _ (Option.some.inj z))];exact z
def bN.dK_at {P:Program} {w:World} {H H':Hp} {h:Heap} {a:Addr} {kvs:List (bK × V)} (q:bN P w H h a (.dK kvs)):bN P w H' h a (.dK kvs):=q
def aW.thaw {pins:List 10#0} {σ:St} {H:Hp} {s:Shared} {a:Addr} {o:Obj} {kvs:List (bK × V)} (I:5#0) (e:H a=some (.frz o (.dK kvs))) (b:∀o v,X.H₀ a≠some (.frz o v)):aW X pins σ (upd H a (.dK kvs)) s:=by
 let (_,q):=(show bN X.prog X.w H s.heap a (.frz o (.dK kvs)) from I.hok a _ e);exact I.as_at e (λ_ z=>nomatch z) (λ_ z=>nomatch z) (λ_ z=>nomatch z) b q.dK_at
def aW.freeze {pins:List 10#0} {σ:St} {H:Hp} {s:Shared} {a:Addr} {kvs:List (bK × V)} (I:5#0) (e:H a=some (.dK kvs)):∃o,s.heap.get? a=some o/\aW X pins σ (upd H a (.frz o (.dK kvs))) s:=by
 let q:=(show bN X.prog X.w H s.heap a (.dK kvs) from I.hok a _ e);let (o,b):=q.is;refine {o,b,I.as_at e (λ_ z=>nomatch z) (λ_ z=>nomatch z) (λ_ z=>nomatch z) (λc v z=>?_) {(b),q.dK_at}};have:=I.base.frzs a c v z;rw [e] at this;cases this
def FA (H0:Hp) (t:TE):TE:=λσ H Q=>t σ H λv H1=>∃a o kvs,H1 a=some (.frz o (.dK kvs))/\(∀o v,H0 a≠some (.frz o v))/\Q v (upd H1 a (.dK kvs))
def Ul (h:PE X e t):PE X e (FA X.H₀ t):=λb s σ H Q I q=>eN (h s σ H _ I q) λv d x f c r ⟨a,o,kvs,z1,z2,z3⟩=>{x,_,c.thaw z1 z2,r,z3}
def Yb (H0:Hp) (t:TS):TS:=λD σ H=>t { D with nx:=λσ1 H1=>∃a o kvs,H1 a=some (.frz o (.dK kvs))/\(∀o v,H0 a≠some (.frz o v))/\D.nx σ1 (upd H1 a (.dK kvs)) } σ H
def wL {st:Stmt} {t:TS} (h:PS X st t):PS X st (Yb X.H₀ t):=λb s σ H D I q=>fY (h s σ H _ I q) λf k z=>by
 cases f with
 | next=>
  let (d,l,i,a,o,c,e,g,j):=z
  exact {d,_,i.thaw e g,j}
 | _=>exact z
def HC {P:Program} {w:World} {k:bK} {u:Value} (h:(cC P w).is k u=true):bF (kV k) u:=by
 rw [By] at h;rcases cZ h with ⟨i,t,rfl,rfl⟩|⟨x,t,rfl,rfl⟩
 ·exact {(t),rfl}
 ·exact {(t),rfl}
def Zd (a:Addr) (o:Obj) (kvs:List (bK × V)):It:=
 ⟨λi H=>H a=some (.frz o (.dK kvs))/\i<kvs.length,λi H x H'=>H'=H/\∃e,kvs[i]?=some e/\x=kV e.1,λi H=>H a=some (.frz o (.dK kvs))/\kvs.length<=i⟩
def qI {X:Cx} {pins:List 10#0} {σ:St} {H:Hp} {s:Shared} {a:Addr} {o:Obj} {kvs:List (bK × V)} {h:Array DictEntry} {ep:Nat} (I:5#0) (e:H a=some (.frz o (.dK kvs))) (f:o.data=.dict h ep):
  ∃b,KV kvs b/\s.heap.DictAt (cC X.prog X.w) a b ep:=by
 let (g,_,_,b,r,n,k,j,q,c,d,m,i,l):=(show bN X.prog X.w H s.heap a (.frz o (.dK kvs)) from I.hok a _ e);rw [g] at q;cases q;rw [f] at d;cases d;exact {(b),r,o,h,g,c,f,m,i,l}
def Gv {P:Program} {l:Option Value} {w:World} {K:Frag} {tg:Expr} (a it:Addr) (o:Obj) (kvs:List (bK × V)) {U:Array DictEntry} {ep:Nat} (S:o.data=.dict U ep) (e0:l=none):xD P w K l tg (Zd a o kvs) [it] it (λi h=>h.IsKeyIter it a i kvs.length ep) where
 mem:=by simp
 obj:=λi h f b j=>by
  let e:b=it:=by simpa using j
  subst e
  let (o,e,c,d):=f
  exact {o,e,λv z=>by rw [d] at z;cases z}
 keep:=λi h q f k=>f.at λo e=>k it 6#0 o e
 item:=by
  intro X G y M N i g s σ H E I t f C;subst G y M;let (e,D):=C;let (u,r,x):=qI I e S;let n:=r.length;let (A,L,f2,J,f4,B):=t it 6#0;obtain⟨⟨k,v⟩,Q⟩:∃p,u[i]?=some p:={u[i],i3 ∎};refine wpAny_pyNext_dict_item (by rw [<- n];exact f) x Q λF q hk m Z=>?_;let T:aW X g σ H { s with heap:=q }:=I.turned (t':=s.toks) (λb o j e=>(Z.2 b j).trans e) A L J f4 B;let (oi,ei,Y,di):=id m;let ek:kvs[i].1=k:=by
   have:=r.keys;let O:(kvs.map (·.1))[i]?=(u.map (·.1))[i]?:=by rw [this]
   rw [j7,j7,Q,i3 D] at O;exact Option.some.inj O
  refine {F,rfl,sS (s:={ s with heap:=q }) ei Y di 7#0 {kV k,H,T,HC hk,{rfl,kvs[i],i3 D,by rw [ek]},by rw [n];exact m,λb j=>(t b j).1}}
 done:=by
  intro X G y M N i g s σ H E I t f C;subst G y M;let (e,D):=C;let (u,r,x):=qI I e S;let n:=r.length;let (A,L,f2,J,f4,B):=t it 6#0;exact wpAny_pyNext_dict_end (N.trans e0) (by rw [<- n];exact f) x (A3 ∎) λq eb=>{rfl,I.turned (t':=s.toks) (λb o j e=>eb b o j e) A L J f4 B}
 self:=λ_ _ _ _ _ f h=>wpAny_pyIter_keyiter f h
section
variable {tg:Expr}
def HI (tl:TE):TI:=λσ H R=>tl σ H λx H1=>∃a kvs,x=.ref a/\H1 a=some (.dK kvs)/\∀o,R (Zd a o kvs) (upd H1 a (.frz o (.dK kvs)))
def Et (F:PE X l t) (i:X.calm=true:=by rfl):PI X tg l (HI t):=by
 intro n s σ H R I h;refine eN (F s σ H _ I h) λv f x A k y u=>?_;let (a,kvs,e,m,q):=u;subst e;cases y;let (o,p,j):=k.freeze m;let (L,D,J,r,K,z,ep,g,c,d,G,C,B):=(show bN X.prog X.w A f.heap a (.dK kvs) from k.hok a _ m);rw [p] at g;cases g;refine wpAny_pyIter_dict (knd:=cC X.prog X.w) (kvs:=J) (ep:=ep) D {(o),z,p,c,d,G,C,B} ?_;refine {f.heap.objs.size,[f.heap.objs.size],_,_,_,rfl,j.kept (t':=f.toks) λb o e=>i8 _ e,Gv a _ o kvs d (I.ok.hd i),?_,λb E=>?_,q o}
 ·exact {_,n9 _ rfl,rfl,by rw [r.length];rfl}
 ·let e:b=f.heap.objs.size:=by simpa using E
  subst e;exact j.fpOk (i7 _) (j.hok.fresh (i7 _))
def Qd {a:Addr} {o:Obj} {kvs:List (bK × V)} {g:TG} {tb:TS} {D:eM} {σ:St} {H:Hp} (b:Nat->St->Hp->Prop) (t:b 0 σ H) (r:∀i σ H,i<=kvs.length->b i σ H->H a=some (.frz o (.dK kvs)))
  (s:∀i e σ H,kvs[i]?=some e->b i σ H->g (kV e.1) σ H λj h=>tb { D with nx:=b (i+1),ct:=b (i+1),bk:=D.nx } j h) (u:∀ σ H,b kvs.length σ H->D.nx σ H):
  ∃W:Nat->Nat->St->Hp->Prop,(∃m,W 0 m σ H)/\∀i m σ H,W i m σ H ->
   ((Zd a o kvs).stop i H/\D.nx σ H)\/((Zd a o kvs).go i H/\∃N:St->Hp->Prop,(∀f c,N f c->∃k,k<m/\W (i+1) k f c)/\∀x c,(Zd a o kvs).yld i H x c->g x σ c λj h=>tb { D with nx:=N,ct:=N,bk:=D.nx } j h):=by
 refine {λi m σ H=>m=kvs.length-i/\i<=kvs.length/\b i σ H,{kvs.length,by simp,l7 _,t},?_};rintro i m σ H ⟨rfl,n,p⟩;let q:=r i σ H n p;by_cases d:i<kvs.length
 ·refine .inr {{(q),d},b (i+1),λf c l=>{kvs.length-(i+1),∎,rfl,d,l},λx c y=>?_};let (rfl,e,v,rfl):=y;exact s i e σ _ v p
 ·let e:i=kvs.length:=∎;subst e;exact .inl {{q,i7 _},u σ H p}
end
section
variable {prog:Program} {w:World} {A:Around} {E:Value->Shared->Prop} {s:Shared}
end
section
variable {prog:Program} {w:World} {A:Around} {E:Value->Shared->Prop} {s:Shared}
end
section
variable {prog:Program} {w:World} {A:Around} {E:Value->Shared->Prop}
end
def LY (x:Str):It:=⟨λi _=>i<x.length,λi H v H'=>H'=H/\∃c,x.cps[i]?=some c/\v=.str ⟨#[c]⟩,λi _=>x.length<=i⟩
def Jz {P:Program} {j:Option Value} {w:World} {K:Frag} {M:Expr} (x:Str) (t:Tok) (it:Addr) (Q:j=none):xD P w K j M (LY x) [it] it (λi h=>h.IsStrIter it "str_ascii_iterator" x t i) where
 mem:=by simp
 obj:=λi h a b g=>by
  let e:b=it:=by simpa using g
  subst e
  let (o,e,c,d):=a
  exact {o,e,λv z=>by rw [d] at z;cases z}
 keep:=λi h n a k=>by
  let (o,e,c,d):=a
  exact {o,k it 6#0 o e,c,d}
 item:=by
  intro X A q D F i f s σ H E I p a y;subst A q D;let m:i<x.cps.size:=y;let (r,C,T,B,f4,u):=p it 6#0;refine wpAny_pyNext_ascii_item a (w9 m) λn l L=>?_;let G:aW X f σ H { s with heap:=n,toks:=s.toks+1 }:=I.turned (λb o g e=>(L.2 b g).trans e) r C B f4 u;let (U,O,J,N):=id l;exact {_,rfl,sS (s:={ s with heap:=n,toks:=s.toks+1 }) O J N 7#0 {.str _,H,G,{_,rfl},{rfl,_,w9 m,rfl},l,λb g=>(p b g).1}}
 done:=by
  intro X A q D F i f s σ H E I p a y;subst A q D;let m:x.cps.size<=i:=y;let (r,C,T,B,f4,u):=p it 6#0;exact wpAny_pyNext_ascii_end (F.trans Q) a (Array.getElem?_eq_none m) λn S=>{rfl,I.turned (t':=s.toks) (λb o g e=>S b o g e) r C B f4 u}
 self:=λ_ _ _ _ _ a h=>wpAny_pyIter_striter_ascii a h
def KD (tl:TE):TI:=λσ H R=>tl σ H λv H1=>∃x,v=.str x/\x.cps.all (·<128)=true/\R (LY x) H1
def BD {p l:Expr} {g:TE} (m:PE X l g) (c:X.calm=true:=by rfl):PI X p l (KD g):=by
 intro f s σ H R I h;refine eN (m s σ H _ I h) λv a y r d n j=>?_;let (x,rfl,k,q):=j;let (t,rfl):=n;refine wpAny_pyIter_ascii k ?_;refine {a.heap.objs.size,[a.heap.objs.size],_,_,r,rfl,d.kept (t':=a.toks) λb o e=>i8 _ e,Jz x t _ (I.ok.hd c),{_,n9 _ rfl,rfl,rfl},λb i=>?_,q};let e:b=a.heap.objs.size:=by simpa using i
 subst e;exact d.fpOk (i7 _) (d.hok.fresh (i7 _))
section
variable {e:Expr} {apos cpos p:Pos} {ty:TE}
end
end
end L2
namespace Sr
open PySem PyProof.Rows
noncomputable def fK:Bool->Keyed->Array Keyed->Nat->Nat->Nat->StateT SortSt Sem (Option Nat):=sortPriv% PySem.Builtin.gallop
noncomputable def zT (left:Bool) (key:Keyed) (arr:Array Keyed) (base:Nat) (i:Nat):StateT SortSt Sem (Option Bool):=do
 let x <- elem' arr (base+i)
 if left then lt' x key else return (<- lt' key x).map (!·)
abbrev GS:=Option (Option Nat) × Nat × Nat
noncomputable def DI (ask:Nat->StateT SortSt Sem (Option Bool)) (n lo hi:Nat):StateT SortSt Sem (Option Nat):=do
 let c <- forIn [0:n] ((none,lo,hi):GS) λ_ c=>if c.2.1 ≥ c.2.2 then pure (.done (none,c.2.1,c.2.2)) else ask (c.2.1+(c.2.2-c.2.1) / 2) >>= λr=>match r with
  | some w=>if w=true then pure (.yield (none,c.2.1+(c.2.2-c.2.1) / 2+1,c.2.2)) else pure (.yield (none,c.2.1,c.2.1+(c.2.2-c.2.1) / 2))
  | _=>pure (.done (some none,c.2.1,c.2.2))
 match c.1 with
 | some r=>pure r
 | none=>pure (some c.2.2)
noncomputable def Pg (ask:Nat->StateT SortSt Sem (Option Bool)) (f:Bool->Bool) (n mx:Nat) (k:Nat->Nat->StateT SortSt Sem (Option Nat)):StateT SortSt Sem (Option Nat):=do
 let c <- forIn [0:n] ((none,0,1):GS) λ_ c=>if c.2.2 ≥ mx then pure (.done (none,c.2.1,c.2.2)) else ask c.2.2 >>= λr=>match r with
  | some w=>if f w=true then pure (.done (none,c.2.1,c.2.2)) else pure (.yield (none,c.2.2,2 * c.2.2+1))
  | _=>pure (.done (some none,c.2.1,c.2.2))
 match c.1 with
 | some r=>pure r
 | none=>k c.2.1 c.2.2
def Cg (left:Bool) (d:Keyed) (e:Array Keyed) (base n a:Nat):fK left d e base n a=(zT left d e base a >>= λr=>match r with
  | some w=>if w=true then Pg (λv=>zT left d e base (a+v)) (λb=>!b) n (n-a) λu v=>DI (zT left d e base) n (a+u+1) (a+min v (n-a))
   else Pg (λv=>zT left d e base (a-v)) (λb=>b) n (a+1) λu v=>DI (zT left d e base) n (a+1-min v (a+1)) (a-u)
  | _=>pure none):=by
 refine congrArg (bind _) (funext λr=>?_);cases r with
 | none=>rfl
 | some w=>
  dsimp only
  refine congr (congrArg (@ite _ _ _) (congrArg (bind _) (funext λc=>?_))) (congrArg (bind _) (funext λc=>?_))
  all_goals
   let (r,c):=c;cases r with
   | some r=>rfl
   | none=>
    refine congrArg (bind _) (funext λc=>?_);let (r,c):=c;cases r <;> rfl
section
variable {M:Model} {A:Around} {E:Value->Shared->Prop} {s:Shared} {st:SortSt}
def xM {o:Nat->StateT SortSt Sem (Option Bool)} {n lo hi:Nat} {p:Nat->Bool} {Q:Option Nat->SortSt->Prop} (B:∀i,i<n->∀R:Option Bool->SortSt->Prop,R (some (p i)) st->wpS M A E s (o i) R st)
  (w:∀i j,i<=j->j<n->p j=true->p i=true) (H:lo<=hi) (h2:hi<=n) (F:∀i,i<lo->p i=true) (D:∀i,hi<=i->i<n->p i=false)
  (h:∀k,k<=n->(∀i,i<k->p i=true)->(∀i,k<=i->i<n->p i=false)->Q (some k) st):wpS M A E s (DI o n lo hi) Q st:=by
 let l:∀lo hi:Nat,lo<=hi->hi<=lo->hi<=n->(∀i,i<lo->p i=true)->(∀i,hi<=i->i<n->p i=false)->Q (some hi) st:=λlo hi q g u d f=>h hi u (λi z=>d i ∎) f;refine j5 (N1 (Q:=λc a=>a=st/\c.1=none/\Q (some c.2.2) st) (F2 (I:=λx c a=>a=st/\c.1=none/\c.2.1<=c.2.2/\c.2.2<=n/\c.2.2+x<=n+c.2.1/\(∀i,i<c.2.1->p i=true)/\∀i,c.2.2<=i->i<n->p i=false) (λx c a _ J z=>?_) (λc a z=>?_) {rfl,rfl,H,h2,u8 h2 (Q9 _ _),F,D}) λc a z=>?_)
 ·let (rfl,v,q,g,u,d,f):=z;let (r,lo,hi):=c;dsimp only at *;by_cases b:lo ≥ hi
  ·rw [if_pos b];exact q7 {rfl,rfl,l _ _ q b g d f}
  ·rw [if_neg b];let G:lo<=lo+(hi-lo) / 2:=Q9 _ _;let K:lo+(hi-lo) / 2<hi:=∎;generalize lo+(hi-lo) / 2=m at *;refine j5 (B _ ∎ _ ?_);cases e:p m with
   | true=>exact q7 {rfl,rfl,(by dsimp only;omega),g,(by dsimp only;omega),λi t=>w i _ (Nat.le_of_lt_succ t) ∎ e,f}
   | false=>
    refine q7 {rfl,rfl,G,(by dsimp only;omega),(by dsimp only;omega),d,λi C y=>?_};cases z:p i with
    | false=>rfl
    | true=>rw [w _ i C y z] at e;cases e
 ·let (rfl,v,q,g,u,d,f):=z;exact {rfl,v,l _ _ q ∎ g d f}
 ·let (r,c):=c;let (rfl,rfl,z):=z;exact q7 z
def uG {g:Nat->StateT SortSt Sem (Option Bool)} {f:Bool->Bool} {n d:Nat} {k:Nat->Nat->StateT SortSt Sem (Option Nat)} {p:Nat->Bool} {Q:Option Nat->SortSt->Prop} (q:∀v,v<d->∀R:Option Bool->SortSt->Prop,R (some (p v)) st->wpS M A E s (g v) R st) (o:f (p 0)=false) (t:0<d) (h2:d<=n)
  (h:∀u v,u<v->u<d->f (p u)=false->(v<d->f (p v)=true)->wpS M A E s (k u v) Q st):wpS M A E s (Pg g f n d k) Q st:=by
 refine j5 (N1 (Q:=λc a=>a=st/\c.1=none/\wpS M A E s (k c.2.1 c.2.2) Q st) (F2 (I:=λx c a=>a=st/\c.1=none/\c.2.1<c.2.2/\x+1<=c.2.2/\c.2.1<d/\f (p c.2.1)=false) (λx c a _ y z=>?_) (λc a z=>?_) {rfl,rfl,Nat.zero_lt_one,i7 _,t,o}) λc a z=>?_)
 ·let (rfl,m,j,w,l,i):=z;by_cases b:c.2.2 ≥ d
  ·rw [if_pos b];exact q7 {rfl,rfl,h _ _ j l i λz=>absurd z (Nat.not_lt.mpr b)}
  ·rw [if_neg b];refine j5 (q _ ∎ _ ?_);dsimp only
   cases e:f (p c.2.2) with
   | true=>
    rw [if_pos rfl];exact q7 {rfl,rfl,h _ _ j l i λ_=>e}
   | false=>
    rw [if_neg 6#0];exact q7 {rfl,rfl,(by omega:c.2.2<2 * _+1),(by omega:_<=2 * c.2.2+1),Nat.lt_of_not_le b,e}
 ·let (rfl,m,j,w,l,i):=z;exact {rfl,m,h _ _ j l i λz=>∎}
 ·let (r,c):=c;let (rfl,rfl,z):=z;exact z
def qZ {left:Bool} {b:Keyed} {f:Array Keyed} {base n a:Nat} {p:Nat->Bool} {Q:Option Nat->SortSt->Prop}
  (c:∀i,i<n->∀R:Option Bool->SortSt->Prop,R (some (p i)) st->wpS M A E s (zT left b f base i) R st)
  (d:∀i j,i<=j->j<n->p j=true->p i=true) (o:a<n)
  (h:∀k,k<=n->(∀i,i<k->p i=true)->(∀i,k<=i->i<n->p i=false)->Q (some k) st):
  wpS M A E s (fK left b f base n a) Q st:=by
 let r:∀i j,i<=j->j<n->p i=false->p j=false:=λi j w B e=>by
  cases z:p j with
  | false=>rfl
  | true=>rw [d i j w B z] at e;cases e
 rw [Cg];refine j5 (c a o _ ?_);dsimp only
 cases e0:p a with
 | true=>
  rw [if_pos rfl];refine uG (p:=λv=>p (a+v)) (λv t=>c _ ∎) (by show (!p a)=false;rw [e0];rfl) ∎ (Nat.sub_le _ _) λu v y x g l=>?_;let g:p (a+u)=true:=by simpa using g
  refine xM c d ∎ ∎ (λi z=>d i (a+u) ∎ ∎ g) (λi q m=>?_) h;exact r (a+v) i ∎ m (by simpa using l ∎)
 | false=>
  rw [if_neg 6#0];refine uG (p:=λv=>p (a-v)) (λv t=>c _ ∎) e0 (Nat.succ_pos _) o λu v y x g l=>?_;refine xM c d ∎ ∎ (λi z=>?_) (λi q m=>r (a-u) i q m g) h;exact d i (a-v) ∎ ∎ (l ∎)
end
structure MA (prog:Program) (w:World) (A:Around) (E:Value->Shared->Prop) (s:Shared) (κ:SortKind) (a₀:Array Keyed) (rk:Keyed->Int):Prop where
 lt:∀{x y:Keyed} {st:SortSt} {Q:Option Bool->SortSt->Prop},x ∈ a₀.toList->y ∈ a₀.toList->kindOf st=κ->Q (some (decide (rk x<rk y))) st->wpS 8#0 A E s (lt' x y) Q st
structure SB (κ:SortKind) (a₀:Array Keyed) (st:SortSt):Prop where
 perm:(arrOf st).Perm a₀
 kind:kindOf st=κ
 failed:failedOf st=none
theorem SB.size {κ:SortKind} {a₀:Array Keyed} {st:SortSt} (h:SB κ a₀ st):(arrOf st).size=a₀.size:=h.perm.size_eq
def SB.put {κ:SortKind} {a₀:Array Keyed} {st:SortSt} (h:SB κ a₀ st) {xs:Array Keyed} (a:xs.Perm (arrOf st)):SB κ a₀ (setArr st xs):={a.trans h.perm,h.kind,h.failed}
def SB.at {κ:SortKind} {a₀:Array Keyed} {st:SortSt} (h:SB κ a₀ st) {i:Nat} (hi:i<a₀.size):∃p,(arrOf st)[i]?=some p/\p ∈ a₀.toList:=by
 let a:i<(arrOf st).size:=by rw [h.size];exact hi
 exact {_,getElem?_pos _ i a,(N8.mp h.perm).mem_iff.mp 6#0}
def R (rk:Keyed->Int) (xs:Array Keyed) (i:Nat):Int:=match xs[i]? with
 | some p=>rk p
 | none=>0
def qS (rk:Keyed->Int) (xs:Array Keyed) (lo hi:Nat):Prop:=∀i j,lo<=i->i<=j->j<hi->R rk xs i<=R rk xs j
def Jj (rk:Keyed->Int) (xs:Array Keyed) (lo hi:Nat):Prop:=∀i j,lo<=i->i<=j->j<hi->R rk xs j<=R rk xs i
def tR (lo:Nat) (xs ys:Array Keyed):Prop:=∀k,k<lo->xs[k]?=ys[k]?
def tR.refl {lo:Nat} {xs:Array Keyed}:tR lo xs xs:=λ_ _=>rfl
theorem tR.trans {lo:Nat} {xs a zs:Array Keyed} (h:tR lo xs a) (k:tR lo a zs):tR lo xs zs:=λi b=>(h i b).trans (k i b)
def jD {rk:Keyed->Int} {xs a:Array Keyed} {i j:Nat} (h:xs[i]?=a[j]?):R rk xs i=R rk a j:=by unfold R;rw [h]
def jK {rk:Keyed->Int} {xs:Array Keyed} {i:Nat} {p:Keyed} (h:xs[i]?=some p):R rk xs i=rk p:=by unfold R;rw [h]
def zZ {rk:Keyed->Int} {xs:Array Keyed} {a d:Nat} (f:a<xs.size) (g:d<=a) (k:Nat):
  R rk (bubble xs a d) k=if k=a-d then R rk xs a else if a-d<k/\k<=a then R rk xs (k-1) else R rk xs k:=by
 let e:=getElem?_bubble f d g k;by_cases b:k=a-d
 ·rw [if_pos b] at e ⊢;exact jD e
 ·rw [if_neg b] at e ⊢;by_cases c:a-d<k/\k<=a
  ·rw [if_pos c] at e ⊢;exact jD e
  ·rw [if_neg c] at e ⊢;exact jD e
def tO {rk:Keyed->Int} {xs:Array Keyed} {i j:Nat} (b:j<=xs.size) (k:Nat):
  R rk (mirror xs i j ((j-i) / 2)) k=if i<=k/\k<j then R rk xs (i+j-1-k) else R rk xs k:=by
 let e:=getElem?_mirror_all (i:=i) b k;by_cases a:i<=k/\k<j
 ·rw [if_pos a] at e ⊢;exact jD e
 ·rw [if_neg a] at e ⊢;exact jD e
def eG {rk:Keyed->Int} {xs:Array Keyed} {i j:Nat} (b:j<=xs.size) (a:∀k,i<=k->k<j->R rk xs k=R rk xs (j-1)) (k:Nat):
  R rk (mirror xs i j ((j-i) / 2)) k=R rk xs k:=by
 rw [tO b];split
 ·rw [a _ ∎ ∎,a k ∎ ∎]
 ·rfl
def gT {xs:Array Keyed} {lo i j:Nat} (a:j<=xs.size) (hi:lo<=i):tR lo (mirror xs i j ((j-i) / 2)) xs:=λk b=>by
 rw [getElem?_mirror_all a,if_neg ∎]
def yX {xs:Array Keyed} {lo a d:Nat} (b:a<xs.size) (e:lo+d<=a):tR lo (bubble xs a d) xs:=λk c=>by
 rw [getElem?_bubble b d ∎,if_neg ∎,if_neg ∎]
section
variable {prog:Program} {w:World} {A:Around} {E:Value->Shared->Prop} {s:Shared} {κ:SortKind} {a₀:Array Keyed} {rk:Keyed->Int}
def bU {st:SortSt} {xs:Array Keyed} {i:Nat} {p:Keyed} {Q:Keyed->SortSt->Prop} (e:xs[i]?=some p) (h:Q p st):wpS 8#0 A E s (elem' xs i) Q st:=by
 rw [elem'_eq,e];exact q7 h
def mH {st:SortSt} {i j:Nat} {Q:Option Bool->SortSt->Prop} (C:14#0) (a:SB κ a₀ st) (hi:i<a₀.size) (d:j<a₀.size)
  (h:Q (some (decide (R rk (arrOf st) i<R rk (arrOf st) j))) st):wpS 8#0 A E s (ltAt' i j) Q st:=by
 let (p,b,e):=a.at hi;let (q,c,f):=a.at d;rw [ltAt'_eq];refine j5 (O0 ?_);refine j5 (bU b (j5 (bU c ?_)));refine C.lt e f a.kind ?_;rw [jK b,jK c] at h;exact h
abbrev AS:=Option (Option Nat) × Nat
abbrev DS:=Option (Option Nat) × Nat × Nat
def Rb (lo a m:Nat):StateT SortSt Sem AS:=
 forIn [a:m] ((none,a):AS) λ_ c=>do
  let x <- ltAt' (lo+c.2) (lo+c.2-1)
  match x with
  | some b=>if b=true then pure (ForInStep.done (none,c.2)) else pure (ForInStep.yield (none,c.2+1))
  | _=>pure (ForInStep.done (some none,c.2))
def Qk (lo n m:Nat):StateT SortSt Sem (Option Nat):=do
 reverseSlice' lo (lo+n)
 let c <- Rb lo n m
 match c.1 with
 | some r=>pure r
 | none=>pure (some c.2)
def Fw (lo n m:Nat):StateT SortSt Sem DS:=
 forIn [n:m] ((none,n,0):DS) λ_ c=>do
  let x <- ltAt' (lo+c.2.1) (lo+c.2.1-1)
  match x with
  | some b=>
   if b=true then
    if c.2.2 > 0 then do
     reverseSlice' (lo+c.2.1-(c.2.2+1)) (lo+c.2.1)
     pure (ForInStep.yield (none,c.2.1+1,0))
    else pure (ForInStep.yield (none,c.2.1+1,0))
   else do
    let x <- ltAt' (lo+c.2.1-1) (lo+c.2.1)
    match x with
    | some d=>if d=true then pure (ForInStep.done (none,c.2.1,c.2.2)) else pure (ForInStep.yield (none,c.2.1+1,c.2.2+1))
    | _=>pure (ForInStep.done (some none,c.2.1,c.2.2))
  | _=>pure (ForInStep.done (some none,c.2.1,c.2.2))
def zH (lo n m:Nat):StateT SortSt Sem (Option Nat):=do
 liftM (rule "list.sort.descending-run")
 let c <- Fw lo (n+1) m
 match c.1 with
 | some r=>pure r
 | none=>
  if c.2.2 > 0 then do
   reverseSlice' (lo+c.2.1-(c.2.2+1)) (lo+c.2.1)
   Qk lo c.2.1 m
  else Qk lo c.2.1 m
def Iz (lo m:Nat):countRun' lo m=(do
  let c <- Rb lo 1 m
  match c.1 with
  | some r=>pure r
  | none=>
   if (c.2 == m)=true then pure (some c.2)
   else if c.2 > 1 then do
    let x <- ltAt' lo (lo+c.2-1)
    match x with
    | some b=>if b=true then pure (some c.2) else do
      reverseSlice' lo (lo+c.2)
      zH lo c.2 m
    | _=>pure none
   else zH lo c.2 m):=by
 rw [countRun'_eq];unfold zH Qk Fw Rb;dsimp only
 congr 1;funext c;let (r,n):=c;cases r with
 | some r=>rfl
 | none=>
  dsimp only
  split
  ·rfl
  ·split
   ·congr 1;funext x;cases x with
    | none=>rfl
    | some b=>
     dsimp only
     split
     ·rfl
     ·congr 1;funext _r;congr 1;funext _u;congr 1;congr 1;funext s2;let (d,f,g):=s2;cases d with
      | some d=>rfl
      | none=>
       dsimp only
       split
       ·congr 1;funext _v;congr 1;funext _w;congr 1;funext s3;let (a,e):=s3;cases a <;> rfl
       ·congr 1;funext _w;congr 1;funext s3;let (a,e):=s3;cases a <;> rfl
   ·congr 1;funext _u;congr 1;congr 1;funext s2;let (d,f,g):=s2;cases d with
    | some d=>rfl
    | none=>
     dsimp only
     split
     ·congr 1;funext _v;congr 1;funext _w;congr 1;funext s3;let (a,e):=s3;cases a <;> rfl
     ·congr 1;funext _w;congr 1;funext s3;let (a,e):=s3;cases a <;> rfl
structure jL (κ:SortKind) (a₀:Array Keyed) (lo:Nat) (st₀ st:SortSt):Prop extends SB κ a₀ st where
 like:tR lo (arrOf st) (arrOf st₀)
 pend:pendingOf st=pendingOf st₀
theorem jL.put {lo:Nat} {st₀ st:SortSt} (h:jL κ a₀ lo st₀ st) {xs:Array Keyed} (b:xs.Perm (arrOf st)) (a:tR lo xs (arrOf st)):jL κ a₀ lo st₀ (setArr st xs):=
 {h.toSB.put b,a.trans h.like,h.pend}
variable {st₀:SortSt} {lo:Nat}
def xN {st:SortSt} {a m:Nat} {Q:AS->SortSt->Prop} (C:14#0) (hn:lo+m<=a₀.size) (ha:1<=a) (han:a<=m) (hB:SB κ a₀ st)
  (hs:qS rk (arrOf st) lo (lo+a))
  (h:∀n,a<=n->n<=m->qS rk (arrOf st) lo (lo+n)->(n=m\/R rk (arrOf st) (lo+n)<R rk (arrOf st) (lo+n-1))->Q (none,n) st):
  wpS 8#0 A E s (Rb lo a m) Q st:=by
 unfold Rb;refine F2 (I:=λx c st'=>st'=st/\c=(none,x)/\qS rk (arrOf st) lo (lo+x)) ?step ?fin {(rfl),rfl,hs}
 case fin=>
  rintro c st' ⟨rfl,rfl,hs'⟩;rw [show max a m=m by omega] at hs' ⊢;exact h m han (i7 _) hs' (.inl rfl)
 case step=>
  rintro x c st' hax hxn ⟨rfl,rfl,hs'⟩;dsimp only
  refine j5 (mH C hB ∎ ∎ ?_);by_cases hless:R rk (arrOf st') (lo+x)<R rk (arrOf st') (lo+x-1)
  ·simp only [hless,decide_true,if_true];exact q7 (h x hax ∎ hs' (.inr hless))
  ·simp only [hless,decide_false,z5,if_false];refine q7 {rfl,rfl,λi j hl hij hj=>?_};by_cases hjx:j<lo+x
   ·exact hs' i j hl hij hjx
   ·let hj':j=lo+x:=∎;subst hj';by_cases hi':i=lo+x
    ·subst hi';exact q0 _
    ·exact A8 (hs' i (lo+x-1) hl ∎ ∎) (P3.mp hless)
def xL {st:SortSt} {n m:Nat} {Q:Option Nat->SortSt->Prop} (C:14#0) (l:lo+m<=a₀.size) (p:1<=n) (f:n<=m) (g:jL κ a₀ lo st₀ st)
  (r:Jj rk (arrOf st) lo (lo+n)) (h:∀k a,jL κ a₀ lo st₀ a->1<=k->k<=m->qS rk (arrOf a) lo (lo+k)->Q (some k) a):
  wpS 8#0 A E s (Qk lo n m) Q st:=by
 unfold Qk;let b:lo+n<=(arrOf st).size:=by rw [g.size];omega
 refine j5 (wpS_reverse ?_);let c:jL κ a₀ lo st₀ (setArr st (mirror (arrOf st) lo (lo+n) ((lo+n-lo) / 2))):=g.put (mirror_perm _ _ _ _) (gT b (i7 _));refine j5 (xN C l p f c.toSB ?_ λk q d e _=>q7 (h k _ c ∎ d e));intro i j u o t;show R rk (mirror (arrOf st) lo (lo+n) ((lo+n-lo) / 2)) i<=R rk (mirror (arrOf st) lo (lo+n) ((lo+n-lo) / 2)) j;rw [tO b,tO b,if_pos ∎,if_pos ∎];exact r _ _ ∎ ∎ ∎
def Gp {st:SortSt} {n m:Nat} {Q:DS->SortSt->Prop} (C:14#0) (hn:lo+m<=a₀.size) (h1:1<=n) (hnn:n<=m) (hB:jL κ a₀ lo st₀ st)
  (hs:Jj rk (arrOf st) lo (lo+n))
  (h:∀k q st',jL κ a₀ lo st₀ st'->n<=k->k<=m->Jj rk (arrOf st') lo (lo+k)->q+1<=k->(∀i,lo+k-(q+1)<=i->i<lo+k->R rk (arrOf st') i=R rk (arrOf st') (lo+k-1))->Q (none,k,q) st'):
  wpS 8#0 A E s (Fw lo n m) Q st:=by
 unfold Fw;refine F2 (I:=λx c st'=>∃q,c=(none,x,q)/\jL κ a₀ lo st₀ st'/\Jj rk (arrOf st') lo (lo+x)/\q+1<=x /\
   (∀i,lo+x-(q+1)<=i->i<lo+x->R rk (arrOf st') i=R rk (arrOf st') (lo+x-1))) ?step ?fin {0,rfl,hB,hs,∎,λi h1 h2=>by congr 1;omega}
 case fin=>
  rintro c st' ⟨q,rfl,hB',hs',hq,he⟩;rw [show max n m=m by omega] at hs' hq he ⊢;exact h m q st' hB' hnn (i7 _) hs' hq he
 case step=>
  rintro x c st' hax hxn ⟨q,rfl,hB',hs',hq,he⟩;dsimp only
  let hsz:lo+x<=(arrOf st').size:=by rw [hB'.size];omega
  refine j5 (mH C hB'.toSB ∎ ∎ ?_);by_cases hless:R rk (arrOf st') (lo+x)<R rk (arrOf st') (lo+x-1)
  ·simp only [hless,decide_true,if_true];let step1:∀xs:Array Keyed,(∀k,R rk xs k=R rk (arrOf st') k)->Jj rk xs lo (lo+(x+1)):=by
    intro xs hk i j hl hij hj;rw [hk,hk];by_cases hjx:j<lo+x
    ·exact hs' i j hl hij hjx
    ·let hj':j=lo+x:=∎;subst hj';by_cases hi':i=lo+x
     ·subst hi';exact q0 _
     ·exact A8 (z4 hless) (hs' i (lo+x-1) hl ∎ ∎)
   by_cases hneq:q > 0
   ·rw [if_pos hneq];refine j5 (wpS_reverse (q7 {0,rfl,hB'.put (mirror_perm _ _ _ _) (gT hsz ∎),step1 _ (eG hsz he),∎,λi h1 h2=>by congr 1;omega}))
   ·rw [if_neg hneq];exact q7 {0,rfl,hB',step1 _ (λ_=>rfl),∎,λi h1 h2=>by congr 1;omega}
  ·simp only [hless,decide_false,z5,if_false];refine j5 (mH C hB'.toSB ∎ ∎ ?_);by_cases hlarger:R rk (arrOf st') (lo+x-1)<R rk (arrOf st') (lo+x)
   ·simp only [hlarger,decide_true,if_true];exact q7 (h x q st' hB' hax ∎ hs' hq he)
   ·simp only [hlarger,decide_false,z5,if_false];let heqx:R rk (arrOf st') (lo+x)=R rk (arrOf st') (lo+x-1):=∎;refine q7 {q+1,rfl,hB',λi j hl hij hj=>?_,∎,λi h1 h2=>?_}
    ·by_cases hjx:j<lo+x
     ·exact hs' i j hl hij hjx
     ·let hj':j=lo+x:=∎;subst hj';by_cases hi':i=lo+x
      ·subst hi';exact q0 _
      ·rw [heqx];exact hs' i (lo+x-1) hl ∎ ∎
    ·rw [show lo+(x+1)-1=lo+x by omega];by_cases hix:i=lo+x
     ·subst hix;rfl
     ·rw [heqx];exact he i ∎ ∎
def uH {st:SortSt} {n m:Nat} {Q:Option Nat->SortSt->Prop} (C:14#0) (g:lo+m<=a₀.size) (o:n+1<=m) (u:jL κ a₀ lo st₀ st)
  (x:Jj rk (arrOf st) lo (lo+(n+1))) (h:∀k a,jL κ a₀ lo st₀ a->1<=k->k<=m->qS rk (arrOf a) lo (lo+k)->Q (some k) a):
  wpS 8#0 A E s (zH lo n m) Q st:=by
 unfold zH;refine j5 (S9 (F1 {rfl,?_}));refine j5 (Gp C g ∎ o u x λk q a c v f e y p=>?_);dsimp only
 let d:lo+k<=(arrOf a).size:=by rw [c.size];omega
 by_cases b:q > 0
 ·rw [if_pos b];refine j5 (wpS_reverse (xL C g ∎ f (c.put (mirror_perm _ _ _ _) (gT d ∎)) ?_ h));intro i j t l r;show R rk (mirror (arrOf a) _ _ _) j<=R rk (mirror (arrOf a) _ _ _) i;rw [eG d p,eG d p];exact e i j t l r
 ·rw [if_neg b];exact xL C g ∎ f c e h
def Gq {st:SortSt} {m:Nat} {Q:Option Nat->SortSt->Prop} (C:14#0) (x:lo+m<=a₀.size) (I:1<=m) (f:jL κ a₀ lo st₀ st)
  (h:∀k e,jL κ a₀ lo st₀ e->1<=k->k<=m->qS rk (arrOf e) lo (lo+k)->Q (some k) e):
  wpS 8#0 A E s (countRun' lo m) Q st:=by
 rw [Iz];refine j5 (xN C x (i7 1) I f.toSB (λi j l u G=>by
  have:i=j:=∎
  subst this;exact q0 _) λn p v c y=>?_);dsimp only
 by_cases g:n=m
 ·rw [if_pos (by simpa using g)];exact q7 (h n st f p v c)
 ·rw [if_neg (by simpa using g)];let t:R rk (arrOf st) (lo+n)<R rk (arrOf st) (lo+n-1):=y.resolve_left g;by_cases r:n > 1
  ·rw [if_pos r];refine j5 (mH C f.toSB ∎ ∎ ?_);by_cases b:R rk (arrOf st) lo<R rk (arrOf st) (lo+n-1)
   ·simp only [b,decide_true,if_true];exact q7 (h n st f p v c)
   ·simp only [b,decide_false,z5,if_false];let o:lo+n<=(arrOf st).size:=by rw [f.size];omega
    let a:∀k,lo<=k->k<lo+n->R rk (arrOf st) k=R rk (arrOf st) (lo+n-1):=by
     intro k l H;let K:=c lo k ∎ l H;let J:=c k (lo+n-1) l ∎ ∎;omega
    refine j5 (wpS_reverse (uH C x ∎ (f.put (mirror_perm _ _ _ _) (gT o (i7 _))) ?_ h));intro i j l u G;show R rk (mirror (arrOf st) _ _ _) j<=R rk (mirror (arrOf st) _ _ _) i;rw [eG o a,eG o a];by_cases D:j<lo+n
    ·rw [a i l ∎,a j ∎ D];exact q0 _
    ·let F:j=lo+n:=∎;subst F;by_cases d:i=lo+n
     ·subst d;exact q0 _
     ·rw [a i l ∎];exact z4 t
  ·rw [if_neg r];let q:n=1:=∎;subst q;refine uH C x ∎ f ?_ h;intro i j l u G;by_cases d:i=j
   ·subst d;exact q0 _
   ·let B:i=lo:=∎;let z:j=lo+1:=∎;subst B;subst z;exact z4 t
def Ai {st:SortSt} {n ok:Nat} {Q:Bool->SortSt->Prop} (C:14#0) (hn:lo+n<=a₀.size) (hok:ok<=n) (hB:jL κ a₀ lo st₀ st) (hs:qS rk (arrOf st) lo (lo+ok))
  (h:∀st',jL κ a₀ lo st₀ st'->qS rk (arrOf st') lo (lo+n)->Q true st'):wpS 8#0 A E s (binarySort' lo n ok) Q st:=by
 rw [binarySort'_eq];refine j5 (N1 (F2 (I:=λk c st'=>c=(none,())/\jL κ a₀ lo st₀ st'/\qS rk (arrOf st') lo (lo+min k n))
  (Q:=λc st'=>c=(none,())/\jL κ a₀ lo st₀ st'/\qS rk (arrOf st') lo (lo+n)) ?step ?fin ?init) ?post)
 case post=>
  rintro c st' ⟨rfl,hB',hs'⟩;exact q7 (h st' hB' hs')
 case init=>
  refine {rfl,hB,λi j hl hij hj=>?_};by_cases h1:ok=0
  ·have:i=j:=∎;subst this;exact q0 _
  ·exact hs i j hl hij ∎
 case fin=>
  rintro c st' ⟨hc,hB',hs'⟩;refine {hc,hB',?_};rwa [show min (max (max ok 1) n) n=n by omega] at hs'
 case step=>
  rintro k c st' hak hkn ⟨rfl,hB',hs'⟩;rw [show min k n=k by omega] at hs';let hk:lo+k<a₀.size:=∎;refine j5 (N1 (F2 (I:=λx c st''=>st''=st'/\∃l r,c=(none,l,r)/\l<=r/\r<=k/\r+x<=k+l /\
    (∀i,lo<=i->i<lo+l->R rk (arrOf st') i<=R rk (arrOf st') (lo+k))/\(∀i,lo+r<=i->i<lo+k->R rk (arrOf st') (lo+k)<R rk (arrOf st') i))
   (Q:=λc st''=>st''=st'/\∃l r,c=(none,l,r)/\l<=k /\
    (∀i,lo<=i->i<lo+l->R rk (arrOf st') i<=R rk (arrOf st') (lo+k))/\(∀i,lo+l<=i->i<lo+k->R rk (arrOf st') (lo+k)<R rk (arrOf st') i)) ?istep ?ifin ?iinit) ?ipost)
  case iinit=>exact {rfl,0,k,rfl,∎,∎,∎,λi _ hi=>∎,λi h1 h2=>∎}
  case ifin=>
   rintro c st'' ⟨rfl,l,r,rfl,hlr,hrk,hm,hlo,hhi⟩;have:l=r:=∎;subst this;exact {(rfl),l,l,rfl,hrk,hlo,hhi}
  case istep=>
   rintro x c st'' _ hxk ⟨rfl,l,r,rfl,hlr,hrk,hm,hlo,hhi⟩;dsimp only
   by_cases hge:l ≥ r
   ·rw [if_pos hge];have:l=r:=∎;subst this;exact q7 {(rfl),l,l,rfl,hrk,hlo,hhi}
   ·rw [if_neg hge];let m1:l<=(l+r) / 2:=∎;let m2:(l+r) / 2<r:=∎;generalize (l+r) / 2=m at *;refine j5 (mH C hB'.toSB hk ∎ ?_);by_cases hless:R rk (arrOf st'') (lo+k)<R rk (arrOf st'') (lo+m)
    ·simp only [hless,decide_true,if_true];refine q7 {rfl,l,m,rfl,m1,∎,∎,hlo,λi h1 h2=>?_};exact Int.lt_of_lt_of_le hless (hs' _ _ ∎ h1 h2)
    ·simp only [hless,decide_false,z5,if_false];refine q7 {rfl,m+1,r,rfl,m2,hrk,∎,λi h0 h1=>?_,hhi};exact A8 (hs' i (lo+m) h0 ∎ ∎) (P3.mp hless)
  case ipost=>
   rintro c st'' ⟨rfl,l,r,rfl,hlk,hlo,hhi⟩;show wpS _ _ _ _ (do moveDown' (lo+k) (lo+l);pure (ForInStep.yield (none,()))) _ _;let hks:lo+k<(arrOf st'').size:=by rw [hB'.size];exact hk
   rw [moveDown'_eq];refine j5 (P4 (q7 {rfl,hB'.put (bubble_perm _ _ _) (yX hks ∎),?_}));rw [show min (k+1) n=k+1 by omega];intro i j hl hij hj;show R rk (bubble (arrOf st'') (lo+k) (lo+k-(lo+l))) i<=R rk (bubble (arrOf st'') (lo+k) (lo+k-(lo+l))) j;rw [zZ hks ∎,zZ hks ∎,show lo+k-(lo+k-(lo+l))=lo+l by omega]
   repeat' split
   all_goals first
    | (exfalso;omega)
    | exact q0 _
    | exact hlo _ ∎ ∎
    | exact z4 (hhi _ ∎ ∎)
    | exact hs' _ _ ∎ ∎ ∎
def lE {α:Type} {a:Array α} {i:Nat}:(a.extract i a.size).toList=a.toList.drop i:=by
 rw [N2,K2,w5];rw [D0];simp
def zI {α:Type} {a:Array α} {i k:Nat}:(a.extract i (i+k)).toList=(a.toList.drop i).take k:=by
 rw [N2,K2];congr 1;omega
def fV (rk:Keyed->Int) (l:List Keyed):Prop:=l.Pairwise λx y=>rk x<=rk y
structure Mg (rk:Keyed->Int) (a b:List Keyed) (o:List Keyed) (i j:Nat):Prop where
 perm:(o++(a.drop i++b.drop j)).Perm (a++b)
 srt:fV rk o
 la:∀x ∈ o,∀y ∈ a.drop i,rk x<=rk y
 lb:∀x ∈ o,∀y ∈ b.drop j,rk x<=rk y
def Mg.len {rk:Keyed->Int} {a b o:List Keyed} {i j:Nat} (h:Mg rk a b o i j):o.length+((a.length-i)+(b.length-j))=a.length+b.length:=by
 have:=h.perm.length_eq;simpa using this
def fV.app {rk:Keyed->Int} {x y:List Keyed} (h:fV rk x) (k:fV rk y) (l:∀u ∈ x,∀v ∈ y,rk u<=rk v):fV rk (x++y):=
 E2.mpr {(h),k,l}
theorem fV.drop {rk:Keyed->Int} {x:List Keyed} {i:Nat} (h:fV rk x):fV rk (x.drop i):=h.sublist (List.drop_sublist _ _)
theorem fV.take {rk:Keyed->Int} {x:List Keyed} {i:Nat} (h:fV rk x):fV rk (x.take i):=h.sublist (List.take_sublist _ _)
def Mg.takeA {rk:Keyed->Int} {a b o:List Keyed} {i j k:Nat} (h:Mg rk a b o i j) (d:fV rk a) (n:∀x ∈ (a.drop i).take k,∀y ∈ b.drop j,rk x<=rk y):Mg rk a b (o++(a.drop i).take k) (i+k) j:=by
 let e:a.drop i=(a.drop i).take k++a.drop (i+k):=by
  rw [<- E7];exact(z6 k _).symm
 let l:fV rk ((a.drop i).take k++a.drop (i+k)):=e ▸ d.drop;let f:∀x ∈ (a.drop i).take k,x ∈ a.drop i:=λx hx=>C4 hx;let g:∀x ∈ a.drop (i+k),x ∈ a.drop i:=λx hx=>by rw [e];exact k7 _ hx
 refine {?_,h.srt.app d.drop.take λu m v p=>h.la u m v (f v p),λx hx y c=>?_,λx hx y c=>?_}
 ·refine List.Perm.trans (List.Perm.of_eq ?_) h.perm
  conv=>rhs;rw [e]
  simp [w8]
 ·rcases q8.mp hx with hx|hx
  ·exact h.la x hx y (g y c)
  ·exact(E2.mp l).2.2 x hx y c
 ·rcases q8.mp hx with hx|hx
  ·exact h.lb x hx y c
  ·exact n x hx y c
def Mg.takeB {rk:Keyed->Int} {a b o:List Keyed} {i j k:Nat} (h:Mg rk a b o i j) (d:fV rk b) (n:∀x ∈ (b.drop j).take k,∀y ∈ a.drop i,rk x<=rk y):Mg rk a b (o++(b.drop j).take k) i (j+k):=by
 let e:b.drop j=(b.drop j).take k++b.drop (j+k):=by
  rw [<- E7];exact(z6 k _).symm
 let l:fV rk ((b.drop j).take k++b.drop (j+k)):=e ▸ d.drop;let f:∀x ∈ (b.drop j).take k,x ∈ b.drop j:=λx hx=>C4 hx;let g:∀x ∈ b.drop (j+k),x ∈ b.drop j:=λx hx=>by rw [e];exact k7 _ hx
 refine {?_,h.srt.app d.drop.take λu m v p=>h.lb u m v (f v p),λx hx y c=>?_,λx hx y c=>?_}
 ·refine List.Perm.trans ?_ h.perm
  conv=>rhs;rw [e]
  have:(a.drop i++((b.drop j).take k++b.drop (j+k))).Perm ((b.drop j).take k++(a.drop i++b.drop (j+k))):=by
   rw [<- w8,<- w8];exact List.perm_append_comm.append_right _
  rw [w8];exact(this.symm).append_left _
 ·rcases q8.mp hx with hx|hx
  ·exact h.la x hx y c
  ·exact n x hx y c
 ·rcases q8.mp hx with hx|hx
  ·exact h.lb x hx y (g y c)
  ·exact(E2.mp l).2.2 x hx y c
def iD {α:Type} {l:List α} {i:Nat} {x:α} (h:l[i]?=some x):(l.drop i).take 1=[x]:=by
 let a:i<l.length:=by
  rcases Nat.lt_or_ge i l.length with z|z
  ·exact z
  ·rw [A3 z] at h;cases h
 rw [B8 a];rw [i3 a] at h;cases h;rfl
def Mg.pushA {rk:Keyed->Int} {a b o:List Keyed} {i j:Nat} {x:Keyed} (h:Mg rk a b o i j) (d:fV rk a) (e:a[i]?=some x) (f:∀y ∈ b.drop j,rk x<=rk y):Mg rk a b (o++[x]) (i+1) j:=by
 have:=h.takeA (k:=1) d (by rw [iD e];intro u c;cases C5.mp c;exact f);rwa [iD e] at this
def Mg.pushB {rk:Keyed->Int} {a b o:List Keyed} {i j:Nat} {x:Keyed} (h:Mg rk a b o i j) (c:fV rk b) (e:b[j]?=some x) (f:∀y ∈ a.drop i,rk x<=rk y):Mg rk a b (o++[x]) i (j+1):=by
 have:=h.takeB (k:=1) c (by rw [iD e];intro u d;cases C5.mp d;exact f);rwa [iD e] at this
def kF (rk:Keyed->Int) (a b:List Keyed) (r:Array Keyed):Prop:=r.toList.Perm (a++b)/\fV rk r.toList
def Mg.doneB {rk:Keyed->Int} {a b:Array Keyed} {o:Array Keyed} {i j:Nat} (h:Mg rk a.toList b.toList o.toList i j) (d:fV rk a.toList) (e:b.size<=j):kF rk a.toList b.toList (o++a.extract i a.size++b.extract j b.size):=by
 let z:b.toList.drop j=[]:=Q4 (by simpa using e);let c:(o++a.extract i a.size++b.extract j b.size).toList=o.toList++a.toList.drop i:=by
  rw [v8,v8,lE,lE,z,E4]
 refine {?_,?_}
 ·rw [c];have:=h.perm;rwa [z,E4] at this
 ·rw [c];exact h.srt.app d.drop h.la
def Mg.doneA {rk:Keyed->Int} {a b:Array Keyed} {o:Array Keyed} {i j:Nat} (h:Mg rk a.toList b.toList o.toList i j) (d:fV rk b.toList) (e:a.size<=i):kF rk a.toList b.toList (o++a.extract i a.size++b.extract j b.size):=by
 let z:a.toList.drop i=[]:=Q4 (by simpa using e);let c:(o++a.extract i a.size++b.extract j b.size).toList=o.toList++b.toList.drop j:=by
  rw [v8,v8,lE,lE,z,E4]
 refine {?_,?_}
 ·rw [c];have:=h.perm;rwa [z,List.nil_append] at this
 ·rw [c];exact h.srt.app d.drop h.lb
def Mg.lastA {rk:Keyed->Int} {a b:Array Keyed} {o:Array Keyed} {i j:Nat} (h:Mg rk a.toList b.toList o.toList i j) (l:fV rk a.toList) (k:fV rk b.toList) (e:i+1=a.size) (m:∀y ∈ b.toList,∀x,a.toList[a.size-1]?=some x->rk y<=rk x):kF rk a.toList b.toList (o++b.extract j b.size++a.extract i a.size):=by
 let f:(o++b.extract j b.size++a.extract i a.size).toList=o.toList++(b.toList.drop j++a.toList.drop i):=by
  rw [v8,v8,lE,lE,w8]
 refine {?_,?_}
 ·rw [f];exact(List.perm_append_comm.append_left _).trans h.perm
 ·rw [f];refine h.srt.app (k.drop.app l.drop λu c v hv=>?_) λu c v hv=>?_
  ·let d:i<a.toList.length:=by simp;omega
   let g:a.toList.drop i=[a.toList[i]]:=by
    rw [B8 d,Q4 (by simp;omega)]
   rw [g] at hv;cases C5.mp hv;refine m u (F3 c) _ ?_;rw [show a.size-1=i by omega,i3 d]
  ·rcases q8.mp hv with hv|hv
   ·exact h.lb u c v hv
   ·exact h.la u c v hv
structure Sg (st₀ st:SortSt):Prop where
 kind:kindOf st=kindOf st₀
 arr:arrOf st=arrOf st₀
 pend:pendingOf st=pendingOf st₀
 failed:failedOf st=failedOf st₀
def Sg.refl {st:SortSt}:Sg st st:={(rfl),rfl,rfl,rfl}
def uZ:Nat->StateT SortSt Sem Unit:=sortPriv% PySem.Builtin.setMinGallop
def Pf (g:Nat):uZ g=modify λt=>SortSt.mk' (kindOf t) (arrOf t) (pendingOf t) g (failedOf t):=rfl
def mG {st st₀:SortSt} {g:Nat} {Q:Unit->SortSt->Prop} (b:Sg st₀ st) (h:∀a,Sg st₀ a->Q () a):wpS 8#0 A E s (uZ g) Q st:=by
 rw [Pf];exact P4 (h _ {(b.kind),b.arr,b.pend,b.failed})
def rA {st:SortSt} {b:Keyed} {a:Array Keyed} {base n d:Nat} {Q:Option Nat->SortSt->Prop} (C:14#0) (K:kindOf st=κ) (D:b ∈ a₀.toList) (S:∀x ∈ a.toList,x ∈ a₀.toList)
  (t:fV rk ((a.toList.drop base).take n)) (U:base+n<=a.size) (O:d<n)
  (h:∀k,k<=n->(∀x ∈ (a.toList.drop base).take k,rk x<=rk b)->(∀i x,k<=i->i<n->a.toList[base+i]?=some x->rk b<rk x)->Q (some k) st):
  wpS 8#0 A E s (fK false b a base n d) Q st:=by
 let c:∀i,i<n->∃x,a[base+i]?=some x/\x ∈ a₀.toList/\((a.toList.drop base).take n)[i]?=some x:=λi f=>by
  let z:base+i<a.size:=∎;refine {a[base+i],w9 z,S _ 6#0,?_};rw [y9 f,v9];simp [z]
 refine qZ (p:=λi=>!decide (rk b<R rk a (base+i))) (λi f Q h=>?_) (λi j o u e=>?_) O λk L F v=>h k L (λx N=>?_) λi x H B e=>?_
 ·let (x,e,m,_):=c i f;unfold zT;refine j5 (bU e ?_);rw [if_neg 6#0];refine j5 (C.lt D m K (q7 ?_));rw [jK e] at h;exact h
 ·let (x,r,_,M):=c i ∎;let (y,g,_,T):=c j u
  try dsimp only at e ⊢
  rw [jK g] at e;rw [jK r];simp only [J8,decide_eq_false_iff_not,P3] at e ⊢;rcases L3 o with z|z
  ·subst z;rw [r] at g;cases g;exact e
  ·refine A8 ?_ e;let (P,G):=i5.mp M;let (I,J):=i5.mp T;rw [<- G,<- J];exact z7.mp t i j P I z
 ·let (i,f,rfl):=B0 N;let l:i<k:=by
   have:=f;simp at this;omega
  let (y,g,_,_):=c i ∎;have:=F i l
  try dsimp only at this
  rw [jK g] at this;simp only [J8,decide_eq_false_iff_not,P3] at this;let q:((a.toList.drop base).take k)[i]?=some y:=by
   rw [y9 l,v9];simpa using g
  rw [i3 f] at q;cases q;exact this
 ·have:=v i H B
  try dsimp only at this
  rw [jK (show a[base+i]?=some x by simpa using e)] at this;simpa using this
def rB {st:SortSt} {b:Keyed} {a:Array Keyed} {base n d:Nat} {Q:Option Nat->SortSt->Prop} (C:14#0) (K:kindOf st=κ) (D:b ∈ a₀.toList) (S:∀x ∈ a.toList,x ∈ a₀.toList)
  (t:fV rk ((a.toList.drop base).take n)) (U:base+n<=a.size) (O:d<n)
  (h:∀k,k<=n->(∀x ∈ (a.toList.drop base).take k,rk x<rk b)->(∀i x,k<=i->i<n->a.toList[base+i]?=some x->rk b<=rk x)->Q (some k) st):
  wpS 8#0 A E s (fK true b a base n d) Q st:=by
 let c:∀i,i<n->∃x,a[base+i]?=some x/\x ∈ a₀.toList/\((a.toList.drop base).take n)[i]?=some x:=λi f=>by
  let z:base+i<a.size:=∎;refine {a[base+i],w9 z,S _ 6#0,?_};rw [y9 f,v9];simp [z]
 refine qZ (p:=λi=>decide (R rk a (base+i)<rk b)) (λi f Q h=>?_) (λi j o u e=>?_) O λk L F v=>h k L (λx N=>?_) λi x H B e=>?_
 ·let (x,e,m,_):=c i f;unfold zT;refine j5 (bU e ?_);rw [if_pos rfl];refine C.lt m D K ?_;rw [jK e] at h;exact h
 ·let (x,r,_,M):=c i ∎;let (y,g,_,T):=c j u
  try dsimp only at e ⊢
  rw [jK g] at e;rw [jK r];simp only [decide_eq_true_eq] at e ⊢;rcases L3 o with z|z
  ·subst z;rw [r] at g;cases g;exact e
  ·refine Int.lt_of_le_of_lt ?_ e;let (P,G):=i5.mp M;let (I,J):=i5.mp T;rw [<- G,<- J];exact z7.mp t i j P I z
 ·let (i,f,rfl):=B0 N;let l:i<k:=by
   have:=f;simp at this;omega
  let (y,g,_,_):=c i ∎;have:=F i l
  try dsimp only at this
  rw [jK g] at this;simp only [decide_eq_true_eq] at this;let q:((a.toList.drop base).take k)[i]?=some y:=by
   rw [y9 l,v9];simpa using g
  rw [i3 f] at q;cases q;exact this
 ·have:=v i H B
  try dsimp only at this
  rw [jK (show a[base+i]?=some x by simpa using e)] at this;simpa using this
noncomputable def BV:Array Keyed->Array Keyed->StateT SortSt Sem (Array Keyed):=sortPriv% PySem.Builtin.mergeLo
abbrev SA:=Option (Array Keyed) × Array Keyed × Nat × Nat × Nat × Nat
abbrev SG:=Option (Array Keyed) × Array Keyed × Nat × Nat × Nat × Nat × Nat
abbrev SO:=Option (Array Keyed) × Array Keyed × Nat × Nat × Nat
section
variable (x y:Array Keyed)
noncomputable def Wb (o:Array Keyed) (i j:Nat):=o++x.extract i x.size++y.extract j y.size
noncomputable def GX (o:Array Keyed) (i j:Nat):=o++y.extract j y.size++x.extract i x.size
noncomputable def LM (g:Nat) (o:Array Keyed) (i j c d:Nat):StateT SortSt Sem (ForInStep SA):=
 elem' y j >>= λp=>elem' x i >>= λq=>lt' p q >>= λr=>match r with
 | some w=>if w=true then elem' y j >>= λp=>
   if (j+1 == y.size)=true then pure (.done (some (Wb x y (o.push p) i (j+1)),o.push p,i,j+1,0,d+1))
   else if d+1 ≥ g then pure (.done (none,o.push p,i,j+1,0,d+1)) else pure (.yield (none,o.push p,i,j+1,0,d+1))
  else elem' x i >>= λq=>
   if (i+1+1 == x.size)=true then pure (.done (some (GX x y (o.push q) (i+1) j),o.push q,i+1,j,c+1,0))
   else if c+1 ≥ g then pure (.done (none,o.push q,i+1,j,c+1,0)) else pure (.yield (none,o.push q,i+1,j,c+1,0))
 | _=>pure (.done (some (Wb x y o i j),o,i,j,c,d))
noncomputable def JX (o:Array Keyed) (i j g c d:Nat):StateT SortSt Sem (ForInStep SG):=do
 let q <- elem' x i
 if (i+1+1 == x.size)=true then pure (.done (some (GX x y (o.push q) (i+1) j),o.push q,i+1,j,g,c,d))
 else if (c<7 && d<7)=true then pure (.done (none,o.push q,i+1,j,g,c,d)) else pure (.yield (none,o.push q,i+1,j,g,c,d))
noncomputable def LN (o:Array Keyed) (i j g c d:Nat):StateT SortSt Sem (ForInStep SG):=
 elem' x i >>= λq=>fK true q y j (y.size-j) 0 >>= λr=>match r with
 | some k=>if k > 0 then
   if (j+k == y.size)=true then pure (.done (some (Wb x y (o++y.extract j (j+k)) i (j+k)),o++y.extract j (j+k),i,j+k,g,c,k)) else JX x y (o++y.extract j (j+k)) i (j+k) g c k
  else JX x y o i j g c k
 | _=>pure (.done (some (Wb x y o i j),o,i,j,g,c,d))
noncomputable def JY (o:Array Keyed) (i j g c d:Nat):StateT SortSt Sem (ForInStep SG):=do
 let p <- elem' y j
 if (j+1 == y.size)=true then pure (.done (some (Wb x y (o.push p) i (j+1)),o.push p,i,j+1,g,c,d)) else LN x y (o.push p) i (j+1) g c d
noncomputable def JZ (o:Array Keyed) (i j g c d:Nat):StateT SortSt Sem (ForInStep SG):=
 uZ g >>= λ_=>elem' y j >>= λp=>fK false p x i (x.size-i) 0 >>= λr=>match r with
 | some k=>if k > 0 then
   if (i+k+1 == x.size)=true then pure (.done (some (GX x y (o++x.extract i (i+k)) (i+k) j),o++x.extract i (i+k),i+k,j,g,k,d))
   else if (i+k == x.size)=true then pure (.done (some (Wb x y (o++x.extract i (i+k)) (i+k) j),o++x.extract i (i+k),i+k,j,g,k,d))
   else JY x y (o++x.extract i (i+k)) (i+k) j g k d
  else JY x y o i j g k d
 | _=>pure (.done (some (Wb x y o i j),o,i,j,g,c,d))
noncomputable def LO (o:Array Keyed) (i j g c d:Nat):StateT SortSt Sem (ForInStep SG):=if g > 1 then JZ x y o i j (g-1) c d else JZ x y o i j g c d
noncomputable def LL (o:Array Keyed) (i j g:Nat):StateT SortSt Sem (ForInStep SO):=do
 let c <- forIn [0:x.size+y.size] ((none,o,i,j,0,0):SA) λ_ c=>LM x y g c.2.1 c.2.2.1 c.2.2.2.1 c.2.2.2.2.1 c.2.2.2.2.2
 match c.1 with
 | some r=>pure (.done (some r,c.2.1,c.2.2.1,c.2.2.2.1,g))
 | none=>do
  liftM (rule "list.sort.gallop")
  let c <- forIn [0:x.size+y.size] ((none,c.2.1,c.2.2.1,c.2.2.2.1,g+1,c.2.2.2.2.1,c.2.2.2.2.2):SG) λ_ c=>LO x y c.2.1 c.2.2.1 c.2.2.2.1 c.2.2.2.2.1 c.2.2.2.2.2.1 c.2.2.2.2.2.2
  match c.1 with
  | some r=>pure (.done (some r,c.2.1,c.2.2.1,c.2.2.2.1,c.2.2.2.2.1))
  | none=>do
   uZ (c.2.2.2.2.1+1)
   pure (.yield (none,c.2.1,c.2.2.1,c.2.2.2.1,c.2.2.2.2.1+1))
def Vk:BV x y=(do
  liftM (rule "list.sort.merge-lo")
  let p <- elem' y 0
  if (1 == y.size)=true then pure (Wb x y #[p] 0 1) else if (0+1 == x.size)=true then pure (GX x y #[p] 0 1) else do
  let st <- get
  let c <- forIn [0:x.size+y.size] ((none,#[p],0,1,gallopOf st):SO) λ_ c=>LL x y c.2.1 c.2.2.1 c.2.2.2.1 c.2.2.2.2
  match c.1 with
  | some r=>pure r
  | none=>do unsupported "internal:list.sort.merge-bound"):=by
 refine congrArg (bind _) (funext λ_=>congrArg (bind _) (funext λp=>?_));dsimp only
 refine congr (congrArg (@ite _ _ _) rfl) (congr (congrArg (@ite _ _ _) rfl) (congrArg (bind _) (funext λst=>congr (congrArg bind (congrArg (forIn _ _) (funext λn=>funext λc=>congrArg (bind _) (funext λc=>?_)))) (funext λc=>?_))))
 ·let (r,c):=c;cases r with
  | some r=>rfl
  | none=>
   refine congrArg (bind _) (funext λ_=>congrArg (bind _) (funext λc=>?_));let (r,c):=c;cases r <;> rfl
 ·let (r,c):=c;cases r <;> rfl
end
def nV {l:List Keyed} {i:Nat} {y:Keyed} (h:y ∈ l.drop i):∃k,i<=k/\l[k]?=some y:=by
 let (n,a,e):=B0 h;refine {i+n,∎,?_};rw [<- v9,i3 a,e]
def kK {l:List Keyed} {i:Nat} {x:Keyed} (h:fV rk l) (e:l[i]?=some x):∀y ∈ l.drop i,rk x<=rk y:=λy m=>by
 let (k,r,a):=nV m
 let (u,b):=i5.mp e
 let (t,f):=i5.mp a
 rcases L3 r with z|z
 ·subst z;rw [e] at a;cases a;exact q0 _
 ·rw [<- b,<- f];exact z7.mp h i k u t z
def pM {x:Array Keyed} {i:Nat} (h:i<x.size):∃p,x[i]?=some p/\x.toList[i]?=some p/\p ∈ x.toList:={x[i],w9 h,by simp [h],by simp}
structure Md (rk:Keyed->Int) (x y o:Array Keyed) (i j n:Nat):Prop where
 m:Mg rk x.toList y.toList o.toList i j
 hi:i+1<x.size
 hj:j<y.size
 sz:n<=o.size
structure Rn (a₀:Array Keyed) (rk:Keyed->Int) (x y:Array Keyed):Prop where
 mx:∀p ∈ x.toList,p ∈ a₀.toList
 my:∀p ∈ y.toList,p ∈ a₀.toList
 sx:fV rk x.toList
 sy:fV rk y.toList
inductive En {γ:Type} (D:Array Keyed->Prop) (G:γ->Prop):Option (Array Keyed)->γ->Prop
 | out {r c} (h:D r):En D G (some r) c
 | on {c} (h:G c):En D G none c
def Gj {γ:Type} (D:Array Keyed->Prop) (G' G:γ->Prop):ForInStep (Option (Array Keyed) × γ)->Prop
 | .done c=>En D G' c.1 c.2
 | .yield c=>c.1=none/\G c.2
variable {x y o:Array Keyed} {i j n g c d:Nat} {st:SortSt} {p q:Keyed}
abbrev Wl (rk:Keyed->Int) (x y:Array Keyed):Array Keyed->Prop:=kF rk x.toList y.toList
abbrev Ae {β:Type} (rk:Keyed->Int) (x y:Array Keyed) (n:Nat):Array Keyed × Nat × Nat × β->Prop:=λc=>Md rk x y c.1 c.2.1 c.2.2.1 n
def Md.a (h:Md rk x y o i j n) (R:Rn a₀ rk x y) (b:∀p ∈ y.toList,∀q,x.toList[x.size-1]?=some q->rk p<=rk q) (e:x.toList[i]?=some q) (l:∀v ∈ y.toList.drop j,rk q<=rk v):(i+1+1=x.size->Wl rk x y (GX x y (o.push q) (i+1) j))/\(¬ i+1+1=x.size->Md rk x y (o.push q) (i+1) j (n+1)):=by
 let m:Mg rk x.toList y.toList (o.push q).toList (i+1) j:=by
  rw [J9];exact h.m.pushA R.sx e l
 let k:=h.hi;let f:=h.sz;exact {λz=>m.lastA R.sx R.sy z b,λz=>{m,∎,h.hj,by rw [O6];omega}}
def Md.b (h:Md rk x y o i j n) (R:Rn a₀ rk x y) (e:y.toList[j]?=some p) (l:∀v ∈ x.toList.drop i,rk p<=rk v):(j+1=y.size->Wl rk x y (Wb x y (o.push p) i (j+1)))/\(¬ j+1=y.size->Md rk x y (o.push p) i (j+1) (n+1)):=by
 let m:Mg rk x.toList y.toList (o.push p).toList i (j+1):=by
  rw [J9];exact h.m.pushB R.sy e l
 let f:=h.hj;let a:=h.sz;exact {λz=>m.doneB R.sx (D6 z.symm),λz=>{m,h.hi,∎,by rw [O6];omega}}
def Md.le {a:Nat} (h:Md rk x y o i j n) (l:a<=n):Md rk x y o i j a:={h.m,h.hi,h.hj,u8 l h.sz}
def oB [Decidable u] {P:Prop} {r:Array Keyed} {c:γ} (l:P->D r) (h2:¬ P->G c) (k:∀c,G c->G' c) (f:b=true↔P):
  wpS 8#0 A E s (if b=true then pure (.done (some r,c)) else if u then pure (.done (none,c)) else pure (.yield (none,c)):StateT SortSt Sem (ForInStep (Option (Array Keyed) × γ))) (λr e=>e=st/\Gj D G' G r) st:=by
 by_cases a:b=true
 ·rw [if_pos a];exact q7 {rfl,.out (l (f.mp a))}
 rw [if_neg a];let z:=h2 λz=>a (f.mpr z);by_cases h:u
 ·rw [if_pos h];exact q7 {rfl,.on (k _ z)}
 ·rw [if_neg h];exact q7 {(rfl),rfl,z}
def GZ {k:Nat} (D:k<=n+1) (C:14#0) (I:kindOf st=κ) (R:Rn a₀ rk x y) (H:∀p ∈ y.toList,∀q,x.toList[x.size-1]?=some q->rk p<=rk q) (h:Md rk x y o i j n):wpS 8#0 A E s (LM x y g o i j c d) (λr t=>t=st/\Gj (Wl rk x y) (Ae rk x y k) (Ae rk x y (n+1)) r) st:=by
 let (p,v,B,J):=pM h.hj;let (q,u,F,G):=pM (x:=x) (i:=i) (by have:=h.hi;omega);refine j5 (bU v (j5 (bU u (j5 (C.lt (R.my p J) (R.mx q G) I ?_)))));dsimp only
 by_cases e:rk p<rk q
 ·rw [if_pos (decide_eq_true e)];let (f,l):=h.b R B λz m=>A8 (z4 e) (kK R.sx F z m);exact j5 (bU v (oB f l (λ_ z=>z.le D) beq_iff_eq))
 ·rw [if_neg (by simpa using e)];let (f,l):=h.a R H F λz m=>A8 (P3.mp e) (kK R.sy B z m);exact j5 (bU u (oB f l (λ_ z=>z.le D) beq_iff_eq))
def Yt (R:Rn a₀ rk x y) (k:∀p ∈ y.toList,∀q,x.toList[x.size-1]?=some q->rk p<=rk q) (h:Md rk x y o i j n) (m:x[i]?=some q) (t:x.toList[i]?=some q) (l:∀v ∈ y.toList.drop j,rk q<=rk v):wpS 8#0 A E s (JX x y o i j g c d) (λr b=>b=st/\Gj (Wl rk x y) (Ae rk x y n) (Ae rk x y n) r) st:=by
 let (e,f):=h.a R k t l;exact j5 (bU m (oB e (λz=>(f z).le (L5 _)) (λ_ z=>z) beq_iff_eq))
def HA (C:14#0) (L:kindOf st=κ) (R:Rn a₀ rk x y) (G:∀p ∈ y.toList,∀q,x.toList[x.size-1]?=some q->rk p<=rk q) (h:Md rk x y o i j n):wpS 8#0 A E s (LN x y o i j g c d) (λr f=>f=st/\Gj (Wl rk x y) (Ae rk x y n) (Ae rk x y n) r) st:=by
 let H:=h.hi;let P:=h.hj;let Q:=h.sz;let (q,b,B,N):=pM (x:=x) (i:=i) ∎;refine j5 (bU b (j5 (rB C L (R.mx q N) R.my R.sy.drop.take ∎ ∎ λk S K I=>?_)));dsimp only
 let a:∀v ∈ y.toList.drop (j+k),rk q<=rk v:=λv l=>by
  let (t,O,D):=nV l;let M:=(i5.mp D).1;rw [u9] at M;exact I (t-j) v ∎ ∎ (by rw [show j+(t-j)=t by omega];exact D)
 by_cases F:k > 0
 ·rw [if_pos F];let m:Mg rk x.toList y.toList (o++y.extract j (j+k)).toList i (j+k):=by
   rw [v8,zI];exact h.m.takeB R.sy λu J v l=>A8 (z4 (K u J)) (kK R.sx B v l)
  by_cases e:(j+k == y.size)=true
  ·rw [if_pos e];exact q7 {rfl,.out (m.doneB R.sx (D6 (beq_iff_eq.mp e).symm))}
  ·rw [if_neg e];have:¬ j+k=y.size:=λz=>e (beq_iff_eq.mpr z);exact Yt R G {m,H,∎,by rw [P9];omega} b B a
 ·rw [if_neg F];obtain rfl:k=0:=∎;exact Yt R G h b B a
def Yu (C:14#0) (t:kindOf st=κ) (R:Rn a₀ rk x y) (m:∀p ∈ y.toList,∀q,x.toList[x.size-1]?=some q->rk p<=rk q) (h:Md rk x y o i j n) (ep:y[j]?=some p) (u:y.toList[j]?=some p) (l:∀v ∈ x.toList.drop i,rk p<=rk v):wpS 8#0 A E s (JY x y o i j g c d) (λr a=>a=st/\Gj (Wl rk x y) (Ae rk x y n) (Ae rk x y n) r) st:=by
 let (f,k):=h.b R u l;refine j5 (bU ep ?_);by_cases e:(j+1 == y.size)=true
 ·rw [if_pos e];exact q7 {rfl,.out (f (beq_iff_eq.mp e))}
 ·rw [if_neg e];exact HA C t R m ((k λz=>e (beq_iff_eq.mpr z)).le (L5 _))
def Yv {st₀:SortSt} (C:14#0) (H:kindOf st₀=κ) (Q:Sg st₀ st) (R:Rn a₀ rk x y) (G:∀p ∈ y.toList,∀q,x.toList[x.size-1]?=some q->rk p<=rk q) (h:Md rk x y o i j n):wpS 8#0 A E s (JZ x y o i j g c d) (λr b=>Sg st₀ b/\Gj (Wl rk x y) (Ae rk x y n) (Ae rk x y n) r) st:=by
 let U:=h.hi;let L:=h.hj;let Y:=h.sz;let (p,D,F,O):=pM h.hj;refine j5 (mG Q λB a=>j5 (bU D (j5 (rA C (a.kind.trans H) (R.my p O) R.mx R.sx.drop.take ∎ ∎ λk Z P M=>?_))));dsimp only
 let f:∀v ∈ x.toList.drop (i+k),rk p<=rk v:=λv I=>by
  let (t,T,J):=nV I;let S:=(i5.mp J).1;rw [u9] at S;exact z4 (M (t-i) v ∎ ∎ (by rw [show i+(t-i)=t by omega];exact J))
 refine N1 ?_ λr b (z:b=B/\_)=>{z.1 ▸ a,z.2};by_cases K:k > 0
 ·rw [if_pos K];let m:Mg rk x.toList y.toList (o++x.extract i (i+k)).toList (i+k) j:=by
   rw [v8,zI];exact h.m.takeA R.sx λu N v I=>A8 (P u N) (kK R.sy F v I)
  by_cases e:(i+k+1 == x.size)=true
  ·rw [if_pos e];exact q7 {rfl,.out (m.lastA R.sx R.sy (beq_iff_eq.mp e) G)}
  rw [if_neg e];by_cases l:(i+k == x.size)=true
  ·rw [if_pos l];exact q7 {rfl,.out (m.doneA R.sy (D6 (beq_iff_eq.mp l).symm))}
  rw [if_neg l];let W:¬ i+k+1=x.size:=λz=>e (beq_iff_eq.mpr z);let X:¬ i+k=x.size:=λz=>l (beq_iff_eq.mpr z);exact Yu C (a.kind.trans H) R G {m,∎,L,by rw [P9];omega} D F f
 ·rw [if_neg K];obtain rfl:k=0:=∎;exact Yu C (a.kind.trans H) R G h D F f
def kJ {γ:Type} {D:Array Keyed->Prop} {G:Nat->γ->Prop} {G':γ->Prop} {S:SortSt->Prop} {m:Nat} {f:Nat->(Option (Array Keyed) × γ)->StateT SortSt Sem (ForInStep (Option (Array Keyed) × γ))} {c:γ} {Q:(Option (Array Keyed) × γ)->SortSt->Prop} (C:G 0 c) (v:S st)
  (u:∀t c st,G t c->S st->wpS 8#0 A E s (f t (none,c)) (λr a=>S a/\Gj D G' (G (t+1)) r) st) (B:∀c,G m c->G' c) (h:∀r c a,S a->En D G' r c->Q (r,c) a):wpS 8#0 A E s (forIn [0:m] (none,c) f) Q st:=by
 refine F2 (I:=λt c a=>S a/\c.1=none/\G t c.2) (λt c a _ _ z=>?_) (λc a z=>?_) {(v),rfl,C}
 ·let (e,l,b):=z;let (r,c):=c;obtain rfl:r=none:=l;refine N1 (u t c a b e) λr k z=>?_;cases r with
  | done c=>exact h c.1 c.2 k z.1 z.2
  | yield c=>exact z
 ·let (e,l,b):=z;let (r,c):=c;obtain rfl:r=none:=l;rw [Nat.max_eq_right (l7 _)] at b;exact h _ _ _ e (.on (B _ b))
def GY {st₀:SortSt} (C:14#0) (l:kindOf st₀=κ) (b:Sg st₀ st) (R:Rn a₀ rk x y) (k:∀p ∈ y.toList,∀q,x.toList[x.size-1]?=some q->rk p<=rk q) (h:Md rk x y o i j n):wpS 8#0 A E s (LL x y o i j g) (λr a=>Sg st₀ a/\Gj (Wl rk x y) (λ_=>False) (Ae rk x y (n+1)) r) st:=by
 refine j5 (kJ (D:=Wl rk x y) (G:=λt=>Ae rk x y (n+t)) (G':=Ae rk x y (n+1)) (S:=λa=>a=st) h rfl (λt c a h e=>?_) (λc h=>h.le (by have:=h.hi;omega)) λr c a e f=>?_)
 ·cases e;exact GZ (R1 (Q9 n t)) C (b.kind.trans l) R k h
 cases e;cases f with
 | out h=>exact q7 {b,.out h}
 | on h=>
  refine j5 (S9 (F1 {rfl,?_}));refine j5 (kJ (D:=Wl rk x y) (G:=λ_=>Ae rk x y (n+1)) (G':=Ae rk x y (n+1)) (S:=Sg st₀) h b (λt c a h e=>?_) (λc h=>h) λr c a e f=>?_)
  ·dsimp only [LO];by_cases u:c.2.2.2.1 > 1
   ·rw [if_pos u];exact Yv C l e R k h
   ·rw [if_neg u];exact Yv C l e R k h
  cases f with
  | out h=>exact q7 {e,.out h}
  | on h=>exact j5 (mG e λv m=>q7 {(m),rfl,h})
def Sf {Q:Array Keyed->SortSt->Prop} (C:14#0) (K:kindOf st=κ)
  (N:∀p ∈ x.toList,p ∈ a₀.toList) (J:∀p ∈ y.toList,p ∈ a₀.toList) (l:fV rk x.toList) (k:fV rk y.toList) (T:1<=x.size) (P:1<=y.size)
  (L:∀p,y.toList[0]?=some p->∀q ∈ x.toList,rk p<=rk q) (F:∀p ∈ y.toList,∀q,x.toList[x.size-1]?=some q->rk p<=rk q)
  (h:∀r a,kF rk x.toList y.toList r->Sg st a->Q r a):wpS 8#0 A E s (BV x y) Q st:=by
 rw [Vk];let (v,M,B,_):=pM (x:=y) (i:=0) ∎;refine j5 (S9 (F1 {rfl,j5 (bU M ?_)}));let u:Mg rk x.toList y.toList (#[v]:Array Keyed).toList 0 1:=by
  let z:Mg rk x.toList y.toList [] 0 0:={by simp,J7,λ_ h=>(nomatch h),λ_ h=>(nomatch h)};exact z.pushB k B (by rw [P5];exact L v B)
 by_cases b:(1 == y.size)=true
 ·rw [if_pos b];exact q7 (h _ _ (u.doneB l (D6 (beq_iff_eq.mp b).symm)) Sg.refl)
 rw [if_neg b];let O:¬ 1=y.size:=λz=>b (beq_iff_eq.mpr z);by_cases f:(0+1 == x.size)=true
 ·rw [if_pos f];exact q7 (h _ _ (u.lastA l k (beq_iff_eq.mp f) F) Sg.refl)
 rw [if_neg f];let I:¬ 0+1=x.size:=λz=>f (beq_iff_eq.mpr z);refine j5 (O0 (j5 (kJ (D:=Wl rk x y) (G:=λt=>Ae rk x y (t+1)) (G':=λ_=>False) (S:=Sg st) {u,(by omega:0+1<x.size),(by omega:1<y.size),i7 _} Sg.refl (λt c a h e=>GY C K e {(N),J,l,k} F h) (λc h=>?_) λr c a e H=>?_)))
 ·have:=h.m.len;have:=h.sz;rw [u9,u9,u9] at *;omega
 cases H with
 | out z=>exact q7 (h _ _ z e)
 | on z=>exact z.elim
structure Mh (rk:Keyed->Int) (a b:List Keyed) (o:List Keyed) (n m:Nat):Prop where
 perm:(a.take n++b.take m++o).Perm (a++b)
 srt:fV rk o
 la:∀y ∈ a.take n,∀x ∈ o,rk y<=rk x
 lb:∀y ∈ b.take m,∀x ∈ o,rk y<=rk x
def Mh.len {rk:Keyed->Int} {a b o:List Keyed} {n m:Nat} (h:Mh rk a b o n m):min n a.length+min m b.length+o.length=a.length+b.length:=by
 have:=h.perm.length_eq;simp at this;omega
def rE {a:List Keyed} {i n:Nat} (hi:i<=n):a.take n=a.take i++(a.drop i).take (n-i):=by
 rw [<- T4];congr 1;omega
def Mh.takeA {rk:Keyed->Int} {a b o:List Keyed} {n m i:Nat} (h:Mh rk a b o n m) (k:fV rk a) (hi:i<=n) (t:∀x ∈ (a.drop i).take (n-i),∀y ∈ b.take m,rk y<=rk x):Mh rk a b ((a.drop i).take (n-i)++o) i m:=by
 let e:=rE (a:=a) hi;let l:fV rk (a.take i++(a.drop i).take (n-i)):=e ▸ k.take;refine {?_,k.drop.take.app h.srt λu r v z=>h.la u (by rw [e];exact k7 _ r) v z,λy f x hx=>?_,λy f x hx=>?_}
 ·refine List.Perm.trans ?_ h.perm;rw [e];have:(b.take m++(a.drop i).take (n-i)).Perm ((a.drop i).take (n-i)++b.take m):=List.perm_append_comm;have:=(this.append_left (a.take i)).append_right o;simpa [w8] using this
 ·rcases q8.mp hx with hx|hx
  ·exact(E2.mp l).2.2 y f x hx
  ·exact h.la y (by rw [e];exact B6 _ f) x hx
 ·rcases q8.mp hx with hx|hx
  ·exact t x hx y f
  ·exact h.lb y f x hx
def Mh.takeB {rk:Keyed->Int} {a b o:List Keyed} {n m j:Nat} (h:Mh rk a b o n m) (k:fV rk b) (l:j<=m) (z:∀x ∈ (b.drop j).take (m-j),∀y ∈ a.take n,rk y<=rk x):Mh rk a b ((b.drop j).take (m-j)++o) n j:=by
 let e:=rE (a:=b) l;let r:fV rk (b.take j++(b.drop j).take (m-j)):=e ▸ k.take;refine {?_,k.drop.take.app h.srt λu t v B=>h.lb u (by rw [e];exact k7 _ t) v B,λy f x hx=>?_,λy f x hx=>?_}
 ·refine List.Perm.trans ?_ h.perm;rw [e];simp [w8]
 ·rcases q8.mp hx with hx|hx
  ·exact z x hx y f
  ·exact h.la y f x hx
 ·rcases q8.mp hx with hx|hx
  ·exact(E2.mp r).2.2 y f x hx
  ·exact h.lb y (by rw [e];exact B6 _ f) x hx
def Mh.pushA {rk:Keyed->Int} {a b o:List Keyed} {n m:Nat} {x:Keyed} (h:Mh rk a b o n m) (k:fV rk a) (r:1<=n) (e:a[n-1]?=some x) (l:∀y ∈ b.take m,rk y<=rk x):Mh rk a b (x::o) (n-1) m:=by
 let z:(a.drop (n-1)).take (n-(n-1))=[x]:=by rw [show n-(n-1)=1 by omega];exact iD e
 have:=h.takeA (i:=n-1) k ∎ (by rw [z];intro u f;cases C5.mp f;exact l);rwa [z] at this
def Mh.pushB {rk:Keyed->Int} {a b o:List Keyed} {n m:Nat} {x:Keyed} (h:Mh rk a b o n m) (f:fV rk b) (r:1<=m) (e:b[m-1]?=some x) (l:∀y ∈ a.take n,rk y<=rk x):Mh rk a b (x::o) n (m-1):=by
 let z:(b.drop (m-1)).take (m-(m-1))=[x]:=by rw [show m-(m-1)=1 by omega];exact iD e
 have:=h.takeB (j:=m-1) f ∎ (by rw [z];intro u k;cases C5.mp k;exact l);rwa [z] at this
def lD {α:Type} {a:Array α} {n:Nat}:(a.extract 0 n).toList=a.toList.take n:=by
 rw [N2,K2];simp
def qG {α:Type} {a:Array α} {i n:Nat}:(a.extract i n).toList=(a.toList.drop i).take (n-i):=by
 rw [N2,K2]
def Mh.doneA {rk:Keyed->Int} {a b:Array Keyed} {o:Array Keyed} {m:Nat} (h:Mh rk a.toList b.toList o.toList.reverse 0 m) (f:fV rk b.toList):kF rk a.toList b.toList (a.extract 0 0++b.extract 0 m++o.reverse):=by
 let e:(a.extract 0 0++b.extract 0 m++o.reverse).toList=b.toList.take m++o.toList.reverse:=by
  rw [v8,v8,lD,lD,K3];simp
 refine {?_,?_}
 ·rw [e];simpa using h.perm
 ·rw [e];exact f.take.app h.srt h.lb
def Mh.doneB {rk:Keyed->Int} {a b:Array Keyed} {o:Array Keyed} {n:Nat} (h:Mh rk a.toList b.toList o.toList.reverse n 0) (f:fV rk a.toList):kF rk a.toList b.toList (a.extract 0 n++b.extract 0 0++o.reverse):=by
 let e:(a.extract 0 n++b.extract 0 0++o.reverse).toList=a.toList.take n++o.toList.reverse:=by
  rw [v8,v8,lD,lD,K3];simp
 refine {?_,?_}
 ·rw [e];simpa using h.perm
 ·rw [e];exact f.take.app h.srt h.la
def Mh.firstB {rk:Keyed->Int} {a b:Array Keyed} {o:Array Keyed} {n:Nat} (h:Mh rk a.toList b.toList o.toList.reverse n 1) (t:fV rk a.toList) (r:fV rk b.toList) (m:∀p,b.toList[0]?=some p->∀q ∈ a.toList,rk p<=rk q):kF rk a.toList b.toList (b.extract 0 1++a.extract 0 n++o.reverse):=by
 let l:(b.extract 0 1++a.extract 0 n++o.reverse).toList=b.toList.take 1++a.toList.take n++o.toList.reverse:=by
  rw [v8,v8,lD,lD,K3]
 refine {?_,?_}
 ·rw [l];exact(List.perm_append_comm.append_right _).trans h.perm
 ·rw [l];refine(r.take.app t.take λu hu v f=>?_).app h.srt λu hu v f=>?_
  ·let (i,k,e):=B0 hu;let z:i=0:=by simp at k;omega
   subst z;refine m u ?_ v (C4 f);have:=i3 k;rw [y9 ∎] at this;rw [this,e]
  ·rcases q8.mp hu with hu|hu
   ·exact h.lb u hu v f
   ·exact h.la u hu v f
noncomputable def Pz:Array Keyed->Array Keyed->StateT SortSt Sem (Array Keyed):=sortPriv% PySem.Builtin.mergeHi
abbrev LU:=Option (Array Keyed) × Nat × Nat × Array Keyed × Nat × Nat
abbrev EE:=Option (Array Keyed) × Nat × Nat × Array Keyed × Nat × Nat × Nat
abbrev LT:=Option (Array Keyed) × Nat × Nat × Array Keyed × Nat
section
variable (x y:Array Keyed)
noncomputable def Wc (o:Array Keyed) (i j:Nat):=x.extract 0 i++y.extract 0 j++o.reverse
noncomputable def HK (o:Array Keyed) (i j:Nat):=y.extract 0 j++x.extract 0 i++o.reverse
noncomputable def LQ (g i j:Nat) (o:Array Keyed) (c d:Nat):StateT SortSt Sem (ForInStep LU):=
 elem' y (j-1) >>= λp=>elem' x (i-1) >>= λq=>lt' p q >>= λr=>match r with
 | some w=>if w=true then elem' x (i-1) >>= λq=>
   if (i-1 == 0)=true then pure (.done (some (Wc x y (o.push q) (i-1) j),i-1,j,o.push q,c+1,0))
   else if c+1 ≥ g then pure (.done (none,i-1,j,o.push q,c+1,0)) else pure (.yield (none,i-1,j,o.push q,c+1,0))
  else elem' y (j-1) >>= λp=>
   if (j-1 == 1)=true then pure (.done (some (HK x y (o.push p) i (j-1)),i,j-1,o.push p,0,d+1))
   else if d+1 ≥ g then pure (.done (none,i,j-1,o.push p,0,d+1)) else pure (.yield (none,i,j-1,o.push p,0,d+1))
 | _=>pure (.done (some (Wc x y o i j),i,j,o,c,d))
noncomputable def KG (i j:Nat) (o:Array Keyed) (g c d:Nat):StateT SortSt Sem (ForInStep EE):=
 elem' x (i-1) >>= λq=>
 if (i-1 == 0)=true then pure (.done (some (Wc x y (o.push q) (i-1) j),i-1,j,o.push q,g,c,d))
 else if (c<7 && d<7)=true then pure (.done (none,i-1,j,o.push q,g,c,d)) else pure (.yield (none,i-1,j,o.push q,g,c,d))
noncomputable def LR (i j:Nat) (o:Array Keyed) (g c d:Nat):StateT SortSt Sem (ForInStep EE):=
 elem' x (i-1) >>= λq=>fK true q y 0 j (j-1) >>= λr=>match r with
 | some t=>if j-t > 0 then
   if (t == 1)=true then pure (.done (some (HK x y (o++(y.extract t j).reverse) i t),i,t,o++(y.extract t j).reverse,g,c,j-t))
   else if (t == 0)=true then pure (.done (some (Wc x y (o++(y.extract t j).reverse) i t),i,t,o++(y.extract t j).reverse,g,c,j-t))
   else KG x y i t (o++(y.extract t j).reverse) g c (j-t)
  else KG x y i j o g c (j-t)
 | _=>pure (.done (some (Wc x y o i j),i,j,o,g,c,d))
noncomputable def KH (i j:Nat) (o:Array Keyed) (g c d:Nat):StateT SortSt Sem (ForInStep EE):=
 elem' y (j-1) >>= λp=>
 if (j-1 == 1)=true then pure (.done (some (HK x y (o.push p) i (j-1)),i,j-1,o.push p,g,c,d)) else LR x y i (j-1) (o.push p) g c d
noncomputable def KI (i j:Nat) (o:Array Keyed) (g c d:Nat):StateT SortSt Sem (ForInStep EE):=
 uZ g >>= λ_=>elem' y (j-1) >>= λp=>fK false p x 0 i (i-1) >>= λr=>match r with
 | some t=>if i-t > 0 then
   if (t == 0)=true then pure (.done (some (Wc x y (o++(x.extract t i).reverse) t j),t,j,o++(x.extract t i).reverse,g,i-t,d))
   else KH x y t j (o++(x.extract t i).reverse) g (i-t) d
  else KH x y i j o g (i-t) d
 | _=>pure (.done (some (Wc x y o i j),i,j,o,g,c,d))
noncomputable def LS (i j:Nat) (o:Array Keyed) (g c d:Nat):StateT SortSt Sem (ForInStep EE):=if g > 1 then KI x y i j o (g-1) c d else KI x y i j o g c d
noncomputable def LP (i j:Nat) (o:Array Keyed) (g:Nat):StateT SortSt Sem (ForInStep LT):=do
 let c <- forIn [0:x.size+y.size] ((none,i,j,o,0,0):LU) λ_ c=>LQ x y g c.2.1 c.2.2.1 c.2.2.2.1 c.2.2.2.2.1 c.2.2.2.2.2
 match c.1 with
 | some r=>pure (.done (some r,c.2.1,c.2.2.1,c.2.2.2.1,g))
 | none=>do
  liftM (rule "list.sort.gallop")
  let c <- forIn [0:x.size+y.size] ((none,c.2.1,c.2.2.1,c.2.2.2.1,g+1,c.2.2.2.2.1,c.2.2.2.2.2):EE) λ_ c=>LS x y c.2.1 c.2.2.1 c.2.2.2.1 c.2.2.2.2.1 c.2.2.2.2.2.1 c.2.2.2.2.2.2
  match c.1 with
  | some r=>pure (.done (some r,c.2.1,c.2.2.1,c.2.2.2.1,c.2.2.2.2.1))
  | none=>do
   uZ (c.2.2.2.2.1+1)
   pure (.yield (none,c.2.1,c.2.2.1,c.2.2.2.1,c.2.2.2.2.1+1))
def Py:Pz x y=(do
  liftM (rule "list.sort.merge-hi")
  let q <- elem' x (x.size-1)
  if (x.size-1 == 0)=true then pure (Wc x y #[q] (x.size-1) y.size) else if (y.size == 1)=true then pure (HK x y #[q] (x.size-1) y.size) else do
  let st <- get
  let c <- forIn [0:x.size+y.size] ((none,x.size-1,y.size,#[q],gallopOf st):LT) λ_ c=>LP x y c.2.1 c.2.2.1 c.2.2.2.1 c.2.2.2.2
  match c.1 with
  | some r=>pure r
  | none=>do unsupported "internal:list.sort.merge-bound"):=by
 refine congrArg (bind _) (funext λ_=>congrArg (bind _) (funext λp=>?_));dsimp only
 refine congr (congrArg (@ite _ _ _) rfl) (congr (congrArg (@ite _ _ _) rfl) (congrArg (bind _) (funext λst=>congr (congrArg bind (congrArg (forIn _ _) (funext λn=>funext λc=>congrArg (bind _) (funext λc=>?_)))) (funext λc=>?_))))
 ·let (r,c):=c;cases r with
  | some r=>rfl
  | none=>
   refine congrArg (bind _) (funext λ_=>congrArg (bind _) (funext λc=>?_));let (r,c):=c;cases r <;> rfl
 ·let (r,c):=c;cases r <;> rfl
end
def mI {l:List Keyed} {n:Nat} {y:Keyed} (h:y ∈ l.take n):∃k,k<n/\l[k]?=some y:=by
 let (k,b,e):=B0 h;let a:k<n:=by simp at b;omega
 refine {k,a,?_};have:=i3 b;rw [y9 a] at this;rw [this,e]
def mL {l:List Keyed} {n:Nat} {x:Keyed} (h:fV rk l) (e:l[n-1]?=some x):∀y ∈ l.take n,rk y<=rk x:=λy m=>by
 let (k,u,a):=mI m
 let (t,b):=i5.mp e
 let (r,f):=i5.mp a
 rcases L3 (show k<=n-1 by omega) with z|z
 ·subst z;rw [e] at a;cases a;exact q0 _
 ·rw [<- b,<- f];exact z7.mp h k (n-1) r t z
def Fg {l:List Keyed} {i n:Nat} {y:Keyed} (h:y ∈ (l.drop i).take (n-i)):∃k,i<=k/\k<n/\l[k]?=some y:=by
 let (k,a,e):=mI h;rw [v9] at e;exact {i+k,∎,∎,e}
structure Nd (rk:Keyed->Int) (x y:Array Keyed) (i j:Nat) (o:Array Keyed) (n:Nat):Prop where
 m:Mh rk x.toList y.toList o.toList.reverse i j
 i1:1<=i
 ix:i<=x.size
 j2:2<=j
 jy:j<=y.size
 sz:n<=o.size
variable {x y o:Array Keyed} {i j n g c d:Nat} {st:SortSt} {p q:Keyed}
abbrev Af {β:Type} (rk:Keyed->Int) (x y:Array Keyed) (n:Nat):Nat × Nat × Array Keyed × β->Prop:=λc=>Nd rk x y c.1 c.2.1 c.2.2.1 n
def Nd.a (h:Nd rk x y i j o n) (R:Rn a₀ rk x y) (e:x.toList[i-1]?=some q) (l:∀v ∈ y.toList.take j,rk v<=rk q):(i-1=0->Wl rk x y (Wc x y (o.push q) (i-1) j))/\(¬ i-1=0->Nd rk x y (i-1) j (o.push q) (n+1)):=by
 let m:Mh rk x.toList y.toList (o.push q).toList.reverse (i-1) j:=by
  rw [J9,O3];exact h.m.pushA R.sx h.i1 e l
 let f:=h.ix;let b:=h.sz;exact {λz=>by rw [z] at m ⊢;exact m.doneA R.sy,λz=>{m,∎,∎,h.j2,h.jy,by rw [O6];omega}}
def Nd.b (h:Nd rk x y i j o n) (R:Rn a₀ rk x y) (a:∀p,y.toList[0]?=some p->∀q ∈ x.toList,rk p<=rk q) (e:y.toList[j-1]?=some p) (l:∀v ∈ x.toList.take i,rk v<=rk p):(j-1=1->Wl rk x y (HK x y (o.push p) i (j-1)))/\(¬ j-1=1->Nd rk x y i (j-1) (o.push p) (n+1)):=by
 let r:=h.j2;let m:Mh rk x.toList y.toList (o.push p).toList.reverse i (j-1):=by
  rw [J9,O3];exact h.m.pushB R.sy ∎ e l
 let f:=h.jy;let k:=h.sz;exact {λz=>by rw [z] at m ⊢;exact m.firstB R.sx R.sy a,λz=>{m,h.i1,h.ix,∎,∎,by rw [O6];omega}}
def Nd.le {a:Nat} (h:Nd rk x y i j o n) (l:a<=n):Nd rk x y i j o a:={h.m,h.i1,h.ix,h.j2,h.jy,u8 l h.sz}
def CH (D:k<=n+1) (C:14#0) (I:kindOf st=κ) (R:Rn a₀ rk x y) (G:∀p,y.toList[0]?=some p->∀q ∈ x.toList,rk p<=rk q) (h:Nd rk x y i j o n):wpS 8#0 A E s (LQ x y g i j o c d) (λr t=>t=st/\Gj (Wl rk x y) (Af rk x y k) (Af rk x y (n+1)) r) st:=by
 let (p,v,B,J):=pM (x:=y) (i:=j-1) (by have:=h.j2;have:=h.jy;omega);let (q,u,F,H):=pM (x:=x) (i:=i-1) (by have:=h.i1;have:=h.ix;omega);refine j5 (bU v (j5 (bU u (j5 (C.lt (R.my p J) (R.mx q H) I ?_)))));dsimp only
 by_cases e:rk p<rk q
 ·rw [if_pos (decide_eq_true e)];let (f,l):=h.a R F λz m=>A8 (mL R.sy B z m) (z4 e);exact j5 (bU u (oB f l (λ_ z=>z.le D) beq_iff_eq))
 ·rw [if_neg (by simpa using e)];let (f,l):=h.b R G B λz m=>A8 (mL R.sx F z m) (P3.mp e);exact j5 (bU v (oB f l (λ_ z=>z.le D) beq_iff_eq))
def Pu (R:Rn a₀ rk x y) (h:Nd rk x y i j o n) (k:x[i-1]?=some q) (m:x.toList[i-1]?=some q) (l:∀v ∈ y.toList.take j,rk v<=rk q):wpS 8#0 A E s (KG x y i j o g c d) (λr b=>b=st/\Gj (Wl rk x y) (Af rk x y n) (Af rk x y n) r) st:=by
 let (e,f):=h.a R m l;exact j5 (bU k (oB e (λz=>(f z).le (L5 _)) (λ_ z=>z) beq_iff_eq))
def CI (C:14#0) (O:kindOf st=κ) (R:Rn a₀ rk x y) (Q:∀p,y.toList[0]?=some p->∀q ∈ x.toList,rk p<=rk q) (h:Nd rk x y i j o n):wpS 8#0 A E s (LR x y i j o g c d) (λr l=>l=st/\Gj (Wl rk x y) (Af rk x y n) (Af rk x y n) r) st:=by
 let (S,J,I,W,X,U):=id h;let (q,f,D,T):=pM (x:=x) (i:=i-1) ∎;refine j5 (bU f (j5 (rB C O (R.mx q T) R.my R.sy.drop.take ∎ ∎ λt P N K=>?_)));dsimp only
 let a:∀v ∈ y.toList.take t,rk v<=rk q:=λv B=>z4 (N v (by rw [P5];exact B));by_cases H:j-t > 0
 ·rw [if_pos H];let m:Mh rk x.toList y.toList (o++(y.extract t j).reverse).toList.reverse i t:=by
   rw [v8,O3,K3,List.reverse_reverse,qG];refine S.takeB R.sy P λu L v B=>?_;let (k,F,G,M):=Fg L;exact A8 (mL R.sx D v B) (K k u F G (by rw [Nat.zero_add];exact M))
  by_cases e:(t == 1)=true
  ·rw [if_pos e];refine q7 {rfl,.out ?_};rw [beq_iff_eq.mp e] at m ⊢;exact m.firstB R.sx R.sy Q
  rw [if_neg e];by_cases b:(t == 0)=true
  ·rw [if_pos b];refine q7 {rfl,.out ?_};rw [beq_iff_eq.mp b] at m ⊢;exact m.doneB R.sx
  rw [if_neg b];let F:¬ t=1:=λz=>e (beq_iff_eq.mpr z);let G:¬ t=0:=λz=>b (beq_iff_eq.mpr z);exact Pu R {m,J,I,∎,∎,by rw [P9];omega} f D a
 ·rw [if_neg H];obtain rfl:t=j:=∎;exact Pu R h f D a
def Pw (C:14#0) (t:kindOf st=κ) (R:Rn a₀ rk x y) (f:∀p,y.toList[0]?=some p->∀q ∈ x.toList,rk p<=rk q) (h:Nd rk x y i j o n) (ep:y[j-1]?=some p) (u:y.toList[j-1]?=some p) (l:∀v ∈ x.toList.take i,rk v<=rk p):wpS 8#0 A E s (KH x y i j o g c d) (λr a=>a=st/\Gj (Wl rk x y) (Af rk x y n) (Af rk x y n) r) st:=by
 let (k,m):=h.b R f u l;refine j5 (bU ep ?_);by_cases e:(j-1 == 1)=true
 ·rw [if_pos e];exact q7 {rfl,.out (k (beq_iff_eq.mp e))}
 ·rw [if_neg e];exact CI C t R f ((m λz=>e (beq_iff_eq.mpr z)).le (L5 _))
def Px {st₀:SortSt} (C:14#0) (F:kindOf st₀=κ) (Q:Sg st₀ st) (R:Rn a₀ rk x y) (J:∀p,y.toList[0]?=some p->∀q ∈ x.toList,rk p<=rk q) (h:Nd rk x y i j o n):wpS 8#0 A E s (KI x y i j o g c d) (λr b=>Sg st₀ b/\Gj (Wl rk x y) (Af rk x y n) (Af rk x y n) r) st:=by
 let (W,Z,Y,S,T,X):=id h;let (p,B,D,O):=pM (x:=y) (i:=j-1) ∎;refine j5 (mG Q λl a=>j5 (bU B (j5 (rA C (a.kind.trans F) (R.my p O) R.mx R.sx.drop.take ∎ ∎ λt U P L=>?_))));dsimp only
 let f:∀v ∈ x.toList.take t,rk v<=rk p:=λv G=>P v (by rw [P5];exact G);refine N1 ?_ λr b (z:b=l/\_)=>{z.1 ▸ a,z.2};by_cases I:i-t > 0
 ·rw [if_pos I];let m:Mh rk x.toList y.toList (o++(x.extract t i).reverse).toList.reverse t j:=by
   rw [v8,O3,K3,List.reverse_reverse,qG];refine W.takeA R.sx U λu M v G=>?_;let (k,H,K,N):=Fg M;exact A8 (mL R.sy D v G) (z4 (L k u H K (by rw [Nat.zero_add];exact N)))
  by_cases e:(t == 0)=true
  ·rw [if_pos e];refine q7 {rfl,.out ?_};rw [beq_iff_eq.mp e] at m ⊢;exact m.doneA R.sy
  rw [if_neg e];let H:¬ t=0:=λz=>e (beq_iff_eq.mpr z);exact Pw C (a.kind.trans F) R J {m,∎,∎,S,T,by rw [P9];omega} B D f
 ·rw [if_neg I];obtain rfl:t=i:=∎;exact Pw C (a.kind.trans F) R J h B D f
def CG {st₀:SortSt} (C:14#0) (l:kindOf st₀=κ) (f:Sg st₀ st) (R:Rn a₀ rk x y) (b:∀p,y.toList[0]?=some p->∀q ∈ x.toList,rk p<=rk q) (h:Nd rk x y i j o n):wpS 8#0 A E s (LP x y i j o g) (λr a=>Sg st₀ a/\Gj (Wl rk x y) (λ_=>False) (Af rk x y (n+1)) r) st:=by
 refine j5 (kJ (D:=Wl rk x y) (G:=λt=>Af rk x y (n+t)) (G':=Af rk x y (n+1)) (S:=λa=>a=st) h rfl (λt c a h e=>?_) (λc h=>h.le (by have:=h.i1;have:=h.ix;omega)) λr c a e k=>?_)
 ·cases e;exact CH (R1 (Q9 n t)) C (f.kind.trans l) R b h
 cases e;cases k with
 | out h=>exact q7 {f,.out h}
 | on h=>
  refine j5 (S9 (F1 {rfl,?_}));refine j5 (kJ (D:=Wl rk x y) (G:=λ_=>Af rk x y (n+1)) (G':=Af rk x y (n+1)) (S:=Sg st₀) h f (λt c a h e=>?_) (λc h=>h) λr c a e k=>?_)
  ·dsimp only [LS];by_cases u:c.2.2.2.1 > 1
   ·rw [if_pos u];exact Px C l e R b h
   ·rw [if_neg u];exact Px C l e R b h
  cases k with
  | out h=>exact q7 {e,.out h}
  | on h=>exact j5 (mG e λv m=>q7 {(m),rfl,h})
def Jq {Q:Array Keyed->SortSt->Prop} (C:14#0) (M:kindOf st=κ)
  (T:∀p ∈ x.toList,p ∈ a₀.toList) (K:∀p ∈ y.toList,p ∈ a₀.toList) (u:fV rk x.toList) (l:fV rk y.toList) (O:1<=x.size) (W:1<=y.size)
  (H:∀p,y.toList[0]?=some p->∀q ∈ x.toList,rk p<=rk q) (L:∀p ∈ y.toList,∀q,x.toList[x.size-1]?=some q->rk p<=rk q)
  (h:∀r a,kF rk x.toList y.toList r->Sg st a->Q r a):wpS 8#0 A E s (Pz x y) Q st:=by
 rw [Py];let (B,P,F,_):=pM (x:=x) (i:=x.size-1) ∎;refine j5 (S9 (F1 {rfl,j5 (bU P ?_)}));let b:Mh rk x.toList y.toList (#[B]:Array Keyed).toList.reverse (x.size-1) y.size:=by
  let z:Mh rk x.toList y.toList [] x.size y.size:={by rw [w5 6#0,w5 6#0];simp,J7,λ_ _ _ h=>(nomatch h),λ_ _ _ h=>(nomatch h)};exact z.pushA u O F λv N=>L v (C4 N) B F
 by_cases f:(x.size-1 == 0)=true
 ·rw [if_pos f];rw [beq_iff_eq.mp f] at b ⊢;exact q7 (h _ _ (b.doneA l) Sg.refl)
 rw [if_neg f];let U:¬ x.size-1=0:=λz=>f (beq_iff_eq.mpr z);by_cases k:(y.size == 1)=true
 ·rw [if_pos k];rw [beq_iff_eq.mp k] at b ⊢;exact q7 (h _ _ (b.firstB u l H) Sg.refl)
 rw [if_neg k];let J:¬ y.size=1:=λz=>k (beq_iff_eq.mpr z);refine j5 (O0 (j5 (kJ (D:=Wl rk x y) (G:=λt=>Af rk x y (t+1)) (G':=λ_=>False) (S:=Sg st) {b,(by omega:1<=x.size-1),(by omega:x.size-1<=x.size),(by omega:2<=y.size),i7 _,i7 _} Sg.refl (λt c a h e=>CG C M e {(T),K,u,l} H h) (λc h=>?_) λr c a e I=>?_)))
 ·have:=h.m.len;have:=h.sz;have:=h.i1;have:=h.j2;have:=h.ix;have:=h.jy;rw [List.length_reverse,u9,u9,u9] at *;omega
 cases I with
 | out z=>exact q7 (h _ _ z e)
 | on z=>exact z.elim
def dd (l:List α) (a b:Nat):l.drop (a+b)=(l.drop a).drop b:=by rw [E7]
theorem Mz (b:Nat):∀(m:List α) (a:Array α) (j:Nat),b+j+m.length<=a.size ->
  ((m.zipIdx j).foldl (λa (x:α × Nat)=>match x with|(p,i)=>a.setIfInBounds (b+i) p) a).toList=a.toList.take (b+j)++(m++a.toList.drop (b+j+m.length))
 | [],a,j,h=>by simp
 | p::r,a,j,h=>by
  rw [List.zipIdx_cons,List.foldl_cons]
  simp only [t7] at h
  rw [Mz b r _ (j+1) (by simp;omega)]
  simp only [Array.toList_setIfInBounds,t7]
  let c:b+j<a.toList.length:=by simp;omega
  rw [show b+(j+1)=b+j+1 by omega]
  let e:(a.toList.set (b+j) p).take (b+j+1)=a.toList.take (b+j)++[p]:=by
   rw [List.take_set,List.take_succ_eq_append_getElem c,R7 _ _ (by simp;omega)];simp [B9 (E5 c)];have:b+j-min (b+j) a.size=0:=by simp at c;omega
   rw [this];rfl
  let d:(a.toList.set (b+j) p).drop (b+j+1+r.length)=a.toList.drop (b+j+(r.length+1)):=by
   rw [List.drop_set_of_lt ∎];congr 1;omega
  rw [e,d];simp
def Uf {α:Type} (l r:List α) {a b c k m:Nat} (d:k<=b) (e:m<=c):l.take (a+k)++(r++l.drop (a+k+(b-k+m)))=l.take a++((((l.drop a).take b).take k++(r++((l.drop (a+b)).take c).drop m))++l.drop (a+b+c)):=by
 rw [T4,P6,B9 d,w8,w8,w8];congr 3;rw [List.drop_take,E7,show a+k+(b-k+m)=a+b+m by omega];rw [show a+b+c=(a+b+m)+(c-m) by omega,dd _ (a+b+m) (c-m),z6]
def wC {xs:Array Keyed} {lo hi:Nat} (a:hi<=xs.size):((xs.toList.drop lo).take (hi-lo)).length=hi-lo:=by rw [t9,D0,u9,B9 (Nat.sub_le_sub_right a lo)]
def Dx {rk:Keyed->Int} {xs:Array Keyed} {lo hi:Nat} (b:hi<=xs.size) (h:qS rk xs lo hi):fV rk ((xs.toList.drop lo).take (hi-lo)):=by
 refine z7.mpr λi j d a c=>?_;let e:=wC b ▸ a;have:=h (lo+i) (lo+j) ∎ ∎ ∎;rw [jK (p:=xs[lo+i]'∎) (w9 ∎),jK (p:=xs[lo+j]'∎) (w9 ∎)] at this;simpa using this
def vV {rk:Keyed->Int} {xs:Array Keyed} {lo hi:Nat} (c:hi<=xs.size) (h:fV rk ((xs.toList.drop lo).take (hi-lo))):qS rk xs lo hi:=by
 intro i j b a d;rcases L3 a with z|z
 ·subst z;exact q0 _
 ·have:=z7.mp h (i-lo) (j-lo) (by rw [wC c];omega) (by rw [wC c];omega) ∎;rw [jK (p:=xs[i]'∎) (w9 ∎),jK (p:=xs[j]'∎) (w9 ∎)];simpa [Nat.add_sub_of_le b,Nat.add_sub_of_le (u8 b a)] using this
section
variable {M:Model} {σ:Type}
def Se {t:σ} {Q:PUnit->σ->Prop} {st:σ} (h:Q ⟨⟩ t):wpS M A E s (set t:StateT σ Sem PUnit) Q st:=by
 unfold wpS;rw [StateT.run_set];exact j3 {(rfl),h}
end
def yU (i:Nat):mergeAt' i=(do
  let t <- get
  let (some (sa,na,pw),some (sb,nb,_)):=((pendingOf t)[i]?,(pendingOf t)[i+1]?)|unsupported "internal:list.sort.pending"
  set (SortSt.mk' (kindOf t) (arrOf t) (((pendingOf t).setIfInBounds i (sa,na+nb,pw)).eraseIdxIfInBounds (i+1)) (gallopOf t) (failedOf t))
  let some k <- fK false (<- elem' (arrOf t) sb) (arrOf t) sa na 0|return false
  let (sa,na):=(sa+k,na-k)
  if na == 0 then return true
  let some nb <- fK true (<- elem' (arrOf t) (sa+na-1)) (arrOf t) sb nb (nb-1)|return false
  if nb == 0 then return true
  let x:=(arrOf t).extract sa sb
  let y:=(arrOf t).extract sb (sb+nb)
  let b <- if na<=nb then BV x y else Pz x y
  modify λt=>setArr t (b.toList.zipIdx.foldl (λa (p,j)=>a.setIfInBounds (sa+j) p) (arrOf t))
  return (failedOf (<- get)).isNone):=rfl
def merged_ok {a a':Array Keyed} {T c AB' D:List Keyed} {lo hi:Nat} (e:a.toList=T++(c++D)) (b:a'.toList=T++(AB'++D)) (g:AB'.Perm c) (i:fV rk AB') (f:T.length=lo) (h:c.length=hi-lo) (l:lo<=hi):
  a'.Perm a/\qS rk a' lo hi/\∀k,(k<lo\/hi<=k)->a'[k]?=a[k]?:=by
 let d:AB'.length=hi-lo:=g.length_eq.trans h;let j:hi<=a'.size:=by
  have:=congrArg List.length b;simp at this;omega
 refine {N8.mpr ?_,vV j ?_,λk hk=>?_}
 ·rw [e,b];exact(g.append_right D).append_left T
 ·rw [b,<- f,List.drop_left,f,<- d,List.take_left];exact i
 ·rw [<- J5,<- J5,e,b];rcases hk with hk|hk
  ·rw [B7 ∎,B7 ∎]
  ·rw [B1 ∎,B1 ∎,B1 ∎,B1 ∎,d,h]
def xK {st:SortSt} {i sa na pa sb nb pb:Nat} {Q:Bool->SortSt->Prop} (C:14#0) (hB:SB κ a₀ st)
  (p1:(pendingOf st)[i]?=some (sa,na,pa)) (p2:(pendingOf st)[i+1]?=some (sb,nb,pb)) (es:sb=sa+na) (hz:sb+nb<=a₀.size) (h1:1<=na) (h2:1<=nb) (s1:qS rk (arrOf st) sa sb) (s2:qS rk (arrOf st) sb (sb+nb))
  (h:∀st',SB κ a₀ st'->pendingOf st'=((pendingOf st).setIfInBounds i (sa,na+nb,pa)).eraseIdxIfInBounds (i+1)->qS rk (arrOf st') sa (sb+nb)->(∀k,(k<sa\/sb+nb<=k)->(arrOf st')[k]?=(arrOf st)[k]?)->Q true st'):
  wpS 8#0 A E s (mergeAt' i) Q st:=by
 rw [yU];refine j5 (O0 ?_);rw [p1,p2];dsimp only
 refine j5 (Se ?_);let hsz:(arrOf st).size=a₀.size:=hB.size;let mem:∀x ∈ (arrOf st).toList,x ∈ a₀.toList:=λx hx=>(N8.mp hB.perm).mem_iff.mp hx;let (b0,e0,f0,g0):=pM (x:=arrOf st) (i:=sb) ∎;let S1:=Dx ∎ s1;let S2:=Dx ∎ s2;rw [show sb-sa=na by omega] at S1;rw [show sb+nb-sb=nb by omega] at S2;let sz:(arrOf st).toList.length=a₀.size:=by simpa using hsz
 let lA:(((arrOf st).toList.drop sa).take na).length=na:=by rw [t9,D0,sz,B9 ∎]
 let lB:(((arrOf st).toList.drop sb).take nb).length=nb:=by rw [t9,D0,sz,B9 ∎]
 let b0B:∀v ∈ ((arrOf st).toList.drop sb).take nb,rk b0<=rk v:=by
  obtain⟨nb',rfl⟩:∃n,nb=n+1:={nb-1,∎};let hlt:sb<(arrOf st).toList.length:=∎;rw [B8 hlt,List.take_succ_cons] at S2 ⊢;rw [i3 hlt] at f0;cases f0;intro v hv;rcases i9.mp hv with rfl|hv
  ·exact q0 _
  ·exact(v5.mp S2).1 v hv
 refine j5 (bU e0 ?_);refine j5 (rA C hB.kind (mem b0 g0) mem S1 ∎ ∎ λk k1 k2 k3=>?_);dsimp only
 by_cases c1:(na-k == 0)=true
 ·rw [if_pos c1];let ek:k=na:=by have:=beq_iff_eq.mp c1;omega
  subst ek;refine q7 (h _ {(hB.perm),hB.kind,hB.failed} rfl ?_ λ_ _=>rfl);refine vV (by rw [show (arrOf (SortSt.mk' (kindOf st) (arrOf st) (((pendingOf st).setIfInBounds i (sa,k+nb,pa)).eraseIdxIfInBounds (i+1)) (gallopOf st) (failedOf st)))=arrOf st from rfl];omega) ?_;show fV rk (((arrOf st).toList.drop sa).take (sb+nb-sa));rw [show sb+nb-sa=k+nb by omega,T4,E7,<- es];exact S1.app S2 λu hu v hv=>A8 (k2 u hu) (b0B v hv)
 rw [if_neg c1];let hk:k<na:=by
  have:¬ na-k=0:=λz=>c1 (beq_iff_eq.mpr z);omega
 let ix:sa+k+(na-k)=sb:=by rw [es,Nat.add_assoc,Nat.add_sub_of_le k1]
 let (a1,e1,fa1,g1):=pM (x:=arrOf st) (i:=sb-1) ∎;rw [ix];let lastA:∀v ∈ ((arrOf st).toList.drop sa).take na,rk v<=rk a1:=λv hv=>by
  let (t,t1,t2):=mI hv;rw [v9] at t2;have:=s1 (sa+t) (sb-1) ∎ ∎ ∎;rwa [jK (show (arrOf st)[sa+t]?=some v by simpa using t2),jK (show (arrOf st)[sb-1]?=some a1 by simpa using fa1)] at this
 refine j5 (bU e1 ?_);refine j5 (rB C hB.kind (mem a1 g1) mem S2 ∎ ∎ λm m1 m2 m3=>?_);dsimp only
 let hiB:∀v ∈ ((arrOf st).toList.drop (sb+m)).take (nb-m),rk a1<=rk v:=λv hv=>by
  let (t,t1,t2):=mI hv;rw [v9] at t2;exact m3 (m+t) v ∎ ∎ (by rw [<- t2];congr 1;omega)
 by_cases c2:(m == 0)=true
 ·rw [if_pos c2];let em:m=0:=beq_iff_eq.mp c2;subst em;refine q7 (h _ {(hB.perm),hB.kind,hB.failed} rfl ?_ λ_ _=>rfl);refine vV (by show sb+nb<=(arrOf st).size;omega) ?_;show fV rk (((arrOf st).toList.drop sa).take (sb+nb-sa));rw [show sb+nb-sa=na+nb by omega,T4,E7,<- es];exact S1.app S2 λu hu v hv=>A8 (lastA u hu) (hiB v hv)
 rw [if_neg c2];let hm:1<=m:=by
  have:¬ m=0:=λz=>c2 (beq_iff_eq.mpr z);omega
 let xl:((arrOf st).extract (sa+k) sb).toList=(((arrOf st).toList.drop sa).take na).drop k:=by
  rw [qG,List.drop_take,E7];congr 1;omega
 let yl:((arrOf st).extract sb (sb+m)).toList=(((arrOf st).toList.drop sb).take nb).take m:=by
  rw [qG,P6];congr 1;omega
 let dec:(arrOf st).toList=(arrOf st).toList.take sa++((((arrOf st).toList.drop sa).take na++((arrOf st).toList.drop sb).take nb)++(arrOf st).toList.drop (sb+nb)):=by
  rw [w8,dd _ sb nb,z6];rw [show (arrOf st).toList.drop sb=((arrOf st).toList.drop sa).drop na by rw [E7,es],z6,z6]
 have post:∀(r:Array Keyed) (st':SortSt),kF rk ((arrOf st).extract (sa+k) sb).toList ((arrOf st).extract sb (sb+m)).toList r ->
   Sg (SortSt.mk' (kindOf st) (arrOf st) (((pendingOf st).setIfInBounds i (sa,na+nb,pa)).eraseIdxIfInBounds (i+1)) (gallopOf st) (failedOf st)) st' ->
   Q true (setArr st' (r.toList.zipIdx.foldl (λa (x:Keyed × Nat)=>match x with|(p,j)=>a.setIfInBounds (sa+k+j) p) (arrOf st'))):=by
  intro r st' hW hS;let arr:arrOf st'=arrOf st:=hS.arr;let (wp,ws):=hW;rw [xl,yl] at wp;let rl:r.toList.length=(na-k)+m:=by
   rw [wp.length_eq,p8,D0,lA,t9,lB,B9 m1]
  have e':(r.toList.zipIdx.foldl (λa (x:Keyed × Nat)=>match x with|(p,j)=>a.setIfInBounds (sa+k+j) p) (arrOf st)).toList =
    (arrOf st).toList.take sa++(((((arrOf st).toList.drop sa).take na).take k++(r.toList++(((arrOf st).toList.drop sb).take nb).drop m))++(arrOf st).toList.drop (sb+nb)):=by
   rw [Mz (sa+k) r.toList (arrOf st) 0 (by rw [rl];omega),rl,Nat.add_zero,Uf _ _ k1 m1,es]
  let hsub:∀u ∈ r.toList,u ∈ (((arrOf st).toList.drop sa).take na).drop k\/u ∈ (((arrOf st).toList.drop sb).take nb).take m:=λu hu=>q8.mp (wp.mem_iff.mp hu);let hperm:((((arrOf st).toList.drop sa).take na).take k++(r.toList++(((arrOf st).toList.drop sb).take nb).drop m)).Perm (((arrOf st).toList.drop sa).take na++((arrOf st).toList.drop sb).take nb):=by
   let e1:((arrOf st).toList.drop sa).take na=(((arrOf st).toList.drop sa).take na).take k++(((arrOf st).toList.drop sa).take na).drop k:=(z6 k _).symm;let e2:((arrOf st).toList.drop sb).take nb=(((arrOf st).toList.drop sb).take nb).take m++(((arrOf st).toList.drop sb).take nb).drop m:=(z6 m _).symm
   conv=>rhs;rw [e1,e2]
   rw [w8];refine List.Perm.append_left _ ?_;rw [<- w8];exact wp.append_right _
  let hsrt:fV rk ((((arrOf st).toList.drop sa).take na).take k++(r.toList++(((arrOf st).toList.drop sb).take nb).drop m)):=by
   refine S1.take.app (ws.app S2.drop λu hu v hv=>?_) λu hu v hv=>?_
   ·let hv':v ∈ ((arrOf st).toList.drop (sb+m)).take (nb-m):=by rwa [List.drop_take,E7] at hv
    rcases hsub u hu with z|z
    ·exact A8 (lastA u (F3 z)) (hiB v hv')
    ·exact A8 (z4 (m2 u (by rwa [P6,B9 m1] at z))) (hiB v hv')
   ·let hu':rk u<=rk b0:=k2 u (by rwa [P6,B9 k1] at hu);rcases q8.mp hv with z|z
    ·rcases hsub v z with z|z
     ·let e1:((arrOf st).toList.drop sa).take na=(((arrOf st).toList.drop sa).take na).take k++(((arrOf st).toList.drop sa).take na).drop k:=(z6 k _).symm;rw [e1] at S1;exact(E2.mp S1).2.2 u hu v z
     ·exact A8 hu' (b0B v (C4 z))
    ·exact A8 hu' (b0B v (F3 z))
  let (g1,g2,g3):=merged_ok (rk:=rk) (lo:=sa) (hi:=sb+nb) dec e' hperm hsrt (by rw [t9,sz,B9 ∎]) (by rw [p8,lA,lB];omega) ∎;refine h _ {?_,hS.kind.trans hB.kind,hS.failed.trans hB.failed} (hS.pend) ?_ ?_
  ·show (r.toList.zipIdx.foldl _ (arrOf st')).Perm a₀;rw [arr];exact g1.trans hB.perm
  ·show qS rk (r.toList.zipIdx.foldl _ (arrOf st')) _ _;rw [arr];exact g2
  ·show ∀k',_->(r.toList.zipIdx.foldl _ (arrOf st'))[k']?=_;rw [arr];exact g3
 have fin:∀(r:Array Keyed) (st':SortSt),kF rk ((arrOf st).extract (sa+k) sb).toList ((arrOf st).extract sb (sb+m)).toList r ->
   Sg (SortSt.mk' (kindOf st) (arrOf st) (((pendingOf st).setIfInBounds i (sa,na+nb,pa)).eraseIdxIfInBounds (i+1)) (gallopOf st) (failedOf st)) st'->failedOf st'=none:=
  λr st' _ hS=>hS.failed.trans hB.failed
 let mx:∀p ∈ ((arrOf st).extract (sa+k) sb).toList,p ∈ a₀.toList:=λp hp=>by
  rw [xl] at hp;exact mem p (F3 (C4 (F3 hp)))
 let my:∀p ∈ ((arrOf st).extract sb (sb+m)).toList,p ∈ a₀.toList:=λp hp=>by
  rw [yl] at hp;exact mem p (F3 (C4 (C4 hp)))
 let sx:((arrOf st).extract (sa+k) sb).size=na-k:=by rw [<- u9,xl,D0,lA]
 let hx:1<=((arrOf st).extract (sa+k) sb).size:=by rw [sx];omega
 let hy:1<=((arrOf st).extract sb (sb+m)).size:=by rw [<- u9,yl,t9,lB,B9 m1];exact hm
 let hf:∀p,((arrOf st).extract sb (sb+m)).toList[0]?=some p->∀q ∈ ((arrOf st).extract (sa+k) sb).toList,rk p<=rk q:=λp hp q hq=>by
  have:p=b0:=by
   rw [yl,y9 ∎,y9 ∎,v9] at hp;simp only [Nat.add_zero] at hp;rw [f0] at hp;exact(Option.some.inj hp).symm
  subst this;rw [xl] at hq;let (t,t1,t2):=nV hq;let tl:t<na:=lA ▸ (i5.mp t2).1;rw [y9 tl,v9] at t2;exact z4 (k3 t q t1 tl t2)
 let hl:∀p ∈ ((arrOf st).extract sb (sb+m)).toList,∀q,((arrOf st).extract (sa+k) sb).toList[((arrOf st).extract (sa+k) sb).size-1]?=some q->rk p<=rk q:=λp hp q hq=>by
  have:q=a1:=by
   rw [sx,xl,v9,y9 ∎,v9,show sa+(k+(na-k-1))=sb-1 by omega,fa1] at hq;exact(Option.some.inj hq).symm
  subst this;rw [yl] at hp;exact z4 (m2 p (by rwa [P6,B9 m1] at hp))
 let sx:fV rk ((arrOf st).extract (sa+k) sb).toList:=by rw [xl];exact S1.drop
 let sy:fV rk ((arrOf st).extract sb (sb+m)).toList:=by rw [yl];exact S2.take
 by_cases c3:na-k<=m
 ·rw [if_pos c3];refine j5 (Sf C hB.kind mx my sx sy hx hy hf hl λr st' hW hS=>?_);refine j5 (P4 (j5 (O0 (q7 ?_))));have:=post r st' hW hS;rw [show failedOf (setArr st' (r.toList.zipIdx.foldl (λa (x:Keyed × Nat)=>match x with|(p,j)=>a.setIfInBounds (sa+k+j) p) (arrOf st')))=none from fin r st' hW hS];exact this
 ·rw [if_neg c3];refine j5 (Jq C hB.kind mx my sx sy hx hy hf hl λr st' hW hS=>?_);refine j5 (P4 (j5 (O0 (q7 ?_))));have:=post r st' hW hS;rw [show failedOf (setArr st' (r.toList.zipIdx.foldl (λa (x:Keyed × Nat)=>match x with|(p,j)=>a.setIfInBounds (sa+k+j) p) (arrOf st')))=none from fin r st' hW hS];exact this
abbrev Da:=Nat × Nat × Nat
def eX (rk:Keyed->Int) (xs:Array Keyed):Nat->List Da->Nat->Prop
 | lo,[],hi=>lo=hi
 | lo,(a,n,_)::r,hi=>a=lo/\1<=n/\qS rk xs lo (lo+n)/\eX rk xs (lo+n) r hi
theorem eX.le {rk:Keyed->Int} {xs:Array Keyed}:∀{l:List Da} {lo hi:Nat},eX rk xs lo l hi->lo+l.length<=hi
 | [],lo,hi,h=>by cases h;simp
 | (a,n,p)::r,lo,hi,h=>by
  let (_,c,_,b):=h
  have:=b.le
  simp;omega
theorem eX.app {rk:Keyed->Int} {xs:Array Keyed}:∀{u v:List Da} {lo hi:Nat},eX rk xs lo (u++v) hi↔∃m,eX rk xs lo u m/\eX rk xs m v hi
 | [],v,lo,hi=>{λh=>{(lo),rfl,h},λ⟨m,h,k⟩=>by cases h;exact k}
 | (a,n,p)::u,v,lo,hi=>by
  constructor
  ·rintro⟨f,e,c,g⟩
   let (m,d,b):=eX.app.mp g
   exact {m,{(f),e,c,d},b}
  ·rintro⟨m,⟨f,e,c,d⟩,b⟩
   exact {f,e,c,eX.app.mpr {(m),d,b}}
def qS.like {rk:Keyed->Int} {xs ys:Array Keyed} {lo hi:Nat} (h:qS rk xs lo hi) (e:∀k,lo<=k->k<hi->ys[k]?=xs[k]?):qS rk ys lo hi:=λi j c a b=>by
 rw [jD (e i c ∎),jD (e j ∎ b)]
 exact h i j c a b
theorem eX.like {rk:Keyed->Int} {xs ys:Array Keyed}:∀{l:List Da} {lo hi:Nat},eX rk xs lo l hi->(∀k,lo<=k->k<hi->ys[k]?=xs[k]?)->eX rk ys lo l hi
 | [],_,_,h,_=>h
 | (a,n,p)::r,lo,hi,{(h1),h2,h3,h4},e=>by
  have:=h4.le
  exact {h1,h2,h3.like λk c b=>e k c ∎,h4.like λk c b=>e k ∎ b}
theorem eX.power {rk:Keyed->Int} {xs:Array Keyed} {pw:Nat}:∀{l:List Da} {i lo hi:Nat},eX rk xs lo l hi->eX rk xs lo (l.modify i λ(a,n,_)=>(a,n,pw)) hi
 | [],_,_,_,h=>by rw [List.modify_nil];exact h
 | (a,n,p)::r,0,lo,hi,h=>by rw [List.modify_zero_cons];exact h
 | (a,n,p)::r,i+1,lo,hi,{(h1),h2,h3,h4}=>by rw [List.modify_succ_cons];exact {(h1),h2,h3,h4.power}
def lK {st:SortSt} {i hi:Nat} {Q:Bool->SortSt->Prop} (C:14#0) (hB:SB κ a₀ st) (hR:eX rk (arrOf st) 0 (pendingOf st).toList hi) (hz:hi<=a₀.size) (hi':i+1<(pendingOf st).size)
  (h:∀st',SB κ a₀ st'->eX rk (arrOf st') 0 (pendingOf st').toList hi->(pendingOf st').size+1=(pendingOf st).size->(∀k,hi<=k->(arrOf st')[k]?=(arrOf st)[k]?)->Q true st'):
  wpS 8#0 A E s (mergeAt' i) Q st:=by
 obtain⟨u,v,x,y,hl,hd⟩:∃(u v:List Da) (x y:Da),u.length=i/\(pendingOf st).toList=u++x::y::v:=by
  let h1:i<(pendingOf st).toList.length:=by simp;omega
  let h2:i+1<(pendingOf st).toList.length:=by simp;omega
  refine {(pendingOf st).toList.take i,(pendingOf st).toList.drop (i+2),(pendingOf st).toList[i],(pendingOf st).toList[i+1],by simp;omega,?_};rw [<- B8 h2,<- B8 h1,z6]
 let (sa,na,pa):=x;let (sb,nb,pb):=y;rw [hd] at hR;let (m,r1,(rfl,a1,a2,(rfl,b1,b2,r2))):=eX.app.mp hR;let le2:=r2.le;let g1:(pendingOf st)[i]?=some (sa,na,pa):=by
  rw [<- J5,hd,<- hl,B1 (i7 _),Nat.sub_self];rfl
 let g2:(pendingOf st)[i+1]?=some (sa+na,nb,pb):=by
  rw [<- J5,hd,<- hl,B1 ∎,show u.length+1-u.length=1 by omega];rfl
 refine xK C hB g1 g2 rfl ∎ a1 b1 a2 b2 λst' hB' hp hs hk=>?_;let e:(pendingOf st').toList=u++(sa,na+nb,pa)::v:=by
  rw [hp,Array.toList_eraseIdxIfInBounds,Array.toList_setIfInBounds,hd,<- hl];rw [R7 _ _ (i7 _),Nat.sub_self,List.eraseIdx_append_of_length_le ∎,show u.length+1-u.length=1 by omega];rfl
 refine h st' hB' ?_ ?_ λk hk'=>hk k (.inr ∎)
 ·rw [e];refine eX.app.mpr {sa,r1.like λk _ k2=>hk k (.inl k2),rfl,∎,?_,?_}
  ·rw [show sa+(na+nb)=sa+na+nb by omega];exact hs
  ·rw [show sa+(na+nb)=sa+na+nb by omega];exact r2.like λk k1 _=>hk k (.inr k1)
 ·let z1:(pendingOf st').size=(pendingOf st').toList.length:=by simp
  let z2:(pendingOf st).size=(pendingOf st).toList.length:=by simp
  rw [z1,z2,e,hd];simp;omega
def Vr {c:Prop} [Decidable c] {a n:Nat} (h:a+1<n):(if c then a-1 else a)+1<n:=by split <;> omega
theorem sL:∀(f n r:Nat),1<=n->1<=minRun' f n r
 | 0,n,r,h=>by show 1<=n+r;omega
 | f+1,n,r,h=>by
  rw [minRun'_succ]
  split
  ·omega
  ·exact sL f _ _ ∎
def xJ {st:SortSt} {Q:Unit->SortSt->Prop} (C:14#0) (hB:SB κ a₀ st) (hp:pendingOf st=#[]) (h1:1<=a₀.size)
  (h:∀st',SB κ a₀ st'->qS rk (arrOf st') 0 a₀.size->Q () st'):wpS 8#0 A E s sortRuns' Q st:=by
 rw [sortRuns'_eq];refine j5 (O0 ?_);dsimp only
 let mp:=sL a₀.size a₀.size 0 h1;simp only [hB.size];generalize minRun' a₀.size a₀.size 0=mr at mp ⊢;refine j5 (N1 (F2
  (I:=λx c st'=>∃lo,c=(none,lo)/\SB κ a₀ st'/\eX rk (arrOf st') 0 (pendingOf st').toList lo/\lo<=a₀.size/\(x<=lo\/lo=a₀.size))
  (Q:=λc st'=>c=(none,a₀.size)/\SB κ a₀ st'/\eX rk (arrOf st') 0 (pendingOf st').toList a₀.size) ?step ?fin {0,rfl,hB,by rw [hp];rfl,∎,∎}) ?post)
 case fin=>
  rintro c st' ⟨lo,rfl,hB',hR,hlo,hx⟩;have:lo=a₀.size:=∎;subst this;exact {(rfl),hB',hR}
 case step=>
  rintro x c st' _ hx ⟨lo,rfl,hB',hR,hlo,hx'⟩;dsimp only
  by_cases hge:lo ≥ a₀.size
  ·rw [if_pos hge];have:lo=a₀.size:=∎;subst this;exact q7 {(rfl),hB',hR}
  rw [if_neg hge];refine j5 (Gq (st₀:=st') (lo:=lo) C ∎ ∎ {(hB'),tR.refl,rfl} λn st2 hK2 n1 n2 hs2=>?_);dsimp only
  let keep:∀st3,jL κ a₀ lo st' st3->eX rk (arrOf st3) 0 (pendingOf st3).toList lo:=λst3 hK=>by
   rw [hK.pend];exact hR.like λk _ k2=>hK.like k k2
  by_cases hlt:n<mr;rw [if_pos hlt];refine j5 (S9 (F1 {rfl,?_}));refine j5 (Ai (st₀:=st') (lo:=lo) C ∎ ∎ hK2 hs2 λst3 hK3 hs3=>?_);simp only [Bool.not_true,z5,if_false];let nn1:1<=min (a₀.size-lo) mr:=∎;let nn2:lo+min (a₀.size-lo) mr<=a₀.size:=∎;generalize min (a₀.size-lo) mr=n' at hs3 nn1 nn2 ⊢;let R3:=keep st3 hK3;let B3:=hK3.toSB;rotate_left;rw [if_neg hlt];let nn2:lo+n<=a₀.size:=∎;let nn1:=n1;let R3:=keep st2 hK2;let B3:=hK2.toSB;let hs3:=hs2;revert hs2 hs3 R3 B3 nn1 nn2;generalize st2=st3;generalize n=n';intro hs2 nn2 nn1 R3 B3 hs3
  all_goals
   refine j5 (O0 ?_);cases hb:(pendingOf st3).back? with
   | none=>
    dsimp only
    refine j5 (P4 (q7 {lo+n',rfl,{(B3.perm),B3.kind,B3.failed},?_,nn2,.inl ∎}));show eX rk (arrOf st3) 0 ((pendingOf st3).push (lo,n',0)).toList (lo+n');rw [J9];exact eX.app.mpr {(lo),R3,rfl,nn1,hs3,rfl}
   | some t=>
    let (s1,m1,q1):=t;dsimp only
    refine j5 (N1 (F2
     (I:=λ_ c st4=>c=(none,())/\SB κ a₀ st4/\eX rk (arrOf st4) 0 (pendingOf st4).toList lo/\qS rk (arrOf st4) lo (lo+n'))
     (Q:=λc st4=>c=(none,())/\SB κ a₀ st4/\eX rk (arrOf st4) 0 (pendingOf st4).toList lo/\qS rk (arrOf st4) lo (lo+n')) ?step2 (λ_ _ z=>z) {(rfl),B3,R3,hs3}) ?post2)
    case post2=>
     rintro c st4 ⟨rfl,B4,R4,hs4⟩;dsimp only
     refine j5 (P4 (j5 (P4 (q7 {lo+n',rfl,{(B4.perm),B4.kind,B4.failed},?_,nn2,.inl ∎}))));show eX rk (arrOf st4) 0 (((pendingOf st4).modify ((pendingOf st4).size-1) _).push (lo,n',0)).toList (lo+n');rw [J9,Array.toList_modify];exact eX.app.mpr {(lo),R4.power,rfl,nn1,hs4,rfl}
    case step2=>
     rintro z c st4 _ hz ⟨rfl,B4,R4,hs4⟩;refine j5 (O0 ?_);by_cases hgt:(pendingOf st4).size > 1
     ·simp only [if_pos hgt];rw [w9 (show (pendingOf st4).size-2<(pendingOf st4).size by omega)];dsimp only
      split
      ·exact q7 {(rfl),B4,R4,hs4}
      ·refine j5 (lK C B4 R4 ∎ ∎ λst5 B5 R5 _ hk=>?_);simp only [Bool.not_true,z5,if_false];exact q7 {rfl,B5,R5,hs4.like λk k1 _=>hk k k1}
     ·simp only [if_neg hgt];exact q7 {(rfl),B4,R4,hs4}
 case post=>
  rintro c st' ⟨rfl,hB',hR⟩;dsimp only
  refine j5 (N1 (F2
   (I:=λx c st2=>c=(none,())/\SB κ a₀ st2/\eX rk (arrOf st2) 0 (pendingOf st2).toList a₀.size/\(pendingOf st2).size+x<=a₀.size+1)
   (Q:=λc st2=>c=(none,())/\SB κ a₀ st2/\eX rk (arrOf st2) 0 (pendingOf st2).toList a₀.size/\(pendingOf st2).size<=1) ?step3 ?fin3 ⟨rfl,hB',hR,by have:=hR.le;simp at this;omega⟩) ?post3)
  case fin3=>
   rintro c st2 ⟨rfl,B,R,hz⟩;exact {rfl,B,R,∎}
  case step3=>
   rintro x c st2 _ hx ⟨rfl,B,R,hz⟩;refine j5 (O0 ?_);by_cases hle:(pendingOf st2).size<=1
   ·rw [if_pos hle];exact q7 {(rfl),B,R,hle}
   ·rw [if_neg hle];refine j5 (lK C B R (i7 _) ?_ λst3 B3 R3 e3 _=>?_)
    ·exact Vr ∎
    ·simp only [Bool.not_true,z5,if_false];exact q7 {rfl,B3,R3,∎}
  case post3=>
   rintro c st2 ⟨rfl,B,R,hz⟩;refine q7 (h st2 B ?_)
   match e:(pendingOf st2).toList,R with
   | [],R=>exact absurd R (by show ¬ 0=a₀.size;omega)
   | [(a,n,p)],{_,_,hs,hn}=>
    have:0+n=a₀.size:=hn;rw [<- this];exact hs
   | _::_::_,_=>
    have:=congrArg List.length e;simp at this;omega
def Qs {a₀:Array Keyed} (h0:IntKeys a₀):MA prog w A E s oneType' a₀ (λp=>numOf p.1):=⟨λ{x y st Q} hx hy hk h=>by
 let (n,t,e1):=h0 x hx
 let (m,u,e2):=h0 y hy
 rw [lt'_eq]
 refine j5 (O0 ?_)
 rw [hk,keyLt'_oneType,e1,e2]
 rw [e1,e2] at h
 exact j5 (S9 (J6 (oneLt_int {rfl,q7 h})))⟩
def sort_codeA {a:Addr} {vs:List Value} {ns:List Int} {n:Nat} {P:Fin->Shared->Prop} (ho:s.heap.get? a=some (seqObj "list" vs.toArray n))
  (hI:IntsAre vs ns) (hz:vs.length<=sizeLine)
  (h:∀(out:Array Value) (ns':List Int),IntsAre out.toList ns'->ns'.Perm ns->ns'.Pairwise (·<=·)->P (.done (.ret .none)) { s with heap:=sortedHeap s.heap a vs out }):
  wpAny 8#0 A (Builtin.«list.sort» {[.ref a],[]}) P E s:=by
 rw [list_sort_plain];let ha:=j6 ho;let hsz:vs.toArray.size=vs.length:=by simp
 refine g7 (listItems_at ho rfl (g7 (listUpdate_at ho rfl ?_ (by rw [hsz];exact hz))));obtain⟨e1,h1⟩:∃e1,(s.heap.update a (Obj.mapSeq λ_=>#[])).get? a=some (seqObj "list" #[] e1):={_,get?_update_seq ho (λ_=>#[])};refine g7 (seqEpoch_at h1 rfl (g7 (S7 (g7 (Q5 (y4 ?_))))));let h6:(((s.heap.update a (Obj.mapSeq λ_=>#[])).push (seqObj "tuple" vs.toArray 0)).push (seqObj "list" #[] 0)).get? a=some (seqObj "list" #[] e1):=by
  rw [Heap.get?_push_ne _ _ _ (by rw [size_push',Heap.size_update];exact q5 (K0 ha)),
   Heap.get?_push_ne _ _ _ (by rw [Heap.size_update];exact q5 ha)];exact h1
 show wpAny 8#0 A _ P E { s with heap:=((s.heap.update a (Obj.mapSeq λ_=>#[])).push (seqObj "tuple" vs.toArray 0)).push (seqObj "list" #[] 0) };dsimp only
 let fin:∀st':SortSt,(arrOf st').Perm (pairsOf vs)->SortedTo (arrOf st') (pairsOf vs).size->P (.done (.ret .none)) { s with heap:=sortedHeap s.heap a vs ((arrOf st').map (·.2)) }:=λst' hp hs=>by
  let (ns',x1,x2,x3):=sorted_out hI hp hs;exact h _ ns' x1 x2 x3
 by_cases h2:vs.toArray.size<2
 ·rw [if_pos h2,if_pos h2];refine g7 (j3 ?_);rw [StateT.run_pure];refine g7 (j3 ?_);dsimp only
  refine g7 (seqEpoch_at h6 rfl (g7 (listUpdate_at h6 rfl ?_ (hsz2:=by rw [Array.size_map];show (pairsOf vs).size<=_;rw [pairsOf_size];omega))));simp only [bne_self_eq_false,z5,if_false];refine j3 (fin (SortSt.mk' general' (vs.toArray.zip vs.toArray) #[] 7 none) (S5 _) λi j hij hj=>?_);have:i=j:=by rw [pairsOf_size] at hj;omega
  subst this;exact q0 _
 ·rw [if_neg h2,if_neg h2];let kk:keyKind' vs.toArray=pure oneType':=by
   match vs,hsz,h2,hI with
   | [],_,h2,_=>simp at h2
   | [_],_,h2,_=>simp at h2
   | v1::v2::r,_,_,hI=>exact keyKind_ints hI
  rw [kk];refine g7 (j3 ?_);refine g7 (y7 (xJ (a₀:=pairsOf vs) (κ:=oneType') (rk:=λp=>numOf p.1) (st:=SortSt.mk' oneType' (vs.toArray.zip vs.toArray) #[] 7 none)
   (Q:=λ_ st'=>(arrOf st').Perm (pairsOf vs)/\failedOf st'=none/\SortedTo (arrOf st') (pairsOf vs).size)
   (Qs hI.intKeys) {S5 _,rfl,rfl} rfl (by rw [pairsOf_size];omega) λst' b hs=>{b.perm,b.failed,λi j hij hj=>hs i j (l7 _) hij hj}) ?_ λ_ _ e=>e);rintro⟨⟨⟩,st'⟩ s' ⟨rfl,hp,hf,hs⟩;dsimp only
  refine g7 (seqEpoch_at h6 rfl (g7 (listUpdate_at h6 rfl ?_ (hsz2:=by
   let z:((arrOf st').map (·.2)).size=vs.length:=by rw [Array.size_map,hp.size_eq,pairsOf_size]
   exact u8 (D6 z) ∎))));rw [hf];simp only [bne_self_eq_false,z5,if_false];exact j3 (fin st' hp hs)
end
end Sr
namespace L2
open PySem PySem.Spec PyProof.Rows PySem.W
def Ii (h:IntsAre us ns):bB (ns.map V.int) us:=uI h
section
variable {X:Cx}
def rJ {prog:Program} {w:World} {A:Around} {E:Value->Shared->Prop} {s:Shared} {D:Addr} {vs:List Value} {ns:List Int} {n:Nat} {Q:Value->Shared->Prop} (ho:s.heap.get? D=some (seqObj "list" vs.toArray n)) (rv:bB (ns.map V.int) vs) (hz:vs.length<=sizeLine)
  (h:∀(os:List Value) (ns':List Int),bB (ns'.map V.int) os->ns'.Perm ns->ns'.Pairwise (·<=·)->Q .none { s with heap:=sortedHeap s.heap D vs os.toArray }):wpAny 8#0 A (call (.builtin "list.sort") [.ref D]) Q E s:=by
 refine D8 slot_list_sort {_,ho,rfl} entry_list_sort ?_ (args_list_sort _);refine Sr.sort_codeA ho (yZ rv) hz λout ns' a1 a2 a3=>{.none,rfl,?_};have:=h out.toList ns' (Ii a1) a2 a3;rwa [Array.toArray_toList] at this
def lP:gN X (.builtin "sorted") (λA H Q=>∃(a:Addr) (ns:List Int),A=[.ref a]/\cM X.K H a (ns.map V.int)/\ns.length<4000 /\
  ∀(l:Addr) (ns':List Int),H l=none->ns'.Perm ns->ns'.Pairwise (·<=·)->Q (.ref l) (upd H l (.lst (ns'.map V.int)))):=by
 intro t s σ H A M Q I r h;let (a,ns,rfl,D,O,q):=h;let (u,rfl,F):=jM r;cases F;let (d,v,E,S):=I.list D;let P:sizeLine=16777216:=sizeLine_eq
 let N:d.length=ns.length:=by rw [<- v.length,i6]
 refine Calls.call_function_entry kind_sorted plain_sorted entry_sorted (args_sorted1 _) ?_;show wpAny _ _ (pure _ >>= _) _ _ _;refine g7 (j3 (g7 (collect_list E.isList (g7 (Q5 ?_ ∎)) ∎)));let f:((s.heap.push (seqObj "list" #[] 0)).update s.heap.objs.size (Obj.mapSeq λx=>x++d.toArray)).objs.size=s.heap.objs.size+1:=by
  rw [Heap.size_update,size_push']
 let w:∀b g,s.heap.get? b=some g->((s.heap.push (seqObj "list" #[] 0)).update s.heap.objs.size (Obj.mapSeq λx=>x++d.toArray)).get? b=some g:=λb g e=>by
  let i:=j6 e;rw [Heap.get?_update_ne _ _ _ _ (q5 i),Heap.get?_push_ne _ _ _ (q5 i)];exact e
 let m:(((s.heap.push (seqObj "list" #[] 0)).update s.heap.objs.size (Obj.mapSeq λx=>x++d.toArray)).push (seqObj "list" d.toArray 0)).get? (s.heap.objs.size+1)=some (seqObj "list" d.toArray 0):=by
  rw [<- f];exact n9 _ rfl
 show wpAny _ _ (do let _ <- holding [Value.ref ((s.heap.push (seqObj "list" #[] 0)).update s.heap.objs.size (Obj.mapSeq λx=>x++d.toArray)).objs.size] (call (.builtin "list.sort") [Value.ref ((s.heap.push (seqObj "list" #[] 0)).update s.heap.objs.size (Obj.mapSeq λx=>x++d.toArray)).objs.size] []);ret (Value.ref ((s.heap.push (seqObj "list" #[] 0)).update s.heap.objs.size (Obj.mapSeq λx=>x++d.toArray)).objs.size)) _ _ _;rw [f];generalize ((s.heap.push (seqObj "list" #[] 0)).update s.heap.objs.size (Obj.mapSeq λx=>x++d.toArray))=J at f w m ⊢;refine g7 (y4 (rJ (n:=0) m v ∎ λj ns' L z G=>?_));refine j3 {_,rfl,?_};let (c,k):=sortedHeap_at (out:=j.toArray) m;let p:∀b g,s.heap.get? b=some g->(sortedHeap (J.push (seqObj "list" d.toArray 0)) (s.heap.objs.size+1) d j.toArray).get? b=some g:=λb g e=>by
  let B:=w b g e;let i:=j6 e;rw [sortedHeap_old (q5 (K0 i)) (by rw [size_push',f];exact K0 (K0 i))];exact i8 _ B
 let y:s.heap.objs.size<=s.heap.objs.size+1:=L5 _;let C:=I.laid (a:=s.heap.objs.size+1) (o:=.lst (ns'.map V.int)) (t':=s.toks) p y (show bN _ _ _ _ _ _ from {by rw [i6,z.length_eq];omega,j,c,L,k});exact {.ref (s.heap.objs.size+1),_,C,rfl,q _ _ (I.hok.fresh y) z G}
def lQ (hc:X.calm=true):gN X (.builtin "sorted") (λxs H Q=>∃(a:Addr) (kvs:List (bK × V)) (ns:List Int),xs=[.ref a]/\H a=some (.dK kvs)/\kvs.map (·.1)=ns.map Sum.inl/\ns.length<4000 /\
  ∀(l:Addr) (ns':List Int),H l=none->ns'.Perm ns->ns'.Pairwise (·<=·)->Q (.ref l) (upd H l (.lst (ns'.map V.int)))):=by
 intro a2 s σ H xs d Q I r h;let (a,kvs,ns,rfl,hq,Y,a4,q):=h;let (u,rfl,rx):=jM r;cases rx;let (hz,hS,P,rv,o,es,ep,d1,d2,d3,d4,d5,d6):=I.hok a _ hq;let sl:sizeLine=16777216:=sizeLine_eq;let vl:kvs.length=P.length:=Paired.length rv;let kl:kvs.length=ns.length:=by
  have:=congrArg List.length Y;rwa [i6,i6] at this
 let (m,F):=I.fr;let J:P.map (·.1)=ns.map Sum.inl:=by
  rw [<- Y];clear Y hq d5 d6 vl kl hz q
  induction rv with
  | nil=>rfl
  | cons e t ih=>rw [x9,x9,ih,e.1]
 refine kdu_sorted (kdl_dict (knd:=cC X.prog X.w) (kvs:=P) (ep:=ep) hS) (I.ok.hd hc) F sK {(o),es,d1,d2,d3,d4,d5,d6} ∎ λD L tk d F' N' y a1 hP=>?_;let A:∀j (O:j<d.length),∃t,d[j]=.int (ns.getD j 0) t:=λj O=>by
  let (k,x,M,C):=hP j d[j] (i3 O);let K:(P.map (·.1))[j]?=some k:=by rw [j7,M];rfl
  rw [J,j7] at K;let p:j<ns.length:=∎;rw [i3 p] at K;let K:Sum.inl ns[j]=k:=Option.some.inj K;subst K;let (t,e):=Value.isInt_shape (k:=ns[j]) (v:=d[j]) C;exact {t,by rw [e,A1,i3 p];rfl}
 let a0:bB (ns.map V.int) d:=by
  let M:d=(List.range d.length).map λj=>d.getD j .none:=by
   apply List.ext_getElem
   ·simp
   ·intro i S h2;simp [A1,S]
  let C:ns.map V.int=(List.range d.length).map λj=>V.int (ns.getD j 0):=by
   apply List.ext_getElem
   ·simp;omega
   ·intro i S h2;have:i<ns.length:=by simpa using S
    simp [A1,this]
  rw [C];rw [M];simp only [i6,v6];refine lL _ _ λj O=>?_;let p:j<d.length:=D9.mp O;let (t,e):=A j p;refine {t,?_};rw [<- e,A1,i3 p];rfl
 let g:=N' (D,W.listOf d.toArray 0) (j1 ..);let B:s.heap.get? D=none:=by
  cases z:s.heap.get? D with
  | none=>rfl
  | some f=>
   have:=y (D,f) (jV g.2.1 g.2.2 z);exact absurd this (A5 _)
 let E:∀b f,b≠X.env.locals->s.heap.get? b=some f->L.get? b=some f:=λb f G e=>by
  cases z:X.base.get? b with
  | some o'=>
   have:=I.bk b o' z;rw [e] at this;cases this;exact F'.keep b f z
  | none=>exact(N' (b,f) (i4 _ (jV G z e))).1
 refine rJ (n:=0) g.1 a0 ∎ λT ns' r' pm pw=>?_;let (c,U):=sortedHeap_at (out:=T.toArray) (show L.get? D=some (seqObj "list" d.toArray 0) from g.1);let N:∀b f,b≠D->L.get? b=some f->(sortedHeap L D d T.toArray).get? b=some f:=λb f G e=>by
  rw [sortedHeap_old G (j6 e)];exact e
 let a3:ns'.length=ns.length:=pm.length_eq;let Z:(sortedHeap L D d T.toArray).Ns X.env.locals m:=by
  let (o1,M,C,z,rr):=F'.ns;exact {o1,M,C,N _ _ g.2.1.symm z,rr}
 let (z1,I1):=I.byNewsL (tk:=tk) (zs:=ns'.map V.int) F.ns Z (λb f G e=>N b f (λz=>by rw [z,B] at e;cases e) (E b f G e)) B (by rw [i6];omega) r' U;exact {.ref D,_,I1,rfl,q D ns' z1 pm pw}
end
end L2
namespace Lm
abbrev Ps:=List (Int × Int)
def mem (ps:Ps) (x:Int):Prop:=∃p ∈ ps,p.1<=x/\x<p.2
def nG:mem [] x↔False:=by simp [mem]
def mem_cons:mem (p::t) x↔(p.1<=x/\x<p.2)\/mem t x:=by simp [mem]
def Fh {s t:Ps} {x:Int}:mem (s++t) x↔mem s x\/mem t x:=by
 induction s with
 | nil=>simp [nG]
 | cons p s ih=>rw [List.cons_append,mem_cons,mem_cons,ih,or_assoc]
def Wk:Ps->Prop
 | []=>True
 | p::t=>p.1<p.2/\(∀q ∈ t,p.2<=q.1)/\Wk t
def Sh:Ps->Prop
 | []=>True
 | p::t=>p.1<p.2/\(∀q ∈ t,p.2<q.1)/\Sh t
theorem Sh.wk:∀{t:Ps},Sh t->Wk t
 | [],_=>trivial
 | _::_,{(h1),h2,h3}=>{h1,λq a=>z4 (h2 q a),Sh.wk h3}
theorem Sh.lt:∀{t:Ps},Sh t->∀q ∈ t,q.1<q.2
 | _::_,{(h1),h2,h3},q,hq=>by
  rcases i9.mp hq with rfl|hq
  ·exact h1
  ·exact Sh.lt h3 q hq
theorem Wk.lt:∀{t:Ps},Wk t->∀q ∈ t,q.1<q.2
 | _::_,{(h1),h2,h3},q,hq=>by
  rcases i9.mp hq with rfl|hq
  ·exact h1
  ·exact Wk.lt h3 q hq
def Bz (h:∀q ∈ t,b<=q.1) (c:mem t x):b<=x:=by
 let (p,a,z,_):=c;have:=h p a;omega
def Kt (h:Sh (p::t)) {x:Int} (a:mem (p::t) x):p.1<=x:=by
 rcases mem_cons.mp a with z|z
 ·exact z.1
 ·have:=Bz (b:=p.2) (λq c=>z4 (h.2.1 q c)) z;have:=h.1;omega
theorem Aw:∀{s t:Ps},Sh s->Sh t->(∀p ∈ s,∀q ∈ t,p.2<q.1)->Sh (s++t)
 | [],_,_,ht,_=>ht
 | p::s,t,hs,ht,h=>by
  refine {hs.1,λq hq=>?_,Aw hs.2.2 ht λa d b c=>h a (i4 _ d) b c}
  rcases q8.mp hq with hq|hq
  ·exact hs.2.1 q hq
  ·exact h p (j1 ..) q hq
def mg:Int × Int->Ps->Ps
 | c,[]=>[c]
 | c,p::t=>if p.1<=c.2 then mg (c.1,if p.2 > c.2 then p.2 else c.2) t else c::mg p t
def merged:Ps->Ps
 | []=>[]
 | p::t=>mg p t
def Lo:Ps->Prop
 | []=>True
 | p::t=>p.1<p.2/\(∀q ∈ t,p.1<=q.1)/\Lo t
theorem Wk.lo:∀{t:Ps},Wk t->Lo t
 | [],_=>trivial
 | _::_,{(h1),h2,h3}=>⟨h1,λq a=>by have:=h2 q a;omega,Wk.lo h3⟩
theorem Ov:∀{t:Ps} {c:Int × Int},c.1<c.2->(∀q ∈ t,c.1<=q.1)->Lo t->Sh (mg c t)/\(∀p ∈ mg c t,c.1<=p.1)/\(∀x,mem (mg c t) x↔(c.1<=x/\x<c.2)\/mem t x)/\(mg c t).length<=t.length+1
 | [],c,h,_,_=>by
  refine {{h,by simp,trivial},λp g=>?_,λx=>?_,i7 _}
  ·rw [C5.mp g]
   exact q0 _
  ·show mem [c] x↔_
   rw [mem_cons]
 | p::t,c,h,hq,hl=>by
  let g:=hq p (j1 ..)
  let f:=hl.1
  by_cases z:p.1<=c.2
  ·let e:mg c (p::t)=mg (c.1,if p.2 > c.2 then p.2 else c.2) t:=by
    show (if p.1<=c.2 then _ else _)=_;rw [if_pos z]
   rw [e];let i:c.1<(if p.2 > c.2 then p.2 else c.2):=by split <;> omega
   let (b,a,d,j):=Ov (t:=t) (c:=(c.1,if p.2 > c.2 then p.2 else c.2)) i (λq hq'=>by have:=hl.2.1 q hq';show c.1<=q.1;omega) hl.2.2;refine {b,a,λx=>?_,by rw [t7];omega};rw [d x,mem_cons];show (c.1<=x/\x<(if p.2 > c.2 then p.2 else c.2))\/mem t x↔_;by_cases m:mem t x
   ·simp [m]
   ·simp only [m,or_false];split <;> omega
  ·let e:mg c (p::t)=c::mg p t:=by
    show (if p.1<=c.2 then _ else _)=_;rw [if_neg z]
   rw [e];let (b,a,d,j):=Ov (t:=t) (c:=p) f hl.2.1 hl.2.2;refine {⟨h,λq hq'=>by have:=a q hq';omega,b⟩,λq hq'=>?_,λx=>?_,by rw [t7,t7];omega}
   ·rcases i9.mp hq' with rfl|hq'
    ·exact q0 _
    ·have:=a q hq';omega
   ·rw [mem_cons,mem_cons,d x]
theorem merged_ok:∀{t:Ps},Lo t->Sh (merged t)/\(∀x,mem (merged t) x↔mem t x)/\(merged t).length<=t.length
 | [],_=>{trivial,λx=>Iff.rfl,i7 _}
 | p::t,h=>by
  let (c,d,b,a):=Ov h.1 h.2.1 h.2.2
  exact {c,λx=>by rw [show merged (p::t)=mg p t from rfl,b x,mem_cons],a}
def cut (at_ high:Int):Ps->Ps
 | []=>if at_<high then [(at_,high)] else []
 | g::gs=>if g.1<high then(if at_<g.1 then [(at_,g.1)] else [])++cut g.2 high gs else if at_<high then [(at_,high)] else []
def skip (low:Int):Ps->Ps
 | []=>[]
 | g::gs=>if g.2<=low then skip low gs else g::gs
def wo:Ps->Ps->Ps
 | [],_=>[]
 | p::t,gs=>cut p.1 p.2 (skip p.1 gs)++wo t (skip p.1 gs)
def rZ:Sh (if a<b then [(a,b)] else [])/\(∀p ∈ (if a<b then [(a,b)] else []),a<=p.1/\p.2<=b)/\(∀x,mem (if a<b then [(a,b)] else []) x↔a<=x/\x<b)/\(if a<b then [(a,b)] else([]:Ps)).length<=1:=by
 by_cases h:a<b
 ·rw [if_pos h];refine {{h,by simp,trivial},λp c=>?_,λx=>?_,i7 _}
  ·rw [C5.mp c];exact {q0 _,q0 _}
  ·rw [mem_cons,nG,or_false]
 ·rw [if_neg h];refine {trivial,by simp,λx=>?_,l7 _};rw [nG];exact {False.elim,λz=>∎}
theorem Qq:∀{gs:Ps} {a b:Int},Sh gs->(∀g ∈ gs,a<g.2)->Sh (cut a b gs)/\(∀p ∈ cut a b gs,a<=p.1/\p.2<=b)/\(∀x,mem (cut a b gs) x↔(a<=x/\x<b)/\¬ mem gs x)/\(cut a b gs).length<=gs.length+1
 | [],a,b,_,_=>by
  let (f,c,i,k):=rZ (a:=a) (b:=b)
  exact {f,c,λx=>by rw [show cut a b []=(if a<b then [(a,b)] else []) from rfl,i x,nG];simp,k}
 | g::gs,a,b,hs,hg=>by
  let t:=hs.1
  let s:=hg g (j1 ..)
  by_cases z:g.1<b
  ·let e:cut a b (g::gs)=(if a<g.1 then [(a,g.1)] else [])++cut g.2 b gs:=by
    show (if g.1<b then _ else _)=_;rw [if_pos z]
   rw [e];let (f,c,i,k):=rZ (a:=a) (b:=g.1);let (o,l,n,r):=Qq (gs:=gs) (a:=g.2) (b:=b) hs.2.2 λq d=>by
    have:=hs.2.1 q d;have:=Sh.lt hs.2.2 q d;omega
   refine {Aw f o λp hp q d=>?_,λp hp=>?_,λx=>?_,?_}
   ·have:=(c p hp).2;have:=(l q d).1;omega
   ·rcases q8.mp hp with hp|hp
    ·have:=c p hp;exact {this.1,∎}
    ·have:=l p hp;exact { ∎,this.2}
   ·rw [Fh,i x,n x,mem_cons];let j:mem gs x->g.2<=x:=λm=>Bz (λq d=>z4 (hs.2.1 q d)) m;by_cases m:mem gs x
    ·have:=j m;simp only [m,not_true_eq_false,and_false,or_false,or_true,iff_false,false_and];omega
    ·simp only [m,not_false_eq_true,and_true,or_false];omega
   ·rw [p8,t7];omega
  ·let e:cut a b (g::gs)=if a<b then [(a,b)] else []:=by
    show (if g.1<b then _ else _)=_;rw [if_neg z]
   rw [e];let (f,c,i,k):=rZ (a:=a) (b:=b);refine {f,c,λx=>?_,by rw [t7];omega};rw [i x];let j:mem (g::gs) x->g.1<=x:=λm=>Kt hs m;constructor
   ·intro h;exact⟨h,λm=>by have:=j m;omega⟩
   ·exact λh=>h.1
theorem wB:∀{gs:Ps} {a:Int},Sh gs->Sh (skip a gs)/\(∀g ∈ skip a gs,a<g.2)/\(∀x,a<=x->(mem (skip a gs) x↔mem gs x))/\(skip a gs).length<=gs.length
 | [],a,_=>{trivial,by simp [skip],λx _=>Iff.rfl,i7 _}
 | g::gs,a,hs=>by
  by_cases z:g.2<=a
  ·let e:skip a (g::gs)=skip a gs:=by
    show (if g.2<=a then _ else _)=_;rw [if_pos z]
   rw [e];let (c,f,d,i):=wB (gs:=gs) (a:=a) hs.2.2;refine {c,f,λx b=>?_,by rw [t7];omega};rw [d x b,mem_cons];constructor
   ·exact .inr
   ·rintro(h|h)
    ·omega
    ·exact h
  ·let e:skip a (g::gs)=g::gs:=by
    show (if g.2<=a then _ else _)=_;rw [if_neg z]
   rw [e];refine {hs,λq hq=>?_,λx _=>Iff.rfl,i7 _};rcases i9.mp hq with rfl|hq
   ·omega
   ·have:=hs.2.1 q hq;have:=Sh.lt hs.2.2 q hq;omega
theorem wo_ok:∀{ks gs:Ps},Sh ks->Sh gs->Sh (wo ks gs)/\(∀p ∈ wo ks gs,∃k ∈ ks,k.1<=p.1)/\(∀x,mem (wo ks gs) x↔mem ks x/\¬ mem gs x)
 | [],gs,_,_=>{trivial,by simp [wo],λx=>by rw [show wo [] gs=[] from rfl,nG];simp}
 | p::t,gs,hk,hg=>by
  let (e,o,u,v):=wB (a:=p.1) hg
  let (i,h,n,w):=Qq (b:=p.2) e o
  let (s,f,j):=wo_ok (ks:=t) (gs:=skip p.1 gs) hk.2.2 e
  have d:∀q ∈ wo t (skip p.1 gs),p.2<q.1:=λq hq=>by
   let (k,c,z):=f q hq
   have:=hk.2.1 k c
   omega
  refine {Aw i s λa r q hq=>?_,λq hq=>?_,λx=>?_}
  ·have:=(h a r).2
   have:=d q hq
   omega
  ·rcases q8.mp hq with hq|hq
   ·exact {p,j1 ..,(h q hq).1}
   ·let (k,c,z):=f q hq
    exact {k,i4 _ c,z}
  ·show mem (cut p.1 p.2 (skip p.1 gs)++wo t (skip p.1 gs)) x↔_
   rw [Fh,n x,j x,mem_cons]
   have g:mem t x->p.2<=x:=λm=>Bz (λq hq=>z4 (hk.2.1 q hq)) m
   have y:=hk.1
   by_cases l:p.1<=x
   ·rw [u x l]
    constructor
    ·rintro(⟨a,b⟩|⟨a,b⟩)
     ·exact {.inl a,b}
     ·exact {.inr a,b}
    ·rintro⟨a|a,b⟩
     ·exact .inl {(a),b}
     ·exact .inr {(a),b}
   ·constructor
    ·rintro(⟨a,b⟩|⟨a,b⟩)
     ·omega
     ·have:=g a
      omega
    ·rintro⟨a|a,b⟩
     ·omega
     ·have:=g a
      omega
theorem xS (f:Int × Int->Bool) (a:Int):∀b:Ps,(skip a b).countP f<=b.countP f
 | []=>i7 _
 | g::b=>by
  show (if g.2<=a then skip a b else g::b).countP f<=_
  split
  ·have:=xS f a b
   rw [F9]
   omega
  ·exact i7 _
theorem Fz:∀{gs:Ps} {a b:Int},Sh gs->(∀g ∈ gs,a<g.2)->(cut a b gs).length<=1+gs.countP λg=>decide (a<g.1/\g.1<b)
 | [],a,b,_,_=>by
  have:=(rZ (a:=a) (b:=b)).2.2.2
  show (if a<b then [(a,b)] else([]:Ps)).length<=_
  omega
 | g::gs,a,b,hs,hg=>by
  let h:=hs.1
  let f:=hg g (j1 ..)
  rw [F9]
  by_cases z:g.1<b
  ·let e:cut a b (g::gs)=(if a<g.1 then [(a,g.1)] else [])++cut g.2 b gs:=by
    show (if g.1<b then _ else _)=_;rw [if_pos z]
   rw [e,p8];let i:=Fz (gs:=gs) (a:=g.2) (b:=b) hs.2.2 λq c=>by
    have:=hs.2.1 q c;have:=Sh.lt hs.2.2 q c;omega
   let m:(gs.countP λq=>decide (g.2<q.1/\q.1<b))<=gs.countP λq=>decide (a<q.1/\q.1<b):=List.countP_mono_left λq c d=>by
    have:=of_decide_eq_true d;exact decide_eq_true { ∎,this.2}
   by_cases y:a<g.1
   ·rw [if_pos y,decide_eq_true (show a<g.1/\g.1<b from {(y),z})];show 1+_<=1+(_+1);omega
   ·rw [if_neg y];show 0+_<=_;omega
  ·let e:cut a b (g::gs)=if a<b then [(a,b)] else []:=by
    show (if g.1<b then _ else _)=_;rw [if_neg z]
   rw [e];have:=(rZ (a:=a) (b:=b)).2.2.2;omega
theorem Gc (f g h:α->Bool) (d:∀x,f x=true->g x=true->False) (e:∀x,f x=true\/g x=true->h x=true):∀l:List α,l.countP f+l.countP g<=l.countP h
 | []=>i7 _
 | x::l=>by
  have:=Gc f g h d e l
  rw [F9,F9,F9]
  by_cases a:f x=true
  ·by_cases b:g x=true
   ·exact(d x a b).elim
   ·rw [if_pos a,if_neg b,if_pos (e x (.inl a))]
    omega
  ·by_cases b:g x=true
   ·rw [if_neg a,if_pos b,if_pos (e x (.inr b))]
    omega
   ·rw [if_neg a,if_neg b]
    omega
theorem Jr:∀{ks gs:Ps} {L:Int},Sh ks->Sh gs->(∀k ∈ ks,L<=k.1)->(wo ks gs).length<=ks.length+gs.countP λg=>decide (L<g.1)
 | [],gs,L,_,_,_=>l7 _
 | p::t,gs,L,hk,hg,hL=>by
  let (f,h,n,l):=wB (a:=p.1) hg
  have i:=Fz (b:=p.2) f h
  have j:=Jr (ks:=t) (gs:=skip p.1 gs) (L:=p.2) hk.2.2 f λk e=>z4 (hk.2.1 k e)
  have m:=hL p (j1 ..)
  have c:=Gc (λg:Int × Int=>decide (p.1<g.1/\g.1<p.2)) (λg=>decide (p.2<g.1)) (λg=>decide (L<g.1)) (λx a b=>by
    have:=of_decide_eq_true a
    have:=of_decide_eq_true b
    omega) (λx z=>by
    refine decide_eq_true ?_
    have o:=hk.1
    rcases z with z|z
    ·have:=of_decide_eq_true z
     omega
    ·have:=of_decide_eq_true z
     omega) (skip p.1 gs)
  have d:=xS (λg=>decide (L<g.1)) p.1 gs
  show (cut p.1 p.2 (skip p.1 gs)++wo t (skip p.1 gs)).length<=_
  rw [p8,t7]
  omega
def wo_len (a:Sh ks) (b:Sh gs):(wo ks gs).length<=ks.length+gs.length:=by
 match ks,a with
 | [],_=>exact l7 _
 | p::t,a=>
  have:=Jr (L:=p.1) a b λk hk'=>by
   rcases i9.mp hk' with rfl|hk'
   ·exact q0 _
   ·have:=a.2.1 k hk';have:=a.1;omega
  have:=List.countP_le_length (p:=λg:Int × Int=>decide (p.1<g.1)) (l:=gs);omega
open Classical in
noncomputable def MI (P:Int->Prop) (x:Int):Int:=if P x then 1 else 0
noncomputable def MJ (P:Int->Prop) (lo:Int):Nat->Int
 | 0=>0
 | n+1=>MJ P lo n+MI P (lo+n)
end Lm
namespace L2
open PySem PySem.Spec PyProof.Rows PySem.W
def Yy {α:Type} {J:It} {H1:Hp} {c:Addr} (q:H1 c=none) (xs:List α) (val out:α->V) (pm:α->Bool) (u:xs.length<=4000)
  (s:∀G i,aJ H1 G->i<xs.length->J.go i G) (j:∀G,aJ H1 G->J.stop xs.length G) (l:∀G i x f,aJ H1 G->J.yld i G x f->f=G/\∃z,xs[i]?=some z/\x=val z):
  ∃W:Nat->Nat->List V->Hp->Prop,(∃m,W 0 m [] (upd H1 c (.lst [])))/\∀i m a G,W i m a G->(G c=some (.lst a)/\aJ H1 G)/\((J.stop i G/\a=(xs.filter pm).map out) \/
   (J.go i G/\∀x f,J.yld i G x f->f=G/\∃z,z ∈ xs/\x=val z/\a.length<sizeLine/\(pm z=true->∃h,h<m/\W (i+1) h (a++[out z]) (upd G c (.lst (a++[out z]))))/\(¬ pm z=true->∃h,h<m/\W (i+1) h a G))):=by
 let w:sizeLine=16777216:=sizeLine_eq;refine {λi m a G=>m=xs.length-i/\i<=xs.length/\a=((xs.take i).filter pm).map out/\aJ H1 G/\G c=some (.lst a),{_,rfl,l7 _,rfl,aI q,aB},?_};rintro i m a G ⟨rfl,v,rfl,g,k⟩;refine {{(k),g},?_};by_cases d:i<xs.length
 ·refine .inr {s G i g d,λx f t=>?_};let (rfl,z,r,rfl):=l _ _ _ _ g t;let p:xs.take (i+1)=xs.take i++[z]:=by rw [A6,r];rfl
  let y:(((xs.take i).filter pm).map out).length<=i:=by
   rw [i6];exact u8 (C1 _ _) (by rw [t9];omega)
  refine {rfl,z,j8 r,rfl,∎,λn=>?_,λn=>?_}
  ·refine {xs.length-(i+1),∎,rfl,d,?_,λb o e=>?_,aB}
   ·rw [p,J0,u7];simp [n]
   ·rw [aE (aF e q)];exact g _ _ e
  ·refine {xs.length-(i+1),∎,rfl,d,?_,g,k};rw [p,J0,u7];simp [n]
 let e:i=xs.length:=∎;subst e;rw [List.take_length] at k ⊢;exact .inl {j _ g,rfl}
def iO {K:Frag} {α:Type} {H1:Hp} {c:Addr} {xs:List α} {val:α->V} (e:H1 c=some (.lst (xs.map val))):
  (∀G i,aJ H1 G->i<xs.length->(De K c).go i G)/\(∀G,aJ H1 G->(De K c).stop xs.length G)/\∀G i x d,aJ H1 G->(De K c).yld i G x d->d=G/\∃z,xs[i]?=some z/\x=val z:=by
 refine {λG i b f=>{_,_,cM.of (b _ _ e),by rw [j7,i3 f];rfl},λG b=>{_,cM.of (b _ _ e),by rw [i6];exact i7 _},λG i x d b g=>?_};let (rfl,a):=g;let a:=a _ (cM.of (b _ _ e));rw [j7] at a;cases hz:xs[i]? with
 | none=>rw [hz] at a;cases a
 | some z=>
  rw [hz] at a;cases a;exact {(rfl),z,rfl,rfl}
def Ig {α:Type} {H1:Hp} {c:Addr} {o:Obj} {kvs:List (bK × V)} {xs:List α} {val:α->V} (e:H1 c=some (.frz o (.dK kvs))) (f:kvs.map (λe=>kV e.1)=xs.map val):
  (∀G i,aJ H1 G->i<xs.length->(Zd c o kvs).go i G)/\(∀G,aJ H1 G->(Zd c o kvs).stop xs.length G)/\∀G i x d,aJ H1 G->(Zd c o kvs).yld i G x d->d=G/\∃z,xs[i]?=some z/\x=val z:=by
 let l:kvs.length=xs.length:=by have:=congrArg List.length f;rwa [i6,i6] at this
 refine {λG i b k=>{b _ _ e,∎},λG b=>{b _ _ e,∎},λG i x d b j=>?_};let (rfl,h,g,rfl):=j;let a:(kvs.map (λe=>kV e.1))[i]?=some (kV h.1):=by rw [j7,g];rfl
 rw [f,j7] at a;cases hz:xs[i]? with
 | none=>rw [hz] at a;cases a
 | some z=>rw [hz] at a;exact {rfl,z,rfl,(Option.some.inj a).symm}
end L2
namespace L2
open PySem PySem.Spec PyProof.Rows
def xH (h:Heap) (mg:Str->Option Value):Prop:=∃bm o,mg "__builtins__"=some (.ref bm)/\bm≠builtinsNs/\h.get? bm=some o/\o.cls=.type "module"/\o.dict=some builtinsNs/\o.data=.plain
def Ry (ts:List Addr) (H:Hp):Prop:=∀b,H b=none\/(∃o xs,H b=some (.frz o (.lst xs)))\/(b ∈ ts/\H b=some (.tbl #[]))
def Ia {P:Program} {w:World} {K:PySem.W.Frag} {mg mb:Str->Option Value} {CX:pK} {k:Nat} {fa a:Addr} {fd:FuncData} {x:Str} {sp:Sp} {s₁:Shared} {vs:List Value} {ns:List Int} {ts:List Addr}
  (KX:K.In s₁.heap) (hns:s₁.heap.Ns mainGlobals mg) (hb:s₁.heap.Ns builtinsNs mb) (hbb:∀x:Str,x≠"__name__"->mb x=bootBuiltins x) (hlim:s₁.heap.NoLimit) (hg:s₁.gens=#[])
  (hT:∀P ∈ ts,s₁.heap.get? P=some (PySem.W.tabObj #[])) (hKT:PySem.W.noTabs K=true) (hC:∀P ∈ ts,isCodeTable s₁.heap P) (hBm:xH s₁.heap mg)
  (ha:s₁.heap.get? a=some { cls:=.type "list",data:=.seq vs.toArray }) (hi:IntsAre vs ns) (hl:ns.length<=sizeLine) (hr:Room k callerA)
  (F:∀base:Heap,K.In base->base.Ns mainGlobals mg->xH base mg->bH P w K mg base CX k fa fd [x] sp) (hbind:∀(s:Shared) (u:Value),BindsTo s fd {[u],[]} [(x,u)])
  (hsp:∀H:Hp,Ry ts H->(∀P ∈ ts,H P=some (.tbl #[]))->cM K H a (ns.map V.int)->sp [.ref a] H (λv _=>v=.bl true) λ_ _ _=>False)
  (hCX:∀H e s',CX [] H s₁ (λ_ _ _=>False) e s'->False):
  codeAny (model P w) callerA (.call (.ref fa) {[.ref a],[]}) (λr s'=>r=.ok (.ret (.bool true))/\OldK s₁.heap s'.heap/\s'.os=s₁.os/\AllBare s'.gens) s₁:=by
 let rv:=uI hi;let lenV:=hi.length;let kT:∀P ∈ ts,K.lookup P=none:=λp hp=>by
  cases q:K.lookup p with
  | none=>rfl
  | some o=>
   let e:=KX p o q;rw [hT p hp] at e;cases e;exact absurd (N3.mp hKT (p,_) (PySem.W.mem_of_lookupK q)) 6#0
 let aT:a ∉ ts:=λhm=>by
  let e:=hT a hm;rw [ha] at e;cases e
 have core:∀H:Hp,Ry ts H->(∀P ∈ ts,H P=some (.tbl #[]))->cM K H a (ns.map V.int)->lJ P w H s₁.heap->(∀b,H b≠none->b=a\/b ∈ ts)->(H a≠none->K.lookup a=none) ->
   codeAny (model P w) callerA (.call (.ref fa) {[.ref a],[]}) (λr s'=>r=.ok (.ret (.bool true))/\OldK s₁.heap s'.heap/\s'.os=s₁.os/\AllBare s'.gens) s₁:=by
  intro H hO hTs hS hok hA hK;let base_of:∀{b:Addr} {o:Obj},s₁.heap.get? b=some o->H b=none->(uA s₁.heap H).get? b=some o:=λe n=>Qa e n;let noA:∀{b:Addr} {o:Obj} {es:Array DictEntry} {ep:Nat},s₁.heap.get? b=some o->o.data=.dict es ep->H b=none:=λ{b o es ep} e d=>by
   cases q:H b with
   | none=>rfl
   | some u=>
    rcases hA b (by rw [q];simp) with e' | e'
    ·subst e';rw [ha] at e;cases e;let d':Data.seq vs.toArray _=Data.dict es ep:=d;cases d'
    ·rw [hT b e'] at e;cases e;let d':Data.fields #[]=Data.dict es ep:=d;cases d'
  let nsK:∀{b:Addr} {m:Str->Option Value},s₁.heap.Ns b m->(uA s₁.heap H).Ns b m:=λ{b m} ⟨o,es,ep,e,d,r⟩=>{o,es,ep,base_of e (noA e d),d,r};let hKb:K.In (uA s₁.heap H):=λb o e=>base_of (KX b o e) (by
   cases q:H b with
   | none=>rfl
   | some u=>
    rcases hA b (by rw [q];simp) with e' | e'
    ·subst e'
     rw [hK (by rw [q];simp)] at e;cases e
    ·rw [kT b e'] at e;cases e);let hM:Mod K mg (uA s₁.heap H):=⟨hKb,nsK hns,{mb,nsK hb,hbb},let ⟨mc,h1,h2⟩:=hlim;{mc,nsK h1,h2}⟩;let hBb:xH (uA s₁.heap H) mg:=by
   let (bm,ob,b1,b2,b3,b4,b5,b6):=hBm;refine {bm,ob,b1,b2,base_of b3 ?_,b4,b5,b6};cases q:H bm with
   | none=>rfl
   | some u=>
    rcases hA bm (by rw [q];simp) with e' | e'
    ·subst e';rw [ha] at b3;cases b3;let b4:Value.type "list"=.type "module":=b4;exact absurd (Value.type.inj b4) 7#0
    ·rw [hT bm e'] at b3;cases b3;cases b4
  let e0:tS P w K mg (uA s₁.heap H) callerA [] s₁ H:={rfl,hM,λb o e=>Vf e,D6 (Ij _ _),trivial,λb hb=>absurd (show b ∈ ([]:List Addr) from hb) 6#0,hok,.of_eq hg};refine G9 ((F _ hKb (nsK hns) hBb).run callerA [] s₁ H {[.ref a],[]} [.ref a] [.ref a] _ _ hr e0 (hbind s₁ (.ref a)) (.cons rfl .nil) (hsp H hO hTs hS)) λr s' h=>?_;cases r with
  | error e=>exact(hCX H e s' h).elim
  | ok fl=>
   cases fl with
   | next=>exact False.elim h
   | brk=>exact False.elim h
   | cont=>exact False.elim h
   | ret u=>
    let (v,H',os,bare,un,hok',r',q):=h;let q':v=.bl true:=q;subst q';obtain rfl:u=Value.bool true:=r';refine {rfl,{λb o e=>?_,λb o e=>un.there b o e 6#0},os,bare};cases q:H b with
    | none=>exact .inl (un.keep b o e q (by intro z;exact absurd (show b ∈ ([]:List Addr) from z) 6#0) 6#0)
    | some u=>
     rcases hO b with z|⟨ob,xs,z⟩|⟨hm,z⟩
     ·rw [q] at z;cases z
     ·let z2:=un.frzs b ob _ z;let (e1,_):=hok b _ z;let (e2,_):=hok' b _ z2;rw [e] at e1;cases e1;exact .inl e2
     ·let (more,z2):=un.tbls b _ z;let e2:s'.heap.get? b=some { cls:=.none,data:=.fields (#[]++more) }:=hok' b _ z2;let e3:=hT b hm;rw [e] at e3;cases e3;exact .inr (.inl {hC b hm,rfl,#[],more,rfl,e2})
 let dec:∀b,Decidable (b ∈ ts):=λb=>inferInstance;let tb:∀b,b ∈ ts->bN P w (λ_=>none) s₁.heap b (.tbl #[]):=λb hb=>hT b hb;cases hk:K.lookup a with
 | some o=>
  let e:=KX a o hk;rw [ha] at e;cases e;refine core (λb=>if b ∈ ts then some (.tbl #[]) else none) (λb=>?_) (λp hp=>if_pos hp) (.inr {_,vs.toArray,_,hk,rfl,rfl,rfl,by rw [p9,lenV];exact hl,by simpa using rv}) (λb u z=>?_) (λb z=>?_) λz=>absurd (if_neg aT) z
  ·by_cases hb:b ∈ ts
   ·exact .inr (.inr {hb,if_pos hb})
   ·exact .inl (if_neg hb)
  ·by_cases hb:b ∈ ts
   ·let z':=(if_pos hb).symm.trans z;cases z';exact hT b hb
   ·let z':=(if_neg hb).symm.trans z;cases z'
  ·by_cases hb:b ∈ ts
   ·exact .inr hb
   ·exact absurd (if_neg hb) z
 | none=>
  refine core (λb=>if b=a then some (.frz { cls:=.type "list",data:=.seq vs.toArray } (.lst (ns.map V.int))) else if b ∈ ts then some (.tbl #[]) else none) (λb=>?_) (λp hp=>?_) (.inl (.inr {{ cls:=.type "list",data:=.seq vs.toArray },if_pos rfl})) (λb u z=>?_) (λb z=>?_) λ_=>hk
  ·by_cases hb:b=a
   ·exact .inr (.inl {_,_,if_pos hb})
   ·by_cases ht:b ∈ ts
    ·exact .inr (.inr {ht,(if_neg hb).trans (if_pos ht)})
    ·exact .inl ((if_neg hb).trans (if_neg ht))
  ·exact(if_neg (λz:p=a=>aT (by rw [<- z];exact hp))).trans (if_pos hp)
  ·by_cases hb:b=a
   ·let z':=(if_pos hb).symm.trans z;cases z';subst hb;exact {ha,by rw [i6];exact hl,vs,_,rv,ha}
   ·by_cases ht:b ∈ ts
    ·let z':=((if_neg hb).trans (if_pos ht)).symm.trans z;cases z';exact hT b ht
    ·let z':=((if_neg hb).trans (if_neg ht)).symm.trans z;cases z'
  ·by_cases hb:b=a
   ·exact .inl hb
   ·by_cases ht:b ∈ ts
    ·exact .inr ht
    ·exact absurd ((if_neg hb).trans (if_neg ht)) z
def walk_ofT {l:PySem.W.OpenLaw} {n k:Nat} {q:Program} {j:List Str} {XP:(Str->Option Value)->Heap->Prop} {L:World->Heap->Prop} {d:DefRec} {K:Params->PySem.W.Frag} {CX:World->pK} {sp:World->Sp} {x:Str} {z:List Addr}
  (hn:l.most=some n) (J:n<=sizeLine) (y:d.params.defaults=[]) (hr:Room k callerA)
  (Z:∀(w:World) (h:Heap),L w h->(K w.params).In h/\PySem.W.noTabs (K w.params)=true/\∀p ∈ z,h.get? p=some (PySem.W.tabObj #[])/\isCodeTable h p)
  (F:∀(w:World) (mg:Str->Option Value) (t:Addr) (h:Heap),(K w.params).In h->h.Ns mainGlobals mg->mg d.name=some (.ref t) ->
   ∃I:FuncData,(∀(s:Shared) (u:Value),BindsTo s I {[u],[]} [(x,u)]) /\
    ∀base:Heap,(K w.params).In base->base.Ns mainGlobals mg->xH base mg->bH l.prog w (K w.params) mg base (CX w) k t I [x] (sp w))
  (A:∀(w:World) (H:Hp) (a:Addr) (ns:List Int),ns.length<=n->Ry z H->(∀P ∈ z,H P=some (.tbl #[]))->cM (K w.params) H a (ns.map V.int)->sp w [.ref a] H (λv _=>v=.bl true) λ_ _ _=>False)
  (C:∀(w:World) (H:Hp) (s:Shared) (e:Value) (s':Shared),CX w [] H s (λ_ _ _=>False) e s'->False):
  PySem.W.WalkO q j XP L l.row.toRowW d [] (λf M=>PySem.call f M):=by
 refine Att.attach_call hn y λw s₀ O mg mb t o pm cd Q a M ns G Y ho hd U E m i c X=>?_;let (N,D,r):=Z w _ Y;let (I,hb,S):=F w mg t _ N G.T.g E;exact Ia N G.T.g G.T.b G.T.builtins G.T.nolimit X (λp B=>(r p B).1) D (λp B=>(r p B).2) (let ⟨bm,ob,b1,b2,b3,b4,b5,b6⟩:=G.T.bmain;{(bm),ob,b1,b2,b3,b4,b5,b6}) m i (u8 c J) hr S hb (λH hO hT hS=>A w H a ns c hO hT hS) λH e s'=>C w H O e s'
def tH (c:Addr) (q:Str):HO:=.ext λh=>h.CodeRec (.ref c) q
def Il (f:Addr) (o:Obj):HO:=.ext λh=>h.get? f=some o
def pG (H:Hp) (T:Addr) (pos:Pos) (q:Str):Prop:=∃ps,H T=some (.tbl ps)/\TriplesOk ps.toList/\(codeAmong pos ps.toList=none\/∃c',codeAmong pos ps.toList=some (.ref c')/\H c'=some (tH c' q))
def dG (T:Addr) (H H':Hp):Prop:=∀b o,b≠T->H b=some o->H' b=some o
def Qr {P:Program} {w:World} {H:Hp} {h:Heap} {c:Addr} {q:Str} (x:h.CodeRec (.ref c) q):bN P w H h c (tH c q):=by
 refine {x,?_,λf d y k=>?_}
 ·let (b,o,a,t,e,g,_):=x;cases e;exact {(o),g}
 ·let (b,o,a,t,e,g,r):=y;cases e;exact {c,o,a,t,rfl,k _ g,r}
def Ft {P:Program} {w:World} {H:Hp} {h:Heap} {f:Addr} {o:Obj} (x:h.get? f=some o):bN P w H h f (Il f o):={x,{(o),x},λb a y k=>k _ y}
section
variable {X:Cx} {pins:List (Addr × Obj)} {σ:List (Option V)} {H:Hp} {s:Shared}
def aW.madeNew (I:5#0) (l:H T=some (.tbl ps)) (K:Heap.ExtBut T s.heap h') (i:s.heap.objs.size<=c') (k:c'<h'.objs.size)
  (m:h'.CodeRec (.ref c') q) (p:h'.get? T=some (PySem.W.tabObj (ps++d))) (w:o.isFreed=false):
  aW X pins σ (upd (upd (upd H T (.tbl (ps++d))) c' (tH c' q)) h'.objs.size (Il h'.objs.size o)) { s with heap:=h'.push o,toks:=tk }:=by
 let A:H c'=none:=I.hok.fresh i;let B:H h'.objs.size=none:=I.hok.fresh (u8 i (E5 k));let f:∀b u,b≠T->H b=some u->(upd (upd (upd H T (.tbl (ps++d))) c' (tH c' q)) h'.objs.size (Il h'.objs.size o)) b=some u:=λb u a e=>by
  rw [aE (aF e B),aE (aF e A),aE a];exact e
 let h:∀b u,H b=some u->u≠.tbl ps->b≠T:=λb u e n z=>by
  subst z;rw [l] at e;exact n (Option.some.inj e).symm
 let j:∀b,H b=none->b≠T:=λb e z=>by rw [z,l] at e;cases e
 let G:T≠c':=aF l A;let D:T≠h'.objs.size:=aF l B;let r:∀b u,b≠T->s.heap.get? b=some u->(h'.push o).get? b=some u:=λb u a e=>i8 _ (K b u a e);refine I.un {λb u e n _ _=>r b u (j b n) e,λb u e n _ _=>{u.slots,r b u (j b n) e},λb u e n _=>?_,λb u e _=>?_,λb J e=>f b _ (h b _ e 1#0) e,λb M u e=>f b _ (h b _ e 1#0) e,λb L e=>?_} λb u e=>?_
 ·let a:=j6 e;let F:b≠c':=q5 (u5 a i);let E:b≠h'.objs.size:=q5 (Nat.lt_trans (u5 a i) k);rw [aE E,aE F,aE (j b n)];exact n
 ·by_cases a:b=T
  ·subst a;exact {_,i8 _ p}
  ·exact {u,r b u a e}
 ·by_cases a:b=T
  ·subst a;rw [l] at e;cases e;exact {d,by rw [aE D,aE G,aB]}
  ·exact {#[],by rw [f b _ a e];simp}
 ·by_cases C:b=h'.objs.size
  ·subst C;rw [aB] at e;cases e;exact Ft (n9 _ w)
  ·rw [aE C] at e;by_cases x:b=c'
   ·subst x;rw [aB] at e;cases e;exact Qr (m.push o)
   ·rw [aE x] at e;by_cases a:b=T
    ·subst a;rw [aB] at e;cases e;exact i8 _ p
    ·rw [aE a] at e;refine(I.hok b u e).stay (λc v t g=>r c v ?_ g) (λc z=>f c _ (h c _ z (by intro y;cases y)) z) λc J z=>f c _ (h c _ z (by intro y;cases y)) z;rcases t with rfl|z
     ·exact a
     ·exact h c _ z (by intro y;cases y)
end
def IZ (T:Addr) (pos:Pos) (q:Str) (mk:Addr->Value->Obj):TE:=λ_ H Q=>pG H T pos q/\∀f c' ctv H',dG T H H'->H f=none->pG H' T pos q->H' c'=some (tH c' q)->H' f=some (Il f (mk c' ctv))->Q (.ref f) H'
section
variable {X:Cx}
def Ng {d:Arguments} {j:Expr} {f:Scope} {pos:Pos} {c T:Addr} {clos:List (Str × Addr)} {q:Str} (l:X.env.code=.ref c) (hc:PySem.W.codeHdIn X.K c T=true) (O:xH X.base X.mg)
  (x:defaultsOf d X.env=([],[])) (D:closureFor f X.env=pure clos) (hq:X.env.qual++"<lambda>"=q) (M:True):
  PE X (.Lambda d j f pos) (IZ T pos q λk g=>PySem.W.kla_obj "<lambda>" q d j f clos ((X.mg "__name__").getD .none) k g):=by
 intro pins s σ H Q I h;let ((ps,w,A,r),h):=h;subst hq;let G:s.heap.Ns mainGlobals X.mg:=I.ok.mod.glob.keeps I.bk;let p:s.heap.get? T=some (PySem.W.tabObj ps):=I.hok T _ w;let C:PySem.W.CodeHd s.heap c T:=PySem.W.codeHd_of_K I.kIn hc;let N:mainGlobals≠T:=λz=>by
  let (o,es,ep,e,U,_):=G;rw [z,p] at e;cases e;cases U
 let B:s.heap.BuiltinsAt X.mg T:=by
  let (bm,ob,b1,b2,b3,Z,b5,P):=O;let i:=I.bk _ _ b3;refine {bm,ob,b1,b2,λz=>?_,λz=>?_,i,Z,b5,P}
  ·let (o,es,ep,e,U,_):=G;rw [z,e] at i;cases i;rw [U] at P;cases P
  ·rw [z,p] at i;cases i;cases Z
 refine PySem.W.kla_eval x ?_;rcases r with y|⟨k,hf,L⟩
 ·refine PySem.W.kla_makeFunction D I.ok.glob G l C p A y N B λk g m tk hx t v F S=>?_;let Y:H k=none:=I.hok.fresh t;let n:H m.objs.size=none:=I.hok.fresh (u8 t (E5 v));let Tc:T≠k:=aF w Y;let Tf:T≠m.objs.size:=aF w n;let ne:k≠m.objs.size:=q5 v;let J:=I.madeNew (tk:=tk) (o:=PySem.W.kla_obj "<lambda>" (X.env.qual++"<lambda>") d j f clos ((X.mg "__name__").getD .none) k g) w hx t v F S rfl;refine {.ref m.objs.size,_,J,rfl,h m.objs.size k g _ (λb o B e=>?_) n {_,by rw [aE Tf,aE Tc,aB],?_,.inr {k,?_,?_}} ?_ aB}
  ·rw [aE (aF e n),aE (aF e Y),aE B];exact e
  ·rw [v8];exact TriplesOk_snoc _ _ _ _ A
  ·rw [v8];exact codeAmong_snoc _ A y
  ·rw [aE ne,aB]
  ·rw [aE ne,aB]
 ·refine PySem.W.kla_makeFunctionHit D I.ok.glob G l C p A hf B λg m tk hk E=>?_;let n:H m.objs.size=none:=I.hok.fresh E;refine {.ref m.objs.size,_,I.laid (a:=m.objs.size) (t':=tk) (λb u e=>i8 _ (hk b u e)) E (Ft (n9 _ rfl)),rfl,h m.objs.size k g _ (λb o B e=>?_) n {ps,?_,A,.inr {k,hf,?_}} ?_ aB}
  ·rw [aE (aF e n)];exact e
  ·rw [aE (aF w n)];exact w
  ·rw [aE (aF L n)];exact L
  ·rw [aE (aF L n)];exact L
end
def Vo {CX:pK} {P:Program} {w:World} {K:PySem.W.Frag} {mg:Str->Option Value} {base:Heap} {k:Nat} {f c':Addr} {q:Str} {c:Arguments} {d:Expr} {a:Scope} {pm j:Value} {N ps:List Str} {A:Around} {outer:List Env} {s:Shared} {H:Hp} {args:Args} {us:List Value} {vs:List V} {Q:VK} {E:XK}
  (Z:H f=some (Il f (PySem.W.kla_obj "<lambda>" q c d a [] pm c' j))) (F:H c'=some (tH c' q)) (S:aK N ps a) (C:Room (k+1) A) (l:tS P w K mg base A outer s H)
  (X:bindArgs (PySem.W.kla_fn "<lambda>" q c d a [] pm (.ref c') j) args=pure (ps.zip us)) (r:bB vs us) (Y:vs.length=ps.length)
  (i:Room k (A.deeper (envOfC q a s.heap.objs.size f (.ref c')))->∃t,PE (hU CX P w K mg base N q a f (.ref c') A outer s H E) d t/\t (dB N vs) H Q):
  codeAny (model P w) A (.call (.ref f) args) (CR CX outer P w H s Q E) s:=by
 let B:s.heap.NoLimit:=l.mod.nolimit.keeps λb o e=>(l.bs b o e).1;let h:∀y ∈ ps.zip us,a.names.lookup y.1=some .local\/(a.names.lookup y.1=some .cell/\((cellsFrom (s.heap.objs.size+1) a.names []).lookup y.1).isSome=true):=λ⟨n,v⟩ hy=>by
  rcases S.par n (C8 hy).1 with q|q
  ·exact .inl q
  ·exact .inr {q,PySem.W.cellsFrom_some _ _ _ (.inl q)}
 let (p,_,_):=l.hok f _ Z;let (g,_,_):=l.hok c' _ F;let p:s.heap.get? f=some (PySem.W.kla_obj "<lambda>" q c d a [] pm c' j):=p;let g:s.heap.CodeRec (.ref c') q:=g;refine PySem.W.kla_callFunE C.depth p rfl S.co S.gen rfl g ?_;rw [X];refine j3 ?_;refine N6 S.kind h λT G D x=>?_;subst G;refine {B.keeps x.toInCall.keep,PySem.W.kla_codeExpr ?_};let (t,U,O):=i (C.deeper _);let I:aW (hU CX P w K mg base N q a f (.ref c') A outer s H E) [] (dB N vs) H D:=oQ S C.hd l Y r x;refine y7 (U D (dB N vs) H _ I O) (λu s' m=>?_) λe s' m=>m;let (v,L,J,M,z):=m;exact {(v),L,J.os,J.bare,J.base,J.hok,M,z}
end L2
namespace L2
open PySem PySem.Spec PyProof.Rows PySem.W
structure uD (X:Cx) (a:Addr):Prop where
 up:X.s₀.heap.objs.size<=a
 neL:a≠X.env.locals
 nfs:a ∉ X.fs
 neC:∀x c,X.env.cells.lookup x=some c->c≠a
 neP:∀p ∈ X.pn,p.1≠a
section
variable {X:Cx} {pins pins':List (Addr × Obj)} {σ:St} {H:Hp} {s:Shared} {a:Addr} {o o':Obj} {h':Heap} {tk:Nat}
def uD.of (I:5#0) (h:s.heap.objs.size<=a):uD X a:=by
 refine {u8 I.sz h,M3 (u5 I.lt h),λd=>?_,λx c e z=>?_,λp g z=>?_}
 ·let (_,o,b,_):=I.ok.funs.mem d;exact absurd (u5 (j6 b) (u8 I.sz h)) (A5 _)
 ·let (v,o,b,_):=I.cell x c e;rw [z] at b;exact absurd (u5 (j6 b) h) (A5 _)
 ·let (e,_):=I.pin p (B6 _ g);rw [z] at e;exact absurd (u5 (j6 e) h) (A5 _)
def aW.wr (I:5#0) (k:(a,o) ∈ pins) (O:uD X a) (j:Heap.SameBut a s.heap h') (e:h'.get? a=some o') (t:∀v,o'.data≠.cell v) (c:∀p ∈ pins',(p ∈ pins/\p.1≠a)\/p=(a,o')):
  aW X pins' σ H { s with heap:=h',toks:=tk }:=by
 let (_,n,_):=I.pin (a,o) (k7 _ k);let q:aW X [] σ H s:=I.pins_of λp c=>absurd c 6#0;let l:=q.turned (h':=h') (t':=tk) (it:=a) (λb u i g=>(j.2 b i).trans g) n O.neL (.inr O.up) O.neC (λp c=>O.neP p (by simpa using c));refine l.pins_of λp h=>?_;rcases c p h with ⟨h,i⟩|rfl
 ·let (g,m,w,r,d):=I.pin p (k7 _ h);exact {(j.2 _ i).trans g,m,w,r,d}
 ·exact {(e),n,O.neL,O.nfs,t}
def aW.pinAt (I:5#0) (b:(a,o) ∈ pins):s.heap.get? a=some o:=(I.pin (a,o) (k7 _ b)).1
def aW.pinIn (I:5#0) (b:(a,o) ∈ pins):s.heap.get? a=some o/\H a=none/\a≠X.env.locals/\a ∉ X.fs/\∀v,o.data≠.cell v:=I.pin (a,o) (k7 _ b)
def hG:∀v,(seqObj T xs n).data≠.cell v:=λv z=>by cases z
end
section
variable {X:Cx} {pins:List (Addr × Obj)} {σ:St} {H:Hp} {s:Shared} {A':Around} {E:Value->Shared->Prop} {D kS f:Addr} {vs:List Value} {xs:List V} {kz:List Int} {keys:Array Value} {e e1 n:Nat} {J:Hp->Prop} {P:PySem.Fin->Shared->Prop}
def yY {st:SortSt} (I:aW X ((kS,seqObj "list" keys e)::(D,seqObj "list" #[] e1)::pins) σ H s) (hJ:J H) (OD:uD X D) (Ok:uD X kS) (ne:kS≠D) (pk:∀p ∈ pins,p.1≠kS) (pD:∀p ∈ pins,p.1≠D)
  (hk:IntsAre keys.toList kz) (hlen:kz.length=vs.length) (hz:vs.length<=sizeLine) (hp:(arrOf st).Perm (keys.zip vs.toArray)) (hs:SortedTo (arrOf st) (arrOf st).size) (hfl:failedOf st=none)
  (h:∀s' H' (os:List Value) c,aW X ((D,seqObj "list" os.toArray c)::pins) σ H' s'->J H'->KskOut false kz vs os->P (.done (.ret .none)) s'):
  wpAny 4#0 A' (ksk_tail D false e1 (.ref kS) st) P E s:=by
 let nk:=I.pinAt (a:=kS) (o:=seqObj "list" keys e) 6#0;let na:=I.pinAt (a:=D) (o:=seqObj "list" #[] e1) 6#0;let hsz:keys.size=vs.length:=by
  let h1:=hk.length;rw [u9] at h1;omega
 let hsz2:(arrOf st).size=vs.length:=by rw [hp.size_eq,Array.size_zip,hsz,p9,Nat.min_self]
 let s1:=D3 s.heap kS (Obj.mapSeq λ_=>(#[]:Array Value));let na1:(s.heap.update kS (Obj.mapSeq λ_=>(#[]:Array Value))).get? D=some (seqObj "list" #[] e1):=(s1.2 D ne.symm).trans na;let s2:=D3 (s.heap.update kS (Obj.mapSeq λ_=>(#[]:Array Value))) D (Obj.mapSeq λ_=>(arrOf st).map (·.2));obtain⟨c1,hc1⟩:∃c1,(s.heap.update kS (Obj.mapSeq λ_=>(#[]:Array Value))).get? kS=some (seqObj "list" #[] c1):={_,get?_update_seq nk λ_=>#[]};obtain⟨c2,hc2⟩:∃c2,((s.heap.update kS (Obj.mapSeq λ_=>(#[]:Array Value))).update D (Obj.mapSeq λ_=>(arrOf st).map (·.2))).get? D=some (seqObj "list" ((arrOf st).map (·.2)) c2):=
  {_,get?_update_seq na1 λ_=>(arrOf st).map (·.2)}
 unfold ksk_tail
 try dsimp only
 refine g7 (listUpdate_at nk rfl ?_ (by rw [hsz];exact hz) (l7 _));refine g7 (Q3 ?_);refine g7 (seqEpoch_at na1 rfl ?_);refine g7 (listUpdate_at na1 rfl ?_ (l7 _) (by simp only [z5,if_false,Array.size_map];omega));rw [hfl];simp only [bne_self_eq_false,z5,if_false];let I1:=I.wr (a:=kS) (o:=seqObj "list" keys e) (tk:=s.toks) (pins':=(D,seqObj "list" #[] e1)::pins) 6#0 Ok s1 hc1 hG λp hp=>.inl ⟨i4 _ hp,by
  rcases i9.mp hp with rfl|hp
  ·exact ne.symm
  ·exact pk p hp⟩;let I2:=I1.wr (a:=D) (o:=seqObj "list" #[] e1) (tk:=s.toks) (pins':=(D,seqObj "list" ((arrOf st).map (·.2)) c2)::pins) 6#0 OD s2 hc2 hG λp hp=>by
  rcases i9.mp hp with rfl|hp
  ·exact .inr rfl
  ·exact .inl {i4 _ hp,pD p hp}
 let ko:=ksk_out (b:=false) hk hp hs;refine j3 (h _ H ((arrOf st).map (·.2)).toList c2 (by rw [Array.toArray_toList];exact I2) hJ ?_);simpa using ko
def Ti (h:n<64):n<=sizeLine:=by have:=sizeLine_eq;omega
def Vq (I:aW X ((kS,seqObj "list" keys e)::(D,seqObj "list" #[] e1)::pins) σ H s) (hJ:J H) (OD:uD X D) (Ok:uD X kS) (ne:kS≠D) (pk:∀p ∈ pins,p.1≠kS) (pD:∀p ∈ pins,p.1≠D)
  (hk:IntsAre keys.toList kz) (hlen:kz.length=vs.length) (hz:vs.length<64)
  (h:∀s' H' (os:List Value) c,aW X ((D,seqObj "list" os.toArray c)::pins) σ H' s'->J H'->KskOut false kz vs os->P (.done (.ret .none)) s'):
  wpAny 4#0 A' (ksk_end D false vs.toArray e1 (.ref kS) keys) P E s:=by
 let hsz:keys.size=vs.length:=by
  let h1:=hk.length;rw [u9] at h1;omega
 let hzs:(keys.zip vs.toArray).size=vs.length:=by rw [Array.size_zip,hsz,p9,Nat.min_self]
 unfold ksk_end;simp only [z5,if_false];by_cases h2:vs.toArray.size<2
 ·rw [if_pos h2,if_pos h2];refine g7 (j3 ?_);rw [StateT.run_pure];refine g7 (j3 ?_)
  try dsimp only
  refine yY (st:=SortSt.mk' general' (keys.zip vs.toArray) #[] 7 none) I hJ OD Ok ne pk pD hk hlen (Ti hz) (S5 _) ?_ rfl h;intro i j hij hj;let hj2:j<(keys.zip vs.toArray).size:=hj;rw [hzs] at hj2;rw [p9] at h2;have:i=j:=∎;subst this;exact q0 _
 ·rw [if_neg h2,if_neg h2];rw [p9] at h2;rw [ksk_kind hk (by rw [hsz];omega)];refine g7 (j3 ?_);refine g7 (y7 (wpS_sortRuns (a₀:=keys.zip vs.toArray) (st:=SortSt.mk' oneType' (keys.zip vs.toArray) #[] 7 none)
   (Q:=λ_ st'=>(arrOf st').Perm (keys.zip vs.toArray)/\failedOf st'=none/\SortedTo (arrOf st') (keys.zip vs.toArray).size)
   (ksk_intKeys hk) {S5 _,rfl,rfl,rfl} (by rw [hzs];omega) (by rw [hzs];exact hz) λst' p f s=>{(p),f,s}) ?_ λ_ _ e=>e);rintro⟨⟨⟩,st'⟩ s' ⟨rfl,hp,hf,hs⟩
  try dsimp only
  exact yY I hJ OD Ok ne pk pD hk hlen (Ti hz) hp (by rw [hp.size_eq];exact hs) hf h
def Pn (I:aW X ((kS,seqObj "list" #[] 0)::(D,seqObj "list" #[] e1)::pins) σ H s) (hJ:J H) (OD:uD X D) (Ok:uD X kS) (ne:kS≠D) (pk:∀p ∈ pins,p.1≠kS) (pD:∀p ∈ pins,p.1≠D)
  (rv:bB xs vs) (hlen:kz.length=vs.length) (hz:vs.length<64)
  (turn:∀(pins':List 10#0) (H':Hp) (s':Shared) (i:Nat) (x:V) (v:Value) (k:Int),aW X pins' σ H' s'->J H'->xs[i]?=some x->kz[i]?=some k->bF x v->wpAny 4#0 A' (call (.ref f) [v]) (EP X pins' σ λy H''=>y=.int k/\J H'') (λ_ _=>False) s')
  (h:∀s' H' (os:List Value) c,aW X ((D,seqObj "list" os.toArray c)::pins) σ H' s'->J H'->KskOut false kz vs os->P (.done (.ret .none)) s'):
  wpAny 4#0 A' (ksk_rest D (.ref f) false vs.toArray e1 (.ref kS)) P E s:=by
 unfold ksk_rest;refine g7 (F1 ?_)
 first
  | rw [List.forIn_toArray]
  | (rw [<- Array.forIn_toList];simp only [List.toList_toArray])
  | rw [<- Array.forIn_toList]
 refine g7 (ksk_fold (λi s'=>∃H' kA e,aW X ((kS,seqObj "list" kA e)::(D,seqObj "list" #[] e1)::pins) σ H' s'/\J H'/\IntsAre kA.toList (kz.take i)) vs 0 s
  {H,#[],0,I,hJ,by simpa using IntsAre.nil} ?step ?done)
 case step=>
  rintro j v s' hv ⟨H',kA,e,I',hJ',hk⟩;simp only [Nat.zero_add] at hk ⊢;let hj:j<vs.length:=(i5.mp hv).1;obtain⟨k,hkj⟩:∃k,kz[j]?=some k:={_,i3 ∎};obtain⟨x,hx,rx⟩:∃x,xs[j]?=some x/\bF x v:=by
   let ll:=rv.length;let (u,hu,r):=rv.get (i3 (show j<xs.length by omega));rw [hv] at hu;cases hu;exact {_,i3 ∎,r}
  let hz':kA.size<=vs.length:=by
   let h1:=hk.length;rw [u9,t9] at h1;omega
  refine g7 (J6 (y7 (turn _ H' s' j x v k I' hJ' hx hkj rx) (λu s'' he=>?_) λ_ _ hF=>hF.elim));let (y,H2,I2,ry,rfl,hJ2):=he;obtain⟨t2,rfl⟩:∃t,u=.int k t:=ry
  try dsimp only
  let nk:=I2.pinAt (a:=kS) (o:=seqObj "list" kA e) 6#0;let s1:=D3 s''.heap kS (Obj.mapSeq (·.push (.int k t2)));obtain⟨c2,hc2⟩:∃c2,(s''.heap.update kS (Obj.mapSeq (·.push (.int k t2)))).get? kS=some (seqObj "list" (kA.push (.int k t2)) c2):={_,get?_update_seq nk (·.push (.int k t2))};let ek:kz.take (j+1)=kz.take j++[k]:=by rw [A6,hkj];simp
  let ea:(kA.push (Value.int k t2)).toList=kA.toList++[Value.int k t2]:=by simp
  let slz:=sizeLine_eq;refine g7 (listUpdate_at nk rfl ?_ ∎ (u8 (D6 (O6 ..)) ∎));refine j3 {rfl,H2,kA.push (.int k t2),c2,I2.wr (a:=kS) (o:=seqObj "list" kA e) (tk:=s''.toks) 6#0 Ok s1 hc2 hG (λp hp=>?_),hJ2,by rw [ea,ek];exact ksk_snoc hk};rcases i9.mp hp with rfl|hp
  ·exact .inr rfl
  ·refine .inl {i4 _ hp,?_};rcases i9.mp hp with rfl|hp
   ·exact ne.symm
   ·exact pk p hp
 case done=>
  rintro s' ⟨H',kA,e,I',hJ',hk⟩;let hk':IntsAre kA.toList kz:=by
   let e3:kz.take (0+vs.length)=kz:=w5 ∎;rw [e3] at hk;exact hk
  let nk:=I'.pinAt (a:=kS) (o:=seqObj "list" kA e) 6#0
  try dsimp only
  refine g7 (listItems_at nk rfl ?_);exact Vq I' hJ' OD Ok ne pk pD hk' hlen hz h
def Kq (I:aW X ((D,seqObj "list" vs.toArray n)::pins) σ H s) (hJ:J H) (OD:uD X D) (pD:∀p ∈ pins,p.1≠D) (rv:bB xs vs) (hlen:kz.length=vs.length) (hz:vs.length<64)
  (turn:∀(pins':List 10#0) (H':Hp) (s':Shared) (i:Nat) (x:V) (v:Value) (k:Int),aW X pins' σ H' s'->J H'->xs[i]?=some x->kz[i]?=some k->bF x v->wpAny 4#0 A' (call (.ref f) [v]) (EP X pins' σ λy H''=>y=.int k/\J H'') (λ_ _=>False) s')
  (h:∀s' H' (os:List Value) c,aW X ((D,seqObj "list" os.toArray c)::pins) σ H' s'->J H'->KskOut false kz vs os->P (.done (.ret .none)) s'):
  wpAny 4#0 A' (ksk_tree D (.ref f) false) P E s:=by
 let ho:=I.pinAt (a:=D) (o:=seqObj "list" vs.toArray n) 6#0;let ha:D<s.heap.objs.size:=j6 ho;let s1:=D3 s.heap D (Obj.mapSeq λ_=>(#[]:Array Value));obtain⟨e1,ho1⟩:∃e1,(s.heap.update D (Obj.mapSeq λ_=>(#[]:Array Value))).get? D=some (seqObj "list" #[] e1):={_,get?_update_seq ho λ_=>#[]};let I1:=I.wr (a:=D) (o:=seqObj "list" vs.toArray n) (tk:=s.toks) (pins':=(D,seqObj "list" #[] e1)::pins) 6#0 OD s1 ho1 hG λp hp=>by
  rcases i9.mp hp with rfl|hp
  ·exact .inr rfl
  ·exact .inl {i4 _ hp,pD p hp}
 let I2:=I1.kept (h':=(s.heap.update D (Obj.mapSeq λ_=>(#[]:Array Value))).push (seqObj "tuple" vs.toArray 0)) (t':=s.toks) λb u g=>i8 _ g;let I3:=I2.kept (h':=((s.heap.update D (Obj.mapSeq λ_=>(#[]:Array Value))).push (seqObj "tuple" vs.toArray 0)).push (seqObj "list" #[] 0)) (t':=s.toks) λb u g=>i8 _ g;let Ok:=uD.of I2 (i7 _);let nH:H ((s.heap.update D (Obj.mapSeq λ_=>(#[]:Array Value))).push (seqObj "tuple" vs.toArray 0)).objs.size=none:=I2.hok.fresh (i7 _);let lt2:∀p ∈ (D,seqObj "list" #[] e1)::pins,p.1<((s.heap.update D (Obj.mapSeq λ_=>(#[]:Array Value))).push (seqObj "tuple" vs.toArray 0)).objs.size:=λp hp=>j6 (I2.pinAt (a:=p.1) (o:=p.2) hp);unfold ksk_tree;refine g7 (listItems_at ho rfl ?_);refine g7 (listUpdate_at ho rfl ?_ (by rw [p9];exact Ti hz) (l7 _));refine g7 (seqEpoch_at ho1 rfl ?_);refine g7 (S7 ?_ (Ti hz));refine g7 (Q5 ?_ (l7 _));refine y4 ?_;refine Pn (e1:=e1) (I3.pins_of λp hp=>?_) hJ OD Ok (M3 (lt2 (D,seqObj "list" #[] e1) 6#0)) (λp hp=>q5 (lt2 p (i4 _ hp))) pD rv hlen hz turn h;rcases i9.mp hp with rfl|hp
 ·exact {n9 _ rfl,nH,Ok.neL,Ok.nfs,hG}
 ·exact I3.pinIn (a:=p.1) (o:=p.2) hp
end
def dY (v d:Addr):HO:=.ext λh=>h.IsValuesView v d
def Ju {P:Program} {w:World} {H:Hp} {h:Heap} {v d:Addr} (x:h.IsValuesView v d):bN P w H h v (dY v d):=⟨x,let ⟨o,e,_⟩:=x;{(o),e},λb a ⟨o,e,r⟩ k=>{o,k o e,r}⟩
def EF (a:Addr) (o:Obj) (kvs:List (bK × V)):It:=
 ⟨λi H=>H a=some (.frz o (.dK kvs))/\i<kvs.length,λi H x H'=>H'=H/\∃e,kvs[i]?=some e/\x=e.2,λi H=>H a=some (.frz o (.dK kvs))/\kvs.length<=i⟩
theorem KV.at {kvs:List (bK × V)} {vs:List (bK × Value)} (r:KV kvs vs) {i:Nat} {k:bK} {v:Value} (e:vs[i]?=some (k,v)):∃p,kvs[i]?=some p/\bF p.2 v:=by
 induction r generalizing i with
 | nil=>simp at e
 | cons h t ih=>
  cases i with
  | zero=>
   simp only [List.getElem?_cons_zero,Option.some.injEq] at e;subst e;exact {_,rfl,h.2}
  | succ i=>
   simp only [List.getElem?_cons_succ] at e ⊢;exact ih e
def Gs {P:Program} {l:Option Value} {w:World} {K:Frag} {tg:Expr} (a it:Addr) (o:Obj) (kvs:List (bK × V)) {Q:Array DictEntry} {ep:Nat} (N:o.data=.dict Q ep) (e0:l=none):xD P w K l tg (EF a o kvs) [it] it (λi h=>h.IsValIter it a i kvs.length ep) where
 mem:=by simp
 obj:=λi h j b g=>by
  let e:b=it:=by simpa using g
  subst e
  let (o,e,c,d):=j
  exact {o,e,λv z=>by rw [d] at z;cases z}
 keep:=λi h q ⟨o,e,r⟩ k=>{o,k it 6#0 o e,r}
 item:=by
  intro X C x J L i f s σ H E I t j B;subst C x J;let (e,T):=B;let (G,r,u):=qI I e N;let n:=r.length;let (y,F,f2,D,f4,A):=t it 6#0;obtain⟨⟨k,v⟩,M⟩:∃p,G[i]?=some p:={G[i],i3 ∎};refine wpAny_pyNext_values_item (by rw [<- n];exact j) u M λq m U=>?_;let O:aW X f σ H { s with heap:=q }:=I.turned (t':=s.toks) (λb o g e=>(U.2 b g).trans e) y F D f4 A;let (oi,ei,S,Z):=id m;let (p,Y,rp):=KV.at r M;refine {v,rfl,sS (s:={ s with heap:=q }) ei S Z 7#0 {p.2,H,O,rp,{(rfl),p,Y,rfl},by rw [n];exact m,λb g=>(t b g).1}}
 done:=by
  intro X C x J L i f s σ H E I t j B;subst C x J;let (e,T):=B;let (G,r,u):=qI I e N;let n:=r.length;let (y,F,f2,D,f4,A):=t it 6#0;exact wpAny_pyNext_values_end (L.trans e0) (by rw [<- n];exact j) u (A3 ∎) λq eb=>{rfl,I.turned (t':=s.toks) (λb o g e=>eb b o g e) y F D f4 A}
 self:=λ_ _ _ _ _ j h=>wpAny_pyIter_valiter j h
section
variable {X:Cx} {tg:Expr}
def Yj:V->List V->Hp->VK->Prop:=λx vs H Q=>∃a kvs,x=.ref a/\vs=[]/\H a=some (.dK kvs)/\∀v,H v=none->Q (.ref v) (upd H v (dY v a))
def Hv:KW X "dict.values" Yj:=by
 intro g s σ H x o v t Q I k n h;let (a,c,rfl,rfl,m,q):=h;cases k;let f:=n.zero;subst f;let (p,l,d,r,i):=(show bN X.prog X.w H s.heap a (.dK c) from I.hok a _ m);refine call_meetsIn PySem.F.slot_dict_values i.typeIs PySem.F.entry_dict_values (PySem.F.args_dict_values_1 _) (meets_dict_values (cC X.prog X.w) a l) {{(d),i},?_};let j:H s.heap.objs.size=none:=I.hok.fresh (i7 _);exact {.ref s.heap.objs.size,_,I.laid (a:=s.heap.objs.size) (t':=s.toks) (λb u e=>i8 _ e) (i7 _) (Ju {_,n9 _ rfl,rfl,rfl}),rfl,q _ j}
def mX (f:PE X o e) (d:attributeBase o "values" X.env (eval o X.env)=eval o X.env:=by rfl) (c:(b.endLine == a.line)=true:=by rfl):PE X (.Call (.Attribute o "values" b) [] [] a) (FN X.K "dict" Yj e):=
 BH PySem.F.plainAttrs_dict PySem.F.slot_dict_values PySem.F.type_dict_values Hv f d c
def HD (tl:TE):TI:=λσ H R=>tl σ H λx H1=>∃v a kvs,x=.ref v/\H1 v=some (dY v a)/\H1 a=some (.dK kvs)/\∀o,R (EF a o kvs) (upd H1 a (.frz o (.dK kvs)))
def pX (G:PE X l y) (k:X.calm=true:=by rfl):PI X tg l (HD y):=by
 intro p s σ H R I h;refine eN (G s σ H _ I h) λu i x C j A z=>?_;let (v,a,kvs,e,K,n,q):=z;subst e;cases A;let (f,_,_):=j.hok v _ K;let f:i.heap.IsValuesView v a:=f;let (o,t,m):=j.freeze n;let (O,N,L,r,M,B,ep,g,c,d,J,E,D):=(show bN X.prog X.w C i.heap a (.dK kvs) from j.hok a _ n);rw [t] at g;cases g;refine wpAny_pyIter_values (knd:=cC X.prog X.w) (kvs:=L) (ep:=ep) f {(o),B,t,c,d,J,E,D} ?_;refine {i.heap.objs.size,[i.heap.objs.size],_,_,_,rfl,m.kept (t':=i.toks) λb o e=>i8 _ e,Gs a _ o kvs d (I.ok.hd k),?_,λb F=>?_,q o}
 ·exact {_,n9 _ rfl,rfl,by rw [r.length];rfl}
 ·let e:b=i.heap.objs.size:=by simpa using F
  subst e;exact m.fpOk (i7 _) (m.hok.fresh (i7 _))
def zB {a:Addr} {o:Obj} {kvs:List (bK × V)} {g:TG} {tb:TS} {D:eM} {σ:St} {H:Hp} (b:Nat->St->Hp->Prop) (t:b 0 σ H) (r:∀i σ H,i<=kvs.length->b i σ H->H a=some (.frz o (.dK kvs)))
  (s:∀i e σ H,kvs[i]?=some e->b i σ H->g e.2 σ H λj h=>tb { D with nx:=b (i+1),ct:=b (i+1),bk:=D.nx } j h) (u:∀ σ H,b kvs.length σ H->D.nx σ H):
  ∃W:Nat->Nat->St->Hp->Prop,(∃m,W 0 m σ H)/\∀i m σ H,W i m σ H ->
   ((EF a o kvs).stop i H/\D.nx σ H)\/((EF a o kvs).go i H/\∃N:St->Hp->Prop,(∀f c,N f c->∃k,k<m/\W (i+1) k f c)/\∀x c,(EF a o kvs).yld i H x c->g x σ c λj h=>tb { D with nx:=N,ct:=N,bk:=D.nx } j h):=by
 refine {λi m σ H=>m=kvs.length-i/\i<=kvs.length/\b i σ H,{kvs.length,by simp,l7 _,t},?_};rintro i m σ H ⟨rfl,n,p⟩;let q:=r i σ H n p;by_cases d:i<kvs.length
 ·refine .inr {{(q),d},b (i+1),λf c l=>{kvs.length-(i+1),∎,rfl,d,l},λx c y=>?_};let (rfl,e,v,rfl):=y;exact s i e σ _ v p
 ·let e:i=kvs.length:=∎;subst e;exact .inl {{q,i7 _},u σ H p}
end
def Gk (X:Cx) (A':Around) (σ:St) (f:Addr) (J:Hp->Prop) (x:V) (φ:Hp->V->Hp->Prop):Prop:=∀(pins':List 10#0) (H':Hp) (s':Shared) (v:Value),aW X pins' σ H' s'->J H'->bF x v ->
 wpAny 4#0 A' (call (.ref f) [v]) (EP X pins' σ λy H''=>φ H' y H''/\J H'') (λ_ _=>False) s'
def Fm {X:Cx} {i:Around} {σ:St} {k:Nat} {f c':Addr} {q p:Str} {c:Arguments} {d:Expr} {a:Scope} {pm m:Value} {N:List Str} {tb:TE} {J:Hp->Prop} {x:V} {φ:Hp->V->Hp->Prop}
  (D:∀b,J b->b f=some (Il f (kla_obj "<lambda>" q c d a [] pm c' m))) (t:∀b,J b->b c'=some (tH c' q)) (O:X.A.frames=some X.stack->i.frames=some X.stack) (F:Room (k+1) i) (S:aK N [p] a) (L:∀u,bindArgs (kla_fn "<lambda>" q c d a [] pm (.ref c') m) {[u],[]}=pure [(p,u)])
  (h:∀(s:Shared) (H:Hp),Room k (i.deeper (envOfC q a s.heap.objs.size f (.ref c')))->PE (hU dI X.prog X.w X.K X.mg X.base N q a f (.ref c') i X.stack s H E0).nox d tb)
  (G:∀b,J b->tb (dB N [x]) b (λy n=>φ b y n/\J n)):Gk X i σ f J x φ:=by
 intro z b B v I j r;let T:=D b j;let P:=t b j;let M:=G b j;let g:=I.env0;let Q:tS X.prog X.w X.K X.mg X.base i X.stack B b:={O I.ok.frames,g.mod,g.bs,g.bsz,g.funs,g.frf,g.hok,g.bare};refine M9 (G9 (Vo (CX:=dI) (E:=E0) (us:=[v]) (vs:=[x]) T P S F Q (L v) (.cons r .nil) rfl λo=>{tb,(h B b o).nox,M}) λr C l=>?_);cases r with
 | error e=>exact l
 | ok fl=>
  cases fl with
  | ret u=>exact I.after l
  | next=>exact False.elim l
  | brk=>exact False.elim l
  | cont=>exact False.elim l
def aW.track {X:Cx} {pins:List 10#0} {σ:St} {H:Hp} {s:Shared} {D:Addr} {o:Obj} {u:HO} (I:aW X ((D,o)::pins) σ H s) (O:uD X D) (i:∀p ∈ pins,p.1≠D) (h:bN X.prog X.w (upd H D u) s.heap D u):aW X pins σ (upd H D u) s:=by
 let n:H D=none:=(I.pinIn (a:=D) (o:=o) 6#0).2.1;let g:aW X pins σ H s:=I.pins_of λp hp=>I.pinIn (a:=p.1) (o:=p.2) (i4 _ hp);let d:∀b v,H b=some v->(upd H D u) b=some v:=λb v e=>by rw [aE (aF e n)];exact e
 refine g.step (h':=s.heap) (g':=s.gens) (t':=s.toks) (d':=s.drawn) (ch:=[D]) (λb f=>?_) (λb o _ _ _ e _=>e) (λb o _ _ _ e _=>{(o.slots),e}) (λb o f e z=>?_) (λb o _ e=>{(o),e}) (λb j e=>d b _ e) (λb o v e=>d b _ e) (λb k e=>{#[],by rw [d b _ e];simp}) (λm z=>z) (λb v e=>?_) g.bare
 ·let z:b=D:=by simpa using f
  subst z;refine {.inr O.up,O.neL,O.neC,λp hp=>?_};rcases q8.mp hp with hp|hp
  ·exact O.neP p hp
  ·exact i p hp
 ·rw [aE (λy=>f (by simp [y]))];exact z
 ·by_cases f:b=D
  ·subst f;rw [aB] at e;cases e;exact h
  ·rw [aE f] at e;exact(g.hok b v e).stay (λc l _ r=>r) (λc z=>d c _ z) λc j z=>d c _ z
theorem rW (g:α->β):∀{ps:List β} {L:List α},ps.Perm (L.map g)->∃L':List α,L'.Perm L/\ps=L'.map g
 | [],L,h=>by
  have:L.map g=[]:=List.perm_nil.mp h.symm
  exact {[],by rw [List.map_eq_nil_iff.mp this],rfl}
 | a::ps,L,h=>by
  let (l,d,rfl):=y0.mp (h.mem_iff.mp (j1 ..))
  let (b,c,rfl):=List.append_of_mem d
  have e:(b++l::c).Perm (l::(b++c)):=List.perm_middle
  have j:(g l::ps).Perm (g l::(b++c).map g):=h.trans (by simpa using e.map g)
  let (L',f,i):=rW g j.cons_inv
  exact {l::L',(f.cons l).trans e.symm,by rw [x9,i]}
def Sa (kz:List Int) (xs ys:List V):Prop:=∃ps:List (Int × V),ps.Perm (kz.zip xs)/\ys=ps.map (·.2)/\ps.Pairwise (λp q=>p.1<=q.1)
def Jt (h:bB xs vs) (p:V × Value) (a:p ∈ xs.zip vs):bF p.1 p.2:=by
 induction h with
 | nil=>cases a
 | cons r _ t=>
  cases a with
  | head=>exact r
  | tail _ h=>exact t h
theorem Dl:∀{L:List (V × Value)},(∀p ∈ L,bF p.1 p.2)->bB (L.map (·.1)) (L.map (·.2))
 | [],_=>.nil
 | p::L,h=>.cons (h p (j1 ..)) (Dl λq a=>h q (i4 _ a))
def Qu {kz:List Int} {xs:List V} {vs c:List Value} (b:bB xs vs) (h:KskOut false kz vs c):∃d,bB d c/\Sa kz xs d:=by
 let (l,e,rfl,f):=h;let m:=b.length;let g:(kz.zip (xs.zip vs)).map (λt=>(t.1,t.2.2))=kz.zip vs:=by
  have:(xs.zip vs).map (·.2)=vs:=G4 ∎
  conv=>rhs;rw [<- this]
  rw [List.zip_map_right];rfl
 let i:(kz.zip (xs.zip vs)).map (λt=>(t.1,t.2.1))=kz.zip xs:=by
  have:(xs.zip vs).map (·.1)=xs:=List.map_fst_zip ∎
  conv=>rhs;rw [<- this]
  rw [List.zip_map_right];rfl
 rw [<- g] at e;let (L,a,rfl):=rW _ e;refine {L.map (·.2.1),?_,L.map (λt=>(t.1,t.2.1)),by rw [<- i];exact a.map _,by rw [A0];rfl,?_}
 ·have:=Dl (L:=L.map (·.2)) λp k=>by
   let (t,j,rfl):=y0.mp k;exact Jt b t.2 (C8 (a.mem_iff.mp j)).2
  rw [A0,A0] at this;rw [A0];exact this
 ·rw [List.pairwise_map] at f ⊢;exact f.imp λh=>by simpa using h
def Vp {kvs:List (bK × V)} {vs:List (bK × Value)} (h:KV kvs vs):bB (kvs.map (·.2)) (vs.map (·.2)):=by
 induction h with
 | nil=>exact .nil
 | cons h _ t=>exact .cons h.2 t
section
variable {X:Cx}
def My (X:Cx) (σ:St):List V->List V->Hp->VK->Prop:=λxs ds H Q=>∃(v a f:Addr) (kvs:List (bK × V)) (kz:List Int) (J:Hp->Prop),xs=[.ref v]/\ds=[.ref f]/\H v=some (dY v a)/\H a=some (.dK kvs)/\J H/\kz.length=kvs.length/\kvs.length<64 /\
 (∀(i:Nat) (e:bK × V) (k:Int),kvs[i]?=some e->kz[i]?=some k->Gk X X.A.in1.in1 σ f J e.2 λ_ y _=>y=.int k)/\∀l ys H',J H'->H' l=none->Sa kz (kvs.map (·.2)) ys->Q (.ref l) (upd H' l (.lst ys))
def Cq (hc:X.calm=true) {pins:List 10#0} {s:Shared} {σ:St} {H:Hp} {xs ds:List V} {us ws:List Value} {Q:VK} (I:5#0) (r:bB xs us) (rd:bB ds ws) (h:My X σ xs ds H Q):
  wpAny 4#0 X.A (call (.builtin "sorted") us ([("key":Str)].zip ws)) (EP X pins σ Q) X.xe s:=by
 let (v,a,f,kvs,kz,J,rfl,rfl,hv,ha,hJ,hkl,h64,hkey,q):=h;let (u,rfl,ru):=r.one;cases ru;let (u',rfl,ru'):=rd.one;cases ru';let (view,_,_):=I.hok v _ hv;let view:s.heap.IsValuesView v a:=view;let (hz,hS,vs,rkv,o',es,ep,g,c,d,k1,k2,k3):=(show bN X.prog X.w H s.heap a (.dK kvs) from I.hok a _ ha);let ln:=rkv.length;show wpAny _ _ (call (.builtin "sorted") [.ref v] [(Str.ofString "key",.ref f)]) _ _ _;refine call_function_entry_kw kind_sorted plain_sorted entry_sorted (ksk_s1 _ _) ?_;unfold Builtin.«sorted»;refine g7 (m:=checkCount "sorted" 1 1 _) (j3 ?_);refine g7 (kdu_collect (kdl_values (knd:=cC X.prog X.w) (kvs:=vs) (ep:=ep)) (by simpa using I.ok.hd hc) {(view),o',es,g,c,d,k1,k2,k3} ∎ λh' tk acc hk hacc=>?_)
 let av:acc.toList=vs.map (·.2):=kdl_vals_eq _ (by rw [u9];exact hacc.1) λj x hx=>hacc.2 j x (by rw [<- J5];exact hx)
 rw [av];let I1:aW X pins σ H { s with heap:=h',toks:=tk }:=I.kept hk;let rv:bB (kvs.map (·.2)) (vs.map (·.2)):=Vp rkv;let lv:(vs.map (·.2)).length<=sizeLine:=by rw [i6];omega
 refine g7 (Q5 ?_ (by rw [i6];omega));let OD:uD X h'.objs.size:=uD.of I1 (i7 _);let nD:H h'.objs.size=none:=I1.hok.fresh (i7 _);let I2:aW X pins σ H { s with heap:=h'.push (seqObj "list" (vs.map (·.2)).toArray 0),toks:=tk }:=I1.kept λb o e=>i8 _ e;let hoL:(h'.push (seqObj "list" (vs.map (·.2)).toArray 0)).get? h'.objs.size=some (seqObj "list" (vs.map (·.2)).toArray 0):=n9 _ rfl;let pD:∀p ∈ pins,p.1≠h'.objs.size:=λp hp=>q5 (j6 (I1.pinAt (a:=p.1) (o:=p.2) hp));let I3:aW X ((h'.objs.size,seqObj "list" (vs.map (·.2)).toArray 0)::pins) σ H { s with heap:=h'.push (seqObj "list" (vs.map (·.2)).toArray 0),toks:=tk }:=I2.pins_of λp hp=>by
  rcases i9.mp hp with rfl|hp
  ·exact {(hoL),nD,OD.neL,OD.nfs,hG}
  ·exact I2.pinIn (a:=p.1) (o:=p.2) hp
 refine g7 (y4 (wpAny_call_entry_kw slot_list_sort {_,hoL,rfl} entry_list_sort ?body (ksk_l1 _ _)))
 case body=>
  show wpAny 4#0 X.A.in1.in1 (Builtin.«list.sort» {[.ref h'.objs.size],[(Str.ofString "key",.ref f)]}) _ _ _;rw [ksk_t1];refine Kq (kz:=kz) (J:=J) I3 hJ OD pD rv (by rw [i6];omega) (by have:=rkv.length;rw [i6];omega) (λpins' H' s' i x v k I' j hx hk' rx=>?_) λs' H' os c' I' j ko=>?_
  ·rw [j7] at hx;cases hi:kvs[i]? with
   | none=>rw [hi] at hx;cases hx
   | some e=>
    rw [hi] at hx;cases hx;exact hkey i e k hi hk' pins' H' s' v I' j rx
  ·let (ys,ry,bk):=Qu rv ko;let ly:ys.length<=sizeLine:=by
    let (ps,p1,rfl,_):=bk;have:=p1.length_eq;rw [A4,i6] at this;rw [i6];omega
   let nD':H' h'.objs.size=none:=(I'.pinIn (a:=h'.objs.size) (o:=seqObj "list" os.toArray c') 6#0).2.1;let eD:=I'.pinAt (a:=h'.objs.size) (o:=seqObj "list" os.toArray c') 6#0;refine {.none,rfl,j3 {.ref h'.objs.size,rfl,.ref h'.objs.size,_,I'.track (u:=.lst ys) OD pD {(ly),os,c',ry,eD},rfl,q _ ys H' j nD' bk}}
def Zn (X:Cx) (ta td:TA):TE:=λσ H Q=>ta σ H λxs H1=>td σ H1 λds H2=>My X σ xs ds H2 Q
def Nf {x:Str} {p pos c:Pos} {a b:Expr} {k m:TA} (o:X.calm=true) (t:Gl X x) (C:X.mg x=none) (B:bootBuiltins x=some (.builtin "sorted")) (z:PA X [a] k) (w:PK X [{some "key",b,c}] m) (n:x≠"__name__":=by decide) (i:(x == ("__debug__":Str))=false:=by decide)
  (e:(backToKw pos (keywordEach [{some "key",b,c}] X.env)).all (·.1.isSome)=true:=by rfl) (j:(backToKw pos (keywordEach [{some "key",b,c}] X.env)).filterMap (·.1)=[("key":Str)]:=by rfl)
  (A:starEach [a] X.env=(false,eval a X.env)::starEach [] X.env:=by rfl) (f:((backTo pos (starEach [a] X.env)).any (·.1) || (backToKw pos (keywordEach [{some "key",b,c}] X.env)).any (·.1.isNone))=false:=by rfl):
  PE X (.Call (.Name x p) [a] [{some "key",b,c}] pos) (Zn X k m):=by
 intro d s σ H Q I h;refine D7 (jX I t C B ?_ n i);refine PySem.W.callWith_of (P:=λg=>X.K.In g) f (λ_ _=>{.machine,.inr (.inl rfl),.now}) (O5 e (vT (z d s σ H _ I h) λG u M y v r q=>?_) A);refine vT (w pos d u σ y _ v q) λL N F J l D E=>{l.kIn,?_};rw [j];exact Cq o l r D E
def lN (p q:Int × Int):Prop:=p.1<q.1\/(p.1=q.1/\p.2<q.2)
instance (p q:Int × Int):Decidable (lN p q):=by unfold lN;infer_instance
def Hy (p q:Int × Int):HT.lexLt [p.1,p.2] [q.1,q.2]=decide (lN p q):=by
 rw [F0,decide_eq_true_eq];simp only [HT.lexLt_cons,HT.lexLt_nil_nil,lN];split
 ·split
  ·simp;omega
  ·simp;omega
 ·simp;omega
def Hw (a:lN p q) (h2:¬ lN r q):lN p r:=by
 unfold lN at *;omega
def Vj (a:lN p q) (h2:¬ lN r q):¬ lN r p:=by
 unfold lN at *;omega
def Fj:¬ lN p p:=by
 unfold lN;omega
def IG (k:Int × Int):Hp->V->Hp->Prop:=λH' y H''=>(∃t,y=.ref t/\H'' t=some (.tup [.int k.1,.int k.2]))/\∀b xs,H' b=some (.tup xs)->H'' b=some (.tup xs)
def aW.wrK {X:Cx} {pins pins':List 10#0} {σ:St} {H:Hp} {s:Shared} {a:Addr} {o o':Obj} {h':Heap} {tk:Nat} (I:5#0) (k:(a,o) ∈ pins) (O:uD X a) (j:∀b u,b≠a->s.heap.get? b=some u->h'.get? b=some u) (e:h'.get? a=some o') (w:∀v,o'.data≠.cell v) (c:∀p ∈ pins',(p ∈ pins/\p.1≠a)\/p=(a,o')):
  aW X pins' σ H { s with heap:=h',toks:=tk }:=by
 let (_,n,_):=I.pin (a,o) (k7 _ k);let r:aW X [] σ H s:=I.pins_of λp c=>absurd c 6#0;let m:=r.turned (h':=h') (t':=tk) (it:=a) (λb u i g=>j b u i g) n O.neL (.inr O.up) O.neC (λp c=>O.neP p (by simpa using c));refine m.pins_of λp h=>?_;rcases c p h with ⟨h,i⟩|rfl
 ·let (g,q,x,t,d):=I.pin p (k7 _ h);exact {j _ _ i g,q,x,t,d}
 ·exact {(e),n,O.neL,O.nfs,w}
def aW.listAt {X:Cx} {pins:List 10#0} {σ:St} {H:Hp} {s:Shared} {l:Addr} {ps:List Addr} (I:5#0) (h:H l=some (.lst (ps.map V.ref))):s.heap.IsList l (ps.map Value.ref).toArray/\ps.length<=sizeLine:=by
 let (b,r,a,z):=I.list (cM.of h);rw [yE r] at a;rw [i6] at z;exact {(a.isList),z}
def sP {o:Obj} {l:Addr} {i:Int} (a:o.data=.fields #[.ref l,.int i 0]):∀v,o.data≠.cell v:=λv z=>by rw [a] at z;cases z
section
variable {pins:List (Addr × Obj)} {σ:St} {l f I S:Addr} {ps:List Addr} {J:Hp->Prop} {R:Result->Shared->Prop}
def Ou (kf:Nat->Int × Int) (hh:X.A.handled=none) (hu:X.A.in1.units<cLine) (OI:uD X I) (OS:uD X S) (hSI:S≠I) (hlI:l≠I) (pI:∀p ∈ pins,p.1≠I) (pS:∀p ∈ pins,p.1≠S)
  (hJl:∀H',J H'->H' l=some (.lst (ps.map V.ref)))
  (turn:∀(i:Nat) (p:Addr),ps[i]?=some p->Gk X X.A.in1 σ f J (.ref p) (IG (kf i)))
  (hR:∀i p s' H',ps[i]?=some p->(∀j,j<ps.length->¬ lN (kf j) (kf i)/\(j<i->lN (kf i) (kf j)))->aW X pins σ H' s'->J H'->R (.ok (.ret (.ref p))) s'):
  ∀(r j i:Nat) (s:Shared) (H:Hp) (pb kb:Addr) (c:Nat) (oI:Obj),ps.length-(j+1)=r->j+1<=ps.length->aW X ((S,seqObj "list" #[.ref pb,.ref kb] c)::(I,oI)::pins) σ H s->J H ->
   oI.cls=.type "list_iterator"->oI.data=.fields #[.ref l,.int ((j+1:Nat):Int) 0]->H kb=some (.tup [.int (kf i).1,.int (kf i).2])->ps[i]?=some pb->i<=j->(∀j',j'<=j->¬ lN (kf j') (kf i)/\(j'<i->lN (kf i) (kf j'))) ->
   codeAny 4#0 X.A (.builtin "min.loop" {[.ref I,.ref f,.ref S],[]}) R s:=by
 let hname:(toString "min"++toString ".loop":String)="min.loop":=by decide
 let W:=Walks.list (prog:=X.prog) (w:=X.w) (A:=X.A.in1) hh I l hlI (ps.map Value.ref).toArray;let hsz:(ps.map Value.ref).toArray.size=ps.length:=by simp
 intro r
 induction r with
 | zero=>
  intro j i s H pb kb c oI hr hj Iv hJ oc od hk hpb hij hbest;let hin:j+1=ps.length:=∎;let nS:=Iv.pinAt (a:=S) (o:=seqObj "list" #[.ref pb,.ref kb] c) 6#0;let nI:=Iv.pinAt (a:=I) (o:=oI) 6#0;let (isL,_):=Iv.listAt (hJl H hJ);refine L0 PySem.F.entry_min_loop ?_;rw [N4 PySem.F.plain_min_loop _];show wpAny _ X.A.in1 (seqItems? (.ref S) >>= _) _ _ _;refine g7 (K4 nS rfl ?_);show wpAny _ X.A.in1 (tryCatch (pyNext (.ref I)) _ >>= _) _ _ _;refine g7 (M7 (W.done _ _ _ {by rw [hsz,<- hin];exact {(oI),nI,oc,od},isL} λh' tk' hk'=>?_));let I0:aW X ((S,seqObj "list" #[.ref pb,.ref kb] c)::pins) σ H s:=Iv.pins_of λp hp=>Iv.pinIn (a:=p.1) (o:=p.2) (by
   rcases i9.mp hp with rfl|hp
   ·simp
   ·exact i4 _ (i4 _ hp));let I1:aW X ((S,seqObj "list" #[.ref pb,.ref kb] c)::pins) σ H { s with heap:=h',toks:=tk' }:=I0.turned (it:=I) (t':=tk') (λb o ne e=>hk' b o (by simpa using ne) e) (Iv.pinIn (a:=I) (o:=oI) 6#0).2.1 OI.neL (.inr OI.up) OI.neC (λp hp=>by
   rcases q8.mp hp with hp|hp
   ·exact OI.neP p hp
   ·rcases i9.mp hp with rfl|hp
    ·exact hSI
    ·exact pI p hp);let hS':=I1.pinAt (a:=S) (o:=seqObj "list" #[.ref pb,.ref kb] c) 6#0;let s1:=D3 h' S (Obj.mapSeq λ_=>(#[]:Array Value));obtain⟨c2,hc2⟩:∃c2,(h'.update S (Obj.mapSeq λ_=>(#[]:Array Value))).get? S=some (seqObj "list" #[] c2):={_,get?_update_seq hS' λ_=>#[]};show wpAny _ X.A.in1 (updateSeq S (λ_=>#[]) >>= _) _ _ _;refine g7 ?_;refine wpAny_updateSeq hS' rfl (g7 (Q3 (j3 ?_)));let I2:=I1.wr (a:=S) (o:=seqObj "list" #[.ref pb,.ref kb] c) (tk:=tk') (pins':=pins) 6#0 OS s1 hc2 hG λp hp=>.inl {i4 _ hp,pS p hp};exact hR i pb _ H hpb (λj' hj'=>hbest j' ∎) I2 hJ
 | succ r ih=>
  intro j i s H pb kb c oI hr hj Iv hJ oc od hk hpb hij hbest;let hlt:j+1<ps.length:=∎;let nS:=Iv.pinAt (a:=S) (o:=seqObj "list" #[.ref pb,.ref kb] c) 6#0;let nI:=Iv.pinAt (a:=I) (o:=oI) 6#0;let (isL,_):=Iv.listAt (hJl H hJ);refine L0 PySem.F.entry_min_loop ?_;rw [N4 PySem.F.plain_min_loop _];show wpAny _ X.A.in1 (seqItems? (.ref S) >>= _) _ _ _;refine g7 (K4 nS rfl ?_);show wpAny _ X.A.in1 (tryCatch (pyNext (.ref I)) _ >>= _) _ _ _;refine g7 (M7 (W.item (j+1) _ _ _ (by rw [hsz];exact hlt) {{(oI),nI,oc,od},isL} λv h' tk' hP hst' hk'=>?_));obtain⟨p,hp,rfl⟩:∃p,ps[j+1]?=some p/\v=.ref p:=by
   let hv:(ps.map Value.ref)[j+1]?=some v:=by simpa using hP
   rw [j7,i3 hlt] at hv;exact {_,i3 hlt,(Option.some.inj hv).symm}
  let (oI',hoI',hoc,hod):=id hst'.1;let I1:=Iv.wrK (a:=I) (o:=oI) (o':=oI') (h':=h') (tk:=tk') (pins':=(S,seqObj "list" #[.ref pb,.ref kb] c)::(I,oI')::pins) 6#0 OI (λb u ne e=>hk' b u (by simpa using ne) e) hoI' (sP hod) λp hp=>by
   rcases i9.mp hp with rfl|hp
   ·exact .inl {by simp,hSI}
   ·rcases i9.mp hp with rfl|hp
    ·exact .inr rfl
    ·exact .inl {i4 _ (i4 _ hp),pI p hp}
  show wpAny _ X.A.in1 (tryCatch (holding [.ref p] (call (.ref f) [.ref p])) _ >>= _) _ _ _;refine g7 (M7 (y4 (y7 (turn (j+1) p hp _ H _ _ I1 hJ rfl) (λx s'' he=>?_) λ_ _ hF=>hF.elim)));let (y,H2,I2,ry,((t,rfl,ht),tups),hJ2):=he;cases ry;let hk2:=tups kb _ hk;let nS2:=I2.pinAt (a:=S) (o:=seqObj "list" #[.ref pb,.ref kb] c) 6#0;let nI2:=I2.pinAt (a:=I) (o:=oI') 6#0;show wpAny _ X.A.in1 (tryCatch (holding [.ref p,.ref t] (richCompare .Lt (.ref t) (.ref kb) >>= _)) _ >>= _) _ _ _;let (ia,ra,pa,_):=I2.tuple (cG.of (show H2 t=some (.tup ([(kf (j+1)).1,(kf (j+1)).2].map V.int)) from ht));let (ib,rb,pb',_):=I2.tuple (cG.of (show H2 kb=some (.tup ([(kf i).1,(kf i).2].map V.int)) from hk2));let cmp:=HT.lt_tupInts (prog:=X.prog) (w:=X.w) (A:=X.A.in1) (E:=λ_ _=>False) pa pb' (sR ra) (sR rb) hu (Q:=λu s3=>u=.bool (decide (lN (kf (j+1)) (kf i)))/\s3=s'') {by rw [Hy],rfl};refine g7 (M7 (y4 (g7 (y7 cmp (λu s3 z=>?_) λ_ _ z=>z.elim))));let (rfl,rfl):=z;refine g7 (y4 (C7 ?_));refine g7 (Q3 (j3 ?_));by_cases hb':lN (kf (j+1)) (kf i)
  ·let s1:=D3 s3.heap S (Obj.mapSeq λ_=>#[.ref p,.ref t]);obtain⟨c2,hc2⟩:∃c2,(s3.heap.update S (Obj.mapSeq λ_=>#[.ref p,.ref t])).get? S=some (seqObj "list" #[.ref p,.ref t] c2):={_,get?_update_seq nS2 λ_=>#[.ref p,.ref t]};simp only [hb',decide_true,if_true];refine g7 ?_;refine wpAny_updateSeq nS2 rfl (g7 (Q3 ?_));rw [hname];let I3:=I2.wr (a:=S) (o:=seqObj "list" #[.ref pb,.ref kb] c) (tk:=s3.toks) (pins':=(S,seqObj "list" #[.ref p,.ref t] c2)::(I,oI')::pins) 6#0 OS s1 hc2 hG λp hp=>by
    rcases i9.mp hp with rfl|hp
    ·exact .inr rfl
    ·refine .inl {i4 _ hp,?_};rcases i9.mp hp with rfl|hp
     ·exact hSI.symm
     ·exact pS p hp
   refine j3 {plainId_quiet PySem.F.plain_min_loop _,ih (j+1) (j+1) _ H2 p t c2 oI' ∎ hlt I3 hJ2 hoc hod ht hp (i7 _) λj' hj'=>?_};by_cases e:j'=j+1
   ·subst e;exact {Fj,λh=>absurd h (A5 _)}
   ·let hb1:=(hbest j' ∎).1;exact {Vj hb' hb1,λ_=>Hw hb' hb1}
  ·simp only [hb',decide_false,z5,if_false];refine g7 (Q3 ?_);rw [hname];refine j3 {plainId_quiet PySem.F.plain_min_loop _,ih (j+1) i _ H2 pb kb c oI' ∎ hlt I2 hJ2 hoc hod hk2 hpb ∎ λj' hj'=>?_};by_cases e:j'=j+1
   ·subst e;exact {hb',λh=>∎}
   ·exact hbest j' ∎
def Yk (X:Cx) (σ:St):List V->List V->Hp->VK->Prop:=λxs ds H Q=>∃(l f:Addr) (ps:List Addr) (kf:Nat->Int × Int) (J:Hp->Prop),xs=[.ref l]/\ds=[.ref f]/\J H/\(∀H',J H'->H' l=some (.lst (ps.map V.ref)))/\ps≠[] /\
 (∀(i:Nat) (p:Addr),ps[i]?=some p->Gk X X.A.in1 σ f J (.ref p) (IG (kf i)))/\∀(i:Nat) (p:Addr) (H':Hp),J H'->ps[i]?=some p->(∀j,j<ps.length->¬ lN (kf j) (kf i)/\(j<i->lN (kf i) (kf j)))->Q (.ref p) H'
def Ja (hc:X.calm=true) (hu:X.A.in1.units<cLine) {s:Shared} {H:Hp} {xs ds:List V} {us ws:List Value} {Q:VK} (Iv:5#0) (r:bB xs us) (rd:bB ds ws) (h:Yk X σ xs ds H Q):
  wpAny 4#0 X.A (call (.builtin "min") us ([("key":Str)].zip ws)) (EP X pins σ Q) X.xe s:=by
 let (l,f,ps,kf,J,rfl,rfl,hJ,hJl,hne,turn,q):=h;let (u,rfl,ru):=r.one;cases ru;let (u',rfl,ru'):=rd.one;cases ru';let hh:X.A.handled=none:=Iv.ok.hd hc;let hne:0<ps.length:=List.length_pos_iff.mpr hne;let hname:(toString "min"++toString ".loop":String)="min.loop":=by decide
 let (isL,_):=Iv.listAt (hJl H hJ);show wpAny _ _ (call (.builtin "min") [.ref l] [(Str.ofString "key",.ref f)]) _ _ _;refine kmk_tree PySem.F.kind_min PySem.F.plain_min PySem.F.entry_min (kmk_min_key _ _) ?_;show wpAny _ X.A.in1 (Builtin.Builtins.bindParams "min" ["key","default"] 0 {[],[(Str.ofString "key",.ref f)]} >>= _) _ _ s;refine g7 (C9 (show Builtin.Builtins.bindParams "min" ["key","default"] 0 {[],[(Str.ofString "key",.ref f)]}=pure [some (.ref f),none] from rfl) ?_);refine g7 (j3 ?_);refine g7 (P7 isL ?_);refine g7 (Q5 ?_ (l7 _));rw [hname];let lI:l<s.heap.objs.size:=Iv.hok.lt (hJl H hJ);let hlI:l≠s.heap.objs.size:=q5 lI;let OI:uD X s.heap.objs.size:=uD.of Iv (i7 _);let nI:H s.heap.objs.size=none:=Iv.hok.fresh (i7 _);let I1:aW X pins σ H { s with heap:=s.heap.push { cls:=.type "list_iterator",data:=.fields #[.ref l,.int 0 0] } }:=Iv.kept (t':=s.toks) λb o e=>i8 _ e;let I2:aW X pins σ H { s with heap:=(s.heap.push { cls:=.type "list_iterator",data:=.fields #[.ref l,.int 0 0] }).push (seqObj "list" #[] 0) }:=I1.kept (t':=s.toks) λb o e=>i8 _ e;let OS:uD X (s.heap.push { cls:=.type "list_iterator",data:=.fields #[.ref l,.int 0 0] }).objs.size:=uD.of I1 (i7 _);let nS:H (s.heap.push { cls:=.type "list_iterator",data:=.fields #[.ref l,.int 0 0] }).objs.size=none:=I1.hok.fresh (i7 _);let hS:(s.heap.push { cls:=.type "list_iterator",data:=.fields #[.ref l,.int 0 0] }).objs.size=s.heap.objs.size+1:=size_push' ..;let hSI:(s.heap.push { cls:=.type "list_iterator",data:=.fields #[.ref l,.int 0 0] }).objs.size≠s.heap.objs.size:=by rw [hS];exact M3 (Q6 _)
 let gI:((s.heap.push { cls:=.type "list_iterator",data:=.fields #[.ref l,.int 0 0] }).push (seqObj "list" #[] 0)).get? s.heap.objs.size=some { cls:=.type "list_iterator",data:=.fields #[.ref l,.int 0 0] }:=
  i8 _ (n9 _ rfl)
 let gS:((s.heap.push { cls:=.type "list_iterator",data:=.fields #[.ref l,.int 0 0] }).push (seqObj "list" #[] 0)).get? (s.heap.push { cls:=.type "list_iterator",data:=.fields #[.ref l,.int 0 0] }).objs.size=some (seqObj "list" #[] 0):=n9 _ rfl;let pI:∀p ∈ pins,p.1≠s.heap.objs.size:=λp hp=>q5 (j6 (Iv.pinAt (a:=p.1) (o:=p.2) hp));let pS:∀p ∈ pins,p.1≠(s.heap.push { cls:=.type "list_iterator",data:=.fields #[.ref l,.int 0 0] }).objs.size:=λp hp=>q5 (j6 (I1.pinAt (a:=p.1) (o:=p.2) hp));generalize hSd:(s.heap.push { cls:=.type "list_iterator",data:=.fields #[.ref l,.int 0 0] }).objs.size=S at OS nS hSI gS pS ⊢;generalize hId:s.heap.objs.size=I at OI nI hlI hSI gI pI ⊢;generalize (s.heap.push { cls:=.type "list_iterator",data:=.fields #[.ref l,.int 0 0] }).push (seqObj "list" #[] 0)=h0 at I2 gI gS ⊢;let I3:aW X ((S,seqObj "list" #[] 0)::(I,{ cls:=.type "list_iterator",data:=.fields #[.ref l,.int 0 0] })::pins) σ H { s with heap:=h0 }:=I2.pins_of λp hp=>by
  rcases i9.mp hp with rfl|hp
  ·exact {(gS),nS,OS.neL,OS.nfs,hG}
  ·rcases i9.mp hp with rfl|hp
   ·exact {gI,nI,OI.neL,OI.nfs,λv z=>by cases z}
   ·exact I2.pinIn (a:=p.1) (o:=p.2) hp
 let (isL3,_):=I3.listAt (hJl H hJ);let W:=Walks.list (prog:=X.prog) (w:=X.w) (A:=X.A.in1) hh I l hlI (ps.map Value.ref).toArray;let hsz:(ps.map Value.ref).toArray.size=ps.length:=by simp
 refine j3 {plainId_quiet PySem.F.plain_min_loop _,?_};refine L0 PySem.F.entry_min_loop ?_;rw [N4 PySem.F.plain_min_loop _];show wpAny _ X.A.in1 (seqItems? (.ref S) >>= _) _ _ _;refine g7 (K4 gS rfl ?_);show wpAny _ X.A.in1 (tryCatch (pyNext (.ref I)) _ >>= _) _ _ _;refine g7 (M7 (W.item 0 _ _ _ (by rw [hsz];exact hne) {{_,gI,rfl,rfl},isL3} λv h' tk' hP hst' hk'=>?_));obtain⟨p,hp,rfl⟩:∃p,ps[0]?=some p/\v=.ref p:=by
  let hv:(ps.map Value.ref)[0]?=some v:=by simpa using hP
  rw [j7,i3 hne] at hv;exact {_,i3 hne,(Option.some.inj hv).symm}
 let (oI',hoI',hoc,hod):=id hst'.1;let I4:=I3.wrK (a:=I) (o:={ cls:=.type "list_iterator",data:=.fields #[.ref l,.int 0 0] }) (o':=oI') (h':=h') (tk:=tk') (pins':=(S,seqObj "list" #[] 0)::(I,oI')::pins) 6#0 OI (λb u ne e=>hk' b u (by simpa using ne) e) hoI' (sP hod) λp hp=>by
  rcases i9.mp hp with rfl|hp
  ·exact .inl {by simp,hSI}
  ·rcases i9.mp hp with rfl|hp
   ·exact .inr rfl
   ·exact .inl {i4 _ (i4 _ hp),pI p hp}
 show wpAny _ X.A.in1 (tryCatch (holding [.ref p] (call (.ref f) [.ref p])) _ >>= _) _ _ _;refine g7 (M7 (y4 (y7 (turn 0 p hp _ H _ _ I4 hJ rfl) (λx s'' he=>?_) λ_ _ hF=>hF.elim)));let (y,H2,I5,ry,((t,rfl,ht),tups),hJ2):=he;cases ry;let nS2:=I5.pinAt (a:=S) (o:=seqObj "list" #[] 0) 6#0;let s1:=D3 s''.heap S (Obj.mapSeq λ_=>#[.ref p,.ref t]);obtain⟨c2,hc2⟩:∃c2,(s''.heap.update S (Obj.mapSeq λ_=>#[.ref p,.ref t])).get? S=some (seqObj "list" #[.ref p,.ref t] c2):={_,get?_update_seq nS2 λ_=>#[.ref p,.ref t]};show wpAny _ X.A.in1 (updateSeq S (λ_=>#[.ref p,.ref t]) >>= _) _ _ _;refine g7 ?_;refine wpAny_updateSeq nS2 rfl ?_;rw [hname];let I6:=I5.wr (a:=S) (o:=seqObj "list" #[] 0) (tk:=s''.toks) (pins':=(S,seqObj "list" #[.ref p,.ref t] c2)::(I,oI')::pins) 6#0 OS s1 hc2 hG λp hp=>by
  rcases i9.mp hp with rfl|hp
  ·exact .inr rfl
  ·refine .inl {i4 _ hp,?_};rcases i9.mp hp with rfl|hp
   ·exact hSI.symm
   ·exact pS p hp
 refine j3 {plainId_quiet PySem.F.plain_min_loop _,Ou kf hh hu OI OS hSI hlI pI pS hJl turn (λi p' s' H' hp' best I' j'=>{.ref p',H',I',rfl,q i p' H' j' hp' best}) _ 0 0 _ H2 p t c2 oI' rfl hne I6 hJ2 hoc hod ht hp (i7 _) λj' hj'=>?_};let e:j'=0:=∎;subst e;exact {Fj,λh=>absurd h (A5 _)}
def FE (X:Cx) (ta td:TA):TE:=λσ H Q=>ta σ H λxs H1=>td σ H1 λds H2=>Yk X σ xs ds H2 Q
def Um {x:Str} {p pos c:Pos} {a b:Expr} {k m:TA} (o:X.calm=true) (z:X.A.in1.units<cLine) (y:Gl X x) (E:X.mg x=none) (C:bootBuiltins x=some (.builtin "min")) (F:PA X [a] k) (L:PK X [{some "key",b,c}] m) (D:x≠"__name__":=by decide) (i:(x == ("__debug__":Str))=false:=by decide)
  (d:(backToKw pos (keywordEach [{some "key",b,c}] X.env)).all (·.1.isSome)=true:=by rfl) (e:(backToKw pos (keywordEach [{some "key",b,c}] X.env)).filterMap (·.1)=[("key":Str)]:=by rfl)
  (t:starEach [a] X.env=(false,eval a X.env)::starEach [] X.env:=by rfl) (j:((backTo pos (starEach [a] X.env)).any (·.1) || (backToKw pos (keywordEach [{some "key",b,c}] X.env)).any (·.1.isNone))=false:=by rfl):
  PE X (.Call (.Name x p) [a] [{some "key",b,c}] pos) (FE X k m):=by
 intro pins s σ H Q I h;refine D7 (jX I y E C ?_ D i);refine PySem.W.callWith_of (P:=λg=>X.K.In g) j (λ_ _=>{.machine,.inr (.inl rfl),.now}) (O5 d (vT (F pins s σ H _ I h) λM w Y v u r q=>?_) t);refine vT (L pos pins w σ v _ u q) λN O T U n B G=>{n.kIn,?_};rw [e];exact Ja o z n r B G
end
structure xF (K:Frag) (x qual:Str) (st:Stmt) (f:Addr) (fd:FuncData) (c:Addr):Prop where
 ex:∃(oc:Value) (od:Option Addr) (kV doc pm:Value) (an:Option Addr) (ct:Value) (osl:Array (Option Value)),fd=PySem.W.fnOf x qual (eS st) (bG st) (aG st) .none kV doc pm an (.ref c) ct/\K.lookup f=some ⟨oc,od,.func fd,osl⟩/\PySem.W.codeIn K (.ref c) qual=true
 kp:PySem.W.keepIn K (.ref f)=true
section
variable {P:Program} {w:World} {K:Frag} {mg:Str->Option Value} {base:Heap} {x qual:Str} {st:Stmt} {f c:Addr} {fd:FuncData}
def xF.toFun (F:xF K x qual st f fd c):qW K x qual st f fd:=by
 let ((j,i,kV,b,d,g,m,a,e,l,h),k):=F;exact {{j,i,kV,b,d,g,_,m,a,e,l,h},k}
def xF.ok {N ps:List Str} {k:Nat} {sp:Sp} (F:xF K x qual st f fd c) (S:aK N ps (aG st)) (d:∀vs H Q E,sp vs H Q E->vs.length=ps.length)
  (a:∀(A:Around) (outer:List Env) (s:Shared) (H:Hp) (vs:List V) (Q:VK) (E:XK),Room k (A.deeper (envOfC qual (aG st) s.heap.objs.size f (.ref c)))->sp vs H Q E ->
   ∃t,pJ (hU dI P w K mg base N qual (aG st) f (.ref c) A outer s H E).nox (bG st) t/\t { nx:=λ_ i=>Q .non i,rt:=Q } (dB N vs) H):bH P w K mg base dI (k+1) f fd ps sp:=by
 let (r,p,kV,l,n,o,u,j,rfl,m,e):=F.ex;refine Qe m e S d λA outer s H vs Q E g b=>?_;let (t,h,q):=a A outer s H vs Q E g b;exact {(t),h.nox,q}
def Fs {g:Value} {e d:Option Addr} {b:Array (Option Value)} {kV a pm ct:Value} (l:K.lookup f=some {g,e,.func (PySem.W.fnOf x qual (eS st) (bG st) (aG st) .none kV a pm d (.ref c) ct),b})
  (h:PySem.W.codeIn K (.ref c) qual=true) (k:PySem.W.keepIn K (.ref f)=true):xF K x qual st f (PySem.W.fnOf x qual (eS st) (bG st) (aG st) .none kV a pm d (.ref c) ct) c:={{(g),e,kV,a,pm,d,ct,b,rfl,l,h},k}
end
def eQ (H H':Hp):Prop:=∀b o,H b=some o->(∃ps,o=.tbl ps)\/H' b=some o
def aJ.toT (h:aJ H H'):eQ H H':=λb o e=>.inr (h b o e)
def eQ.trans (a:eQ H H1) (b:eQ H1 d):eQ H d:=λc o e=>by
 rcases a c o e with z|z
 ·exact .inl z
 ·exact b c o z
def dG.toT (a:H T=some (.tbl ps)) (h:dG T H H'):eQ H H':=λb o e=>by
 by_cases z:b=T
 ·subst z
  rw [a] at e
  cases e
  exact .inl {(ps),rfl}
 ·exact .inr (h b o z e)
def dG.same (k:dG T H H1) (s:aJ H1 a):dG T H a:=λb o n e=>s _ _ (k b o n e)
def dG.pre (s:aJ H H1) (k:dG T H1 a):dG T H a:=λb o n e=>k b o n (s _ _ e)
def eQ.at (h:eQ H H') (e:H b=some o) (n:∀a,o≠.tbl a:=by intro _ z;cases z):H' b=some o:=by
 rcases h b o e with ⟨a,z⟩|z
 ·exact absurd z (n a)
 ·exact z
def pG.same (h:aJ H H') (t:pG H T pos q):pG H' T pos q:=by
 let (i,e,a,d):=t;refine {i,h _ _ e,a,?_};rcases d with z|⟨g,z,b⟩
 ·exact .inl z
 ·exact .inr {g,z,h _ _ b}
section
variable {P:Program} {w:World} {K:Frag} {mg:Str->Option Value} {base:Heap} {x qual:Str} {st:Stmt} {f c:Addr} {fd:FuncData}
end
end
end L2
namespace Hd
open PySem PyProof.Rows
section
variable {prog:Program} {w:World} {A:Around} {E:Value->Shared->Prop} {s:Shared}
def uC:entryFor table "proto.unchain"=some Builtin.«proto.unchain»:=entryFor_of_tree (by kernel_rfl)
def tY:plainId "proto.unchain"=true:=⋯
def vS (c:s.heap.get? h=some oh) (b:oh.data=.fields fs) (h2:fs[2]?=some .none) (a:Q .none s):
  wpAny 8#0 A (runValue (.builtin "proto.unchain" {[v,.ref h,.ref h,.bool false],[]})) Q E s:=by
 refine wpAny_runValue (L0 uC ?_);rw [N4 tY _];show wpAny _ _ (field (.ref h) 2 >>= _) _ _ s;refine g7 (z9 c b h2 ?_);show wpAny _ _ (ret Value.none) _ _ s;exact j3 a
def Xy (n:A.handled=some (.ref h)) (q:NoCtx h s.heap)
  (t:∀g e,(∀b o,s.heap.get? b=some o->g.get? b=some o)->(∃o,g.get? e=some o/\o.cls=.type "StopIteration")->E (.ref e) { s with heap:=g }):
  wpAny 8#0 A (do let e <- newExc (.type "StopIteration") [];raiseNew e) Q E s:=by
 let (oh,fs,i,u,r):=q;let d:h<s.heap.objs.size:=j6 i;refine g7 ?_;simp only [newExc,newTuple];refine g7 (C2 ?_ (by size_fits));refine g7 (m:=firstArgMember _ _) (C9 (a:=Value.none) rfl ?_);refine C2 ?_ (by size_fits);unfold raiseNew;refine g7 (wpAny_handled ?_);rw [n];generalize hT:s.heap.push { cls:=Value.type "tuple",data:=Data.seq #[] }=c;let k:∀b o,s.heap.get? b=some o->c.get? b=some o:=λb o e=>by
  rw [<- hT];exact i8 _ e
 let f:c.objs.size=s.heap.objs.size+1:=by rw [<- hT,M4]
 dsimp only
 rw [if_pos (by
  show (Value.ref h != Value.ref c.objs.size)=true
  simp only [bne_iff_ne,ne_eq,Value.ref.injEq]
  exact q5 (by rw [f];exact K0 d))];refine g7 (y4 (vS (oh:=oh) (fs:=fs) (i8 _ (k _ _ i)) u r ?_));let j:=n9 c (o:={ cls:=Value.type "StopIteration",data:=Data.fields (#[Value.ref s.heap.objs.size,Value.none,Value.none,Value.none,Value.bool false,Value.none]++ownMembersOf (Value.type "StopIteration") []) }) rfl;refine g7 (F8 j rfl (by simp;omega) ?_);refine wpAny_throw (t _ _ (λb o e=>?_) {_,J3 _ j rfl,rfl});let p:=j6 e;rw [A7 _ _ (M3 (by rw [f];exact K0 p))];exact i8 _ (k b o e)
def NoCtx.upd (n:NoCtx h b) (a:h≠it):NoCtx h (b.update it f):=n.other (A7 _ _ (F7 a))
def Pb (B:A.handled=some (.ref h)) (j:s.heap.IsListIter it l i) (t:s.heap.IsList l a) (y:a[i]?=none) (r:NoCtx h s.heap) (p:h≠it)
  (C:∀n e,Heap.ExtBut it s.heap n->(∃o,n.get? e=some o/\o.cls=.type "StopIteration")->E (.ref e) { s with heap:=n }):wpAny 8#0 A (Builtin.«list_iterator.__next__» {[.ref it],[]}) Q E s:=by
 let (o,d,F,c):=id j;let (G,f,_,H,k):=t;show wpAny _ _ (field (Value.ref it) 0 >>= _) _ _ _;refine g7 (z9 (x:=Value.ref l) d c rfl ?_);show wpAny _ _ (if (Value.ref l == Value.none)=true then _ else _) _ _ _;rw [if_neg 6#0];show wpAny _ _ (field (Value.ref it) 1 >>= _) _ _ _;refine g7 (z9 (x:=Value.int i 0) d c rfl (g7 (K4 f k ?_)));simp only [E3,y];refine g7 (F1 (g7 (F8 d c 6#0 (Xy B (r.upd p) λg e D q=>C g e (λb u v z=>D b u ?_) q))));exact(A7 _ _ (F7 v)).trans z
def tup_endH (D:A.handled=some (.ref h)) (f:IsTupIter s.heap it t i) (v:IsTup s.heap t a) (C:a[i]?=none) (r:NoCtx h s.heap) (n:h≠it)
  (u:∀p,Heap.ExtBut it s.heap p->Q none { s with heap:=p }):wpAny 8#0 A (pyNext (.ref it)) Q E s:=by
 let (o,d,G,c):=id f;let (H,j,_,I,k):=v;unfold pyNext;refine g7 (J6 (B2 f.typeIs slot_tupleiter_next (D8 slot_tupleiter_next f.typeIs entry_tupleiter_next ?_ (args_tupleiter_next _))));show wpAny _ _ (field (Value.ref it) 0 >>= _) _ _ _;refine g7 (z9 (x:=Value.ref t) d c rfl ?_);show wpAny _ _ (if (Value.ref t == Value.none)=true then _ else _) _ _ _;rw [if_neg 6#0];show wpAny _ _ (field (Value.ref it) 1 >>= _) _ _ _;refine g7 (z9 (x:=Value.int i 0) d c rfl (g7 (K4 j k ?_)));simp only [E3,C];refine g7 (F1 (g7 (F8 d c 6#0 (Xy (A:=A.in1) D (r.upd n) λg e F q=>?_))));refine g7 (Q8 (T:="StopIteration") (b:=true) q isSubtype_stop (j3 (u g λb y B z=>F b y ?_)));exact(A7 _ _ (F7 B)).trans z
def next_endH (j:A.handled=some (.ref h)) (c:s.heap.IsListIter it l i) (n:s.heap.IsList l a) (g:a[i]?=none) (o:NoCtx h s.heap) (f:h≠it)
  (p:∀d,Heap.ExtBut it s.heap d->Q none { s with heap:=d }):wpAny 8#0 A (pyNext (.ref it)) Q E s:=by
 unfold pyNext;refine g7 (J6 (B2 (name:=Str.ofString "__next__") c.typeIs slot_listiter_next (D8 slot_listiter_next c.typeIs entry_listiter_next (Pb (A:=A.in1) j c n g o f λd e q k=>?_) (args_listiter_next _))));refine g7 (Q8 (T:="StopIteration") (b:=true) k isSubtype_stop ?_);exact j3 (p _ q)
end
section
variable {prog:Program} {w:World} {A:Around} {E:Value->Shared->Prop} {s:Shared} {h₀:Heap} {L l h:Addr} {m:Str->Option Value} {news:List (Addr × Obj)} {vs:List Value}
end
end Hd
namespace L2
open PySem PySem.Spec PyProof.Rows
structure jI (k:Nat) (A:Around) (h:Addr):Prop where
 hd:A.handled=some (.ref h)
 dp:A.depth+3 * k+5<recursionLimit
 un:A.units+16 * k+200<cLine
def jI.mono {j k:Nat} {A:Around} {h:Addr} (r:jI k A h) (e:j<=k):jI j A h:=⟨r.hd,by have:=r.dp;omega,by have:=r.un;omega⟩
theorem jI.deeper {k:Nat} {A:Around} {h:Addr} (r:jI (k+1) A h) (env:Env):jI k (A.deeper env) h:=
 ⟨r.hd,by have:=r.dp;show A.depth+1+3 * k+5<_;omega,by have:=r.un;show A.units+3+16 * k+200<_;omega⟩
def Room.suite {k:Nat} {A:Around} (r:Room k A) (h:Addr):jI k (A.mark (some (.ref h))) h:={(rfl),r.dp,r.un}
structure vO (P:Program) (w:World) (K:PySem.W.Frag) (mg:Str->Option Value) (base:Heap) (k:Nat) (f:Addr) (fd:FuncData) (ps:List Str) (sp:Addr->Sp):Prop where
 len:∀h vs H Q E,sp h vs H Q E->vs.length=ps.length
 run:∀(A:Around) (outer:List Env) (s:Shared) (H:Hp) (args:Args) (us:List Value) (vs:List V) (Q:VK) (h:Addr),jI k A h->tS P w K mg base A outer s H->BindsTo s fd args (ps.zip us)->bB vs us->sp h vs H Q E0 ->
  codeAny (model P w) A (.call (.ref f) args) (CR dI outer P w H s Q E0) s
abbrev HP (P:Program) (w:World) (K:PySem.W.Frag) (mg:Str->Option Value) (base:Heap) (N:List Str) (qual:Str) (scope:Scope) (f:Addr) (cd:Value) (A:Around) (outer:List Env) (s:Shared) (H:Hp):Cx:=
 { hU dI P w K mg base N qual scope f cd A outer s H E0 with calm:=false,xe:=λ_ _=>False }
def CU {P:Program} {w:World} {K:PySem.W.Frag} {mg:Str->Option Value} {base:Heap} {k:Nat} {f:Addr} {name c:Str} {g:Arguments} {j:List Stmt} {a:Scope} {dV kV D pm cdv ct oc:Value} {an od:Option Addr}
  {a0:Array (Option Value)} {N ps:List Str} {sp:Addr->Sp} (lk:K.lookup f=some {oc,od,.func (PySem.W.fnOf name c g j a dV kV D pm an cdv ct),a0}) (T:PySem.W.codeIn K cdv c=true) (S:aK N ps a)
  (L:∀h vs H Q E,sp h vs H Q E->vs.length=ps.length)
  (B:∀(A:Around) (outer:List Env) (s:Shared) (H:Hp) (vs:List V) (Q:VK) (h:Addr),jI k (A.deeper (envOfC c a s.heap.objs.size f cdv)) h->sp h vs H Q E0 ->
   ∃t,pJ (HP P w K mg base N c a f cdv A outer s H) j t/\t { nx:=λ_ l=>Q .non l,rt:=Q } (dB N vs) H):
  vO P w K mg base (k+1) f (PySem.W.fnOf name c g j a dV kV D pm an cdv ct) ps sp:=by
 refine {L,λA outer s H a1 us vs Q h hr i hb r F=>?_};let hl:=L _ _ _ _ _ F;let KX:K.In s.heap:=i.mod.kin.keeps λb o e=>(i.bs b o e).1;let Y:s.heap.NoLimit:=i.mod.nolimit.keeps λb o e=>(i.bs b o e).1;let m:∀y ∈ ps.zip us,a.names.lookup y.1=some .local\/(a.names.lookup y.1=some .cell/\((cellsFrom (s.heap.objs.size+1) a.names []).lookup y.1).isSome=true):=λ⟨n,v⟩ hy=>by
  rcases S.par n (C8 hy).1 with q|q
  ·exact .inl q
  ·exact .inr {q,PySem.W.cellsFrom_some _ _ _ (.inl q)}
 refine codeAny_call_function (by have:=hr.dp;omega) (KX _ _ lk) rfl S.co S.gen rfl (PySem.W.codeRec_of KX T) (hb _ _ _ _ ?_);refine N6 S.kind m λa2 he U x=>?_;subst he;refine {Y.keeps x.toInCall.keep,codeAny_func ?_};let (t,ht,hq):=B A outer s H vs Q h (hr.deeper _) F;let e1:tS P w K mg base { A with handled:=none } outer s H:={(i.frames),i.mod,i.bs,i.bsz,i.funs,i.frf,i.hok,i.bare};let I0:aW (hU dI P w K mg base N c a f cdv { A with handled:=none } outer s H E0) [] (dB N vs) H U:=oQ S rfl e1 hl r x;let d:(HP P w K mg base N c a f cdv A outer s H).Ok:=
  let d:=I0.ok;{d.mod,d.kind,d.glob,d.blt,d.above,d.inj,d.has,d.cab,λz=>(nomatch z),Around.frames_deeper i.frames,d.stk,d.exf,d.bs,d.bsz,d.noex,d.exfs,d.funs,d.frf}
 let I:aW (HP P w K mg base N c a f cdv A outer s H) [] (dB N vs) H U:=I0.re d rfl rfl rfl rfl rfl rfl rfl rfl λp z=>z;refine y7 (ht U (dB N vs) H _ I hq) (λfl Z C=>?_) λe Z C=>C.elim;let G:∀{M:St} {l:Hp} {v:V} {u:Value},aW (HP P w K mg base N c a f cdv A outer s H) [] M l Z->bF v u->Q v l->CE outer P w H s Q u Z:=
  λ{M l v u} J O q=>{(v),l,J.os,J.bare,J.base,J.hok,O,q}
 cases fl with
 | ret u=>
  let (v,M,l,J,O,q):=C;exact G J O q
 | next=>
  let (M,l,J,q):=C;exact G (v:=V.non) (u:=Value.none) J rfl q
 | brk=>
  let (_,_,_,q):=C;exact False.elim q
 | cont=>
  let (_,_,_,q):=C;exact False.elim q
def qW.okH {P:Program} {w:World} {K:PySem.W.Frag} {mg:Str->Option Value} {base:Heap} {x a:Str} {st:Stmt} {f:Addr} {fd:FuncData} {N ps:List Str} {k:Nat} {sp:Addr->Sp} (F:qW K x a st f fd) (S:aK N ps (aG st)) (d:∀h vs H Q E,sp h vs H Q E->vs.length=ps.length)
  (b:∀(cdv:Value) (A:Around) (outer:List Env) (s:Shared) (H:Hp) (vs:List V) (Q:VK) (h:Addr),jI k (A.deeper (envOfC a (aG st) s.heap.objs.size f cdv)) h->sp h vs H Q E0 ->
   ∃t,pJ (HP P w K mg base N a (aG st) f cdv A outer s H) (bG st) t/\t { nx:=λ_ j=>Q .non j,rt:=Q } (dB N vs) H):vO P w K mg base (k+1) f fd ps sp:=by
 let (u,r,kV,m,o,q,cdv,v,l,rfl,n,g):=F.ex;exact CU n g S d λA outer s H vs Q h i c=>b cdv A outer s H vs Q h i c
section
variable {X:Cx} {k:Nat} {f h:Addr} {fd:FuncData} {ps:List Str} {sp:Addr->Sp} {dvs:List V} {ds:List Value} {x:Str} {p pos:Pos} {e:Expr} {es:List Expr} {t:TA}
def Tz {pins:List 10#0} {σ:St} {H:Hp} {s:Shared} {Q:VK} {us:List Value} {vs:List V} (F:vO X.prog X.w X.K X.mg X.base k f fd ps sp) (d:jI k X.A h) (g:eW X.K fd ps ds) (j:bB dvs ds)
  (I:5#0) (r:bB vs us) (q:sp h (vs++dvs) H Q E0):wpAny 4#0 X.A (call (.ref f) us) (EP X pins σ Q) X.xe s:=by
 let b:bB (vs++dvs) (us++ds):=r.append j
 let i:(us++ds).length=ps.length:=by rw [<- b.length];exact F.len _ _ _ _ _ q
 refine M9 (G9 (F.run X.A X.stack s H {us,[]} (us++ds) (vs++dvs) Q h d I.env0 (g s us I.kIn i) b q) λr c a=>?_);cases r with
 | error e=>exact aO pins σ H s e c I a
 | ok fl=>
  cases fl with
  | ret u=>exact I.after a
  | next=>exact False.elim a
  | brk=>exact False.elim a
  | cont=>exact False.elim a
def Nk (F:vO X.prog X.w X.K X.mg X.base k f fd ps sp) (i:jI k X.A h) (j:Gl X x) (n:X.mg x=some (.ref f)) (u:PySem.W.keepIn X.K (.ref f)=true) (l:eW X.K fd ps ds) (g:bB dvs ds)
  (o:PA X (e::es) t) (b:(x == ("__debug__":Str))=false:=by decide) (m:starEach (e::es) X.env=(false,eval e X.env)::starEach es X.env:=by rfl) (c:(backTo pos (starEach es X.env)).any (·.1)=false:=by rfl):
  PE X (.Call (.Name x p) (e::es) [] pos) (xO (sp h) dvs E0 t):=by
 intro a s σ H Q I q;refine D7 (lC I j n ?_ b);refine PySem.W.callWith_K (h₀:=X.base) I.ok.mod.kin u (vT (o a s σ H _ I q) λz v y B d r q=>{d.kIn,?_}) m c;exact Tz F i l g d r q
end
def Le (σw σ:St):Prop:=∀(i:Nat) v,σw[i]?=some (some v)->σ[i]?=some (some v)
def Le.refl (σ:St):Le σ σ:=λ_ _ z=>z
def qV (CX:pK) (X:Cx) (σw:St) (E:XK):Prop:=∀(pins:List 10#0) (σ:St) (H:Hp) (s:Shared) (e:Value) (s':Shared),Le σw σ->aW X pins σ H s->CX X.stack H s E e s'->X.xe e s'
def Xw (σw:St) (t:TE):TE:=λσ H Q=>Le σw σ/\t σ H Q
def Xv (K:PySem.W.Frag) (cv:Value) (i:Nat) (σw:St) (ts:Addr->TS) (D:eM):XK:=λcls _ H=>∃C,cls=.ref C/\PySem.W.exmOne K cls cv=some true /\
 ∀ea,H ea=none->ts ea { nx:=λσ H'=>D.nx (σ.set i none) H',rt:=D.rt,bk:=λσ H'=>D.bk (σ.set i none) H',ct:=λσ H'=>D.ct (σ.set i none) H' } (σw.set i (some (.ref ea))) (upd H ea (lY ea C))
def EZ (tb:XK->St->TS) (K:PySem.W.Frag) (cv:Value) (i:Nat) (wk:St->St) (ts:Addr->TS):TS:=λD σ H=>tb (Xv K cv i (wk σ) ts D) (wk σ) D σ H
section
variable {X:Cx} {CX:pK} {k:Nat} {f C:Addr} {fd:FuncData} {ps:List Str} {sp:Sp} {dvs:List V} {ds:List Value} {E:XK} {x m:Str} {p pos apos:Pos} {e o:Expr} {es:List Expr} {ta:TE} {t:TA} {σw:St}
def Mt {pins:List 10#0} {σ:St} {H:Hp} {s:Shared} {Q:VK} {us:List Value} {vs:List V} (F:bH X.prog X.w X.K X.mg X.base CX k f fd ps sp) (h:Room k X.A) (i:eW X.K fd ps ds) (l:bB dvs ds) (c:qV CX X σw E) (d:Le σw σ)
  (I:5#0) (r:bB vs us) (q:sp (vs++dvs) H Q E):wpAny 4#0 X.A (call (.ref f) us) (EP X pins σ Q) X.xe s:=by
 let b:bB (vs++dvs) (us++ds):=r.append l
 let j:(us++ds).length=ps.length:=by rw [<- b.length];exact F.len _ _ _ _ q
 refine M9 (G9 (F.run X.A X.stack s H {us,[]} (us++ds) (vs++dvs) Q E h I.env0 (i s us I.kIn j) b q) λr g a=>?_);cases r with
 | error e=>exact c pins σ H s e g d I a
 | ok fl=>
  cases fl with
  | ret u=>exact I.after a
  | next=>exact a.elim
  | brk=>exact a.elim
  | cont=>exact a.elim
def Hh (z:PE X o ta) (c:tV X.K C) (v:Aa X.K C m f) (F:bH X.prog X.w X.K X.mg X.base CX k f fd ps sp) (P:Room k X.A) (N:eW X.K fd ps ds) (U:bB dvs ds) (O:qV CX X σw E) (S:PA X (e::es) t)
  (d:starEach (e::es) X.env=(false,eval e X.env)::starEach es X.env:=by rfl) (h:(backTo pos (starEach es X.env)).any (·.1)=false:=by rfl)
  (L:eval (.Call (.Attribute o m apos) (e::es) [] pos) X.env=(eval o X.env >>= λj=>standAt apos.atName >>= λ_=>holding [j] (getMethod j m pl) >>= λy=>callWith pos y.1 y.2 (backTo pos (starEach (e::es) X.env)) (backToKw pos (keywordEach [] X.env))):=by rfl):
  PE X (.Call (.Attribute o m apos) (e::es) [] pos) (Xw σw (rG C m sp dvs E ta t)):=by
 intro b s σ H Q I ⟨D,q⟩;refine PySem.W.methodCall_KW (pl:=pl) (eN (z s σ H _ I q) λu J x G i M g=>?_) L;let (a,Z,fs,B,Y,l,q):=g;subst B;cases (show u=Value.ref a from M);refine lW i Y c v l ?_;refine PySem.W.callWith_K (first:=[.ref a]) (h₀:=X.base) I.ok.mod.kin v.kp (vT (S b J σ G _ i q) λus s2 vs H2 n r T=>{n.kIn,?_}) d h
 exact Mt (us:=.ref a::us) (vs:=.ref a::vs) F P N U O D n (.cons rfl r) T
def Ug {M:List Stmt} {b₀:Stmt} {y:List Stmt} {x n:Str} {np a3 pos:Pos} {i:Nat} {tb:XK->St->TS} {ts:Addr->TS} {wk:St->St} {cv:Value} (hw:∀ σ,σ.length=X.N.length->(wk σ).length=X.N.length/\Le (wk σ) σ) (ae:X.xe=λ_ _=>False) (hN:X.N.Nodup) (hi:X.N[i]?=some n) (hx:X.env.scope.names.lookup n=some .local)
  (L:X.stack=X.env::X.outer/\X.env.frame=some X.env.locals) (hg:Gl X x) (hm:X.mg x=some cv)
  (hb:∀(pn:List 10#0) (xe:Value->Shared->Prop) (E:XK) (σw:St),qV (fS X.prog X.w) (X.try_ pn xe) σw E->pJ (X.try_ pn xe) M (tb E σw))
  (hs:∀d,pJ (X.suite (.ref d)) (b₀::y) (ts d)) (hd:(x == ("__debug__":Str))=false:=by decide):
  PS X (.Try M [.ExceptHandler (some (.Name x np)) (some n) (b₀::y) a3] [] [] pos) (EZ tb X.K cv i wk ts):=by
 intro pins s σ H D I h;rw [ae];refine wpAny_Try_except ?_;refine y7 (hb (X.pn++pins) (λe s'=>∃a j U S,Le (wk σ) j/\aW (X.try_ (X.pn++pins) λ_ _=>False) a j U S/\fS X.prog X.w X.stack U S (Xv X.K cv i (wk σ) ts D) e s') _ _
  (λa j U S e s' le J hc=>{a,j,U,S,le,J.re (J.ok.try_ _ _) rfl rfl rfl rfl rfl rfl rfl rfl λp z=>z,hc}) (pins:=[]) s σ H D
  (I.re (I.ok.try_ _ _) rfl rfl rfl rfl rfl rfl rfl rfl λp z=>by simpa using z) h) (λf T q=>?_) λe T q=>?_
 ·let l:SP X pins D f T:=by
   cases f with
   | next=>let (j,g,J,q):=q;exact {j,g,J.re I.ok rfl rfl rfl rfl rfl rfl rfl rfl λp z=>by simpa using z,q}
   | brk=>let (j,g,J,q):=q;exact {j,g,J.re I.ok rfl rfl rfl rfl rfl rfl rfl rfl λp z=>by simpa using z,q}
   | cont=>let (j,g,J,q):=q;exact {j,g,J.re I.ok rfl rfl rfl rfl rfl rfl rfl rfl λp z=>by simpa using z,q}
   | ret u=>let (v,j,g,J,r,q):=q;exact {v,j,g,J.re I.ok rfl rfl rfl rfl rfl rfl rfl rfl λp z=>by simpa using z,r,q}
  cases f with
  | next=>exact K8 l
  | brk=>exact l
  | cont=>exact l
  | ret u=>exact l
 ·let (a,j,U,S,le,J,d,ai,a0,g,B,rfl,os,a6,F,C,rfl,a8,af):=q
  let fr:X.A.frames=some (X.env::X.outer):=by rw [<- L.1];exact I.ok.frames
  let F':=F;rw [L.1] at F';refine Hd.look2 fr L.2 F'.fly F'.nc λh4 a7 a1 ag=>?_;refine Hd.land2 a7 ag λh5 O a5 a4=>?_;let F5:=F'.later O a4 (a1.trans a5);let a2:∀(hh:Heap),Ji X.prog X.w (X.env::X.outer) U S.heap d (.ref C) a0 g B hh->aW (X.suite (.ref d)) (X.pn++pins) (wk σ) (upd g d (lY d C)) { T with heap:=hh }:=λhh FF=>by
   let (un,ad):=FF.laid;rw [<- L.1] at un;let J1:aW (X.try_ (X.pn++pins) λ_ _=>False) a j (upd g d (lY d C)) { T with heap:=hh }:=
    J.call' (s':={ T with heap:=hh }) os un ad a6 (λb z=>absurd z 6#0)
   let J2:aW (X.suite (.ref d)) (X.pn++pins) j (upd g d (lY d C)) { T with heap:=hh }:=J1.re (I.ok.suite _) rfl rfl rfl rfl rfl rfl rfl rfl λp z=>by
    rcases q8.mp z with z|z
    ·exact B6 _ (B6 _ z)
    ·exact B6 _ z
   exact J2.weak (by rw [(hw σ I.len).1,J2.len]) le
  let I5:=a2 h5 F5;let ah:=a1.trans a5;refine wpAny_handleBy_cons (codeAny_handlers_test (env:=X.env) (lC (X:=X.suite (.ref d)) I5 hg hm ?_ hd)) 1#0;let Lm:PySem.W.Looks 4#0 h5 (excMatches (.ref d) cv) true:=by
   refine PySem.W.exm_one I5.kIn ?_ a8;let (o,z,c):=O.there;exact lR.ty {(o),z,c}
  refine Lm.at ?_;refine codeAny_handlers_suite_as ?_;refine Hd.again2 O a4 λh6 a9 ac aa=>?_;let I6:=a2 h6 (F5.later a9 aa ac);refine mK (X:=X.suite (.ref d)) I6 hN hi (j9 hx) (v:=.ref d) rfl (λs7 I7=>?_) (.inr hx);refine y7 (hs d s7 _ _ { nx:=λσ g=>D.nx (σ.set i none) g,rt:=D.rt,bk:=λσ g=>D.bk (σ.set i none) g,ct:=λσ g=>D.ct (σ.set i none) g } I7 (af d F.freeE)) (λf s8 q=>?_) λ_ _ z=>z.elim;let bk:∀{Y:St} {G:Hp} {Z:Shared},aW (X.suite (.ref d)) (X.pn++pins) Y G Z->aW X pins Y G Z:=λJ=>J.re I.ok rfl rfl rfl rfl rfl rfl rfl rfl λp z=>by
   rcases q8.mp z with z|z
   ·exact B6 _ z
   ·exact k7 _ (k7 _ z)
  cases f with
  | next=>let (Y,G,P,q):=q;exact kZ (bk P) hN hi hx λZ Q=>{_,G,Q,q}
  | brk=>let (Y,G,P,q):=q;exact kZ (bk P) hN hi hx λZ Q=>{_,G,Q,q}
  | cont=>let (Y,G,P,q):=q;exact kZ (bk P) hN hi hx λZ Q=>{_,G,Q,q}
  | ret u=>let (v,Y,G,P,r,q):=q;exact kZ (bk P) hN hi hx λZ Q=>{v,_,G,Q,r,q}
end
end L2
namespace L2
open PySem PySem.Spec PyProof.Rows PySem.W
inductive Wp (X:Cx) (ss:List Stmt) (D:eM) (σ:St) (H:Hp):Prop|mk (t:TS) (_:pJ X ss t) (_:t D σ H)
inductive Ex (X:Cx) (e:Expr) (σ:St) (H:Hp) (Q:VK):Prop|mk (t:TE) (_:PE X e t) (_:t σ H Q)
inductive Tx (X:Cx) (e:Expr) (σ:St) (H:Hp) (Q:Bool->Hp->Prop):Prop|mk (t:TT) (_:PT X e t) (_:t σ H Q)
inductive Ax (X:Cx) (es:List Expr) (σ:St) (H:Hp) (Q:List V->Hp->Prop):Prop|mk (t:TA) (_:PA X es t) (_:t σ H Q)
structure Vl (X:Cx) (e:Expr) (σ:St) (H:Hp) (v:V):Prop where to (Q:VK):Q v H->Ex X e σ H Q
structure Tv (X:Cx) (e:Expr) (σ:St) (H:Hp) (b:Bool):Prop where to (Q:Bool->Hp->Prop):Q b H->Tx X e σ H Q
structure Av (X:Cx) (es:List Expr) (σ:St) (H:Hp) (vs:List V):Prop where to (Q:List V->Hp->Prop):Q vs H->Ax X es σ H Q
def Wp.ex {X:Cx} {ss:List Stmt} {D:eM} {σ:St} {H:Hp} (h:Wp X ss D σ H):∃t,pJ X ss t/\t D σ H:=by let (t,p,q):=h;exact {(t),p,q}
def EB:List Str->St->Str->Option V
 | n::N,o::σ,x=>if (n == x)=true then o else EB N σ x
 | _,_,_=>none
theorem Pa:∀{N:List Str} {σ:St},EB N σ x=some v->∃i:Nat,N[i]?=some x/\σ[i]?=some (some v)
 | [],_,h=>nomatch h
 | _::_,[],h=>nomatch h
 | n::N,o::σ,h=>by
  unfold EB at h
  by_cases e:(n == x)=true
  ·rw [if_pos e] at h
   exact {0,congrArg some (eq_of_beq e),congrArg some h}
  ·rw [if_neg e] at h
   let (i,a,b):=Pa h
   exact {i+1,a,b}
section
variable {X:Cx} {σ:St} {H:Hp} {v w:V} {x:Str} {pos pos' p':Pos} {e a b:Expr} {es:List Expr} {ss r:List Stmt} {D:eM} {i j:Int} {Q:VK}
def aS:pJ X ss (Wp X ss):=λ_ s σ H D I ⟨_,p,h⟩=>p s σ H D I h
def aP:PE X e (Ex X e):=λ_ s σ H Q I ⟨_,p,h⟩=>p s σ H Q I h
def mU:PT X e (Tx X e):=λ_ s σ H Q I ⟨_,p,h⟩=>p s σ H Q I h
def eO:PA X es (Ax X es):=λ_ c s σ H Q I ⟨_,p,h⟩=>p c s σ H Q I h
def Vl.ex (h:Vl X e σ H v) (q:Q v H):Ex X e σ H Q:=h.to Q q
def EH (h:EB X.N σ x=some v) (d:ED X.env.scope x) (g:(x == ("__debug__":Str))=false) (c:(x == ("__classdict__":Str))=false):Vl X (.Name x pos) σ H v:=⟨λQ q=>by
 let (i,a,b):=Pa h
 exact {_,Nc a d g c,_,b,q}⟩
def Jw:Vl X (.Constant (.int i) k pos) σ H (.int i):={λ_ q=>{_,aR,q}}
def EK:Vl X (.Constant (.str x) k pos) σ H (.str x):={λ_ q=>{_,bC,q}}
def Dn:Vl X (.Constant .none k pos) σ H .non:={λ_ q=>{_,eU,q}}
def EV (h:Vl X a σ H (.int i)) (g:Vl X b σ H (.int j)):Vl X (.BinOp a .Add b pos) σ H (.int (i+j)):={λ_ q=>{_,bO dW aP aP,h.to _ (g.to _ {_,_,rfl,rfl,q})}}
def EJ (h:Vl X a σ H (.int i)) (g:Vl X b σ H (.int j)):Vl X (.BinOp a .Sub b pos) σ H (.int (i-j)):={λ_ q=>{_,bO jR aP aP,h.to _ (g.to _ {_,_,rfl,rfl,q})}}
def EO (h:Vl X a σ H (.int i)) (g:Vl X b σ H (.int j)) (z:0<j):Vl X (.BinOp a .Mod b pos) σ H (.int (i % j)):={λ_ q=>{_,bO oH aP aP,h.to _ (g.to _ {_,_,rfl,rfl,z,q})}}
def ET (h:Vl X a σ H (.int i)) (g:Vl X b σ H (.int j)) (z:0<j/\j<2 ^ 64):Vl X (.BinOp a .FloorDiv b pos) σ H (.int (i / j)):={λ_ q=>{_,bO Nq aP aP,h.to _ (g.to _ {_,_,rfl,rfl,z,q})}}
def EN (h:Vl X a σ H (.int i)) (g:Vl X b σ H (.int j)) (z:Jk i j):Vl X (.BinOp a .Mult b pos) σ H (.int (i * j)):={λ_ q=>{_,bO Bj aP aP,h.to _ (g.to _ {_,_,rfl,rfl,z,q})}}
def EM (h:Vl X a σ H (.int i)):Vl X (.UnaryOp .USub a pos) σ H (.int (-i)):={λ_ q=>{_,Ym Jx aP,h.to _ {_,rfl,q}}}
def EI (h:Vl X a σ H (.ref p)) (g:Vl X b σ H (.int i)) (z:H p=some (.tup xs)) (y:nY xs i=some v) (c:qU b):Vl X (.Subscript a b pos) σ H v:={λ_ q=>{_,bY bQ aP aP c,h.to _ (g.to _ {_,_,_,_,rfl,rfl,cG.of z,y,q})}}
def EQ (h:Vl X a σ H (.ref p)) (g:Vl X b σ H (.int i)) (z:H p=some (.lst xs)) (y:nY xs i=some v) (c:qU b):Vl X (.Subscript a b pos) σ H v:={λ_ q=>{_,bY fJ aP aP c,h.to _ (g.to _ {_,_,_,_,rfl,rfl,cM.of z,y,q})}}
def rF {op:CmpOp} {d:R2} {c:Bool} (l:lH X (compareOp op) d) (h:Vl X a σ H v) (g:Vl X b σ H w) (y:∀Q:VK,Q (.bl c) H->d v w H Q) (n:behindInMarks op b=false:=by first|exact bE _|rfl):Tv X (.Compare a [op] [b] pos) σ H c:=
 {λ_ q=>{_,bS l aP aP n,h.to _ (g.to _ (y _ {_,rfl,q}))}}
def EW (h:Vl X a σ H v):Tv X (.Compare a [.Is] [.Constant .none k p'] pos) σ H (decide (v=.non)):=rF oJ h Dn λ_ q=>{(rfl),q}
def Zk (h:Vl X a σ H v):Tv X (.Compare a [.IsNot] [.Constant .none k p'] pos) σ H (!decide (v=.non)):=rF wP h Dn λ_ q=>{(rfl),q}
def IV (h:Vl X a σ H (.int i)) (g:Vl X b σ H (.int j)):Tv X (.Compare a [.Lt] [b] pos) σ H (decide (i<j)):=rF jG h g λ_ q=>{_,_,rfl,rfl,q}
def IW (h:Vl X a σ H (.int i)) (g:Vl X b σ H (.int j)):Tv X (.Compare a [.LtE] [b] pos) σ H (decide (i<=j)):=rF lM h g λ_ q=>{_,_,rfl,rfl,q}
def IX (h:Vl X a σ H (.int i)) (g:Vl X b σ H (.int j)):Tv X (.Compare a [.Gt] [b] pos) σ H (decide (j<i)):=rF Np h g λ_ q=>{_,_,rfl,rfl,q}
def IY (h:Vl X a σ H (.int i)) (g:Vl X b σ H (.int j)):Tv X (.Compare a [.GtE] [b] pos) σ H (decide (j<=i)):=rF Yo h g λ_ q=>{_,_,rfl,rfl,q}
def EX (h:Vl X a σ H v) (g:Vl X b σ H w) (z:Tm v w=true):Tv X (.Compare a [.Eq] [b] pos) σ H (decide (v=w)):=rF iL h g λ_ q=>{(z),q}
def nZ:Av X [] σ H []:={λ_ q=>{_,aC,q}}
def xB (h:Vl X e σ H v) (g:Av X es σ H vs) (c:starEach (e::es) X.env=(false,eval e X.env)::starEach es X.env):Av X (e::es) σ H (v::vs):={λ_ q=>{_,aA aP eO c,h.to _ (g.to _ q)}}
def cD (h:D.nx σ H):Wp X [] D σ H:={_,aZ,h}
def cU (S:X.N.Nodup) (hi:X.N[n]?=some x) (h:Ex X e σ H λv c=>Wp X r D (σ.set n (some v)) c) (g:vN X.env.scope x:=by first|exact j9 rfl|exact K9 rfl) (l:swapsWith e (some (.Name x p')) pos.line X.env=pure false:=by rfl) (d:X.fn x=true\/X.env.scope.names.lookup x=some .local:=by first|exact .inl rfl|exact .inr rfl):Wp X (.Assign [.Name x p'] e pos::r) D σ H:={_,aD (bT S hi g aP l d) aS,h}
def fD (h:Ex X e σ H D.rt):Wp X (.Return (some e) pos::r) D σ H:={_,aD (aU aP) aS,h}
def Sd (h:Ex X e σ H λ_ c=>Wp X r D σ c) (d:swapsWith e none pos.line X.env=pure false:=by rfl):Wp X (.Expr e pos::r) D σ H:={_,aD (eI aP d) aS,h}
def uE {d:List Stmt} {c:Bool} (t:Tv X e σ H c) (g:c=true->Wp X ss { D with nx:=Wp X r D } σ H) (h2:c=false->Wp X d { D with nx:=Wp X r D } σ H):Wp X (.If e ss d pos::r) D σ H:={_,aD (bV mU aS aS) aS,t.to _ (by cases c;exact dE (h2 rfl);exact dD (g rfl))}
structure Tn (P:St->Hp->Prop) (D D':eM):Prop where
 nx:∀ σ H,P σ H->D'.nx σ H
 ct:∀ σ H,P σ H->D'.ct σ H
 rt:∀v H,D.rt v H->D'.rt v H
def mE (l:PassesOwn 4#0 X.A X.env X.xe) (c:Nat->St->Hp->Prop) (m:Nat) (n:c m σ H)
  (h:∀m σ H,c m σ H->(Tv X e σ H true/\∀d,Tn (λσ H=>∃g,g<m/\c g σ H) D d->Wp X ss d σ H)\/(Tv X e σ H false/\Wp X r D σ H)):Wp X (.While e ss [] pos::r) D σ H:=
 ⟨_,aD (Na l mU aS) aS,c,{(m),n},λm σ H p=>by
  rcases h m σ H p with ⟨t,k⟩|⟨t,k⟩
  ·exact t.to _ (dD {_,λ_ _ q=>q,k _ {λ_ _ q=>q,λ_ _ q=>q,λ_ _ q=>q}})
  ·exact t.to _ (dE k)⟩
end
section
variable {X:Cx} {CX:pK} {k:Nat} {f C:Addr} {fd:FuncData} {ps:List Str} {sp:Sp} {E:XK} {x m:Str} {p pos apos:Pos} {e o:Expr} {es:List Expr} {σ:St} {H:Hp} {Q:VK} {vs:List V}
end
section
variable {X:Cx} {σ:St} {H:Hp} {D:eM} {r ss:List Stmt} {pos p' p1 p2:Pos} {e:Expr} {x:Str} {n:Nat}
def Sb (h:Vl X e σ H v) (S:X.N.Nodup) (hi:X.N[n]?=some x) (b:vN X.env.scope x) (c:swapsWith e (some (.Name x p')) pos.line X.env=pure false) (a:X.fn x=true\/X.env.scope.names.lookup x=some .local) (k:Wp X r D (σ.set n (some v)) H):Wp X (.Assign [.Name x p'] e pos::r) D σ H:=cU S hi (h.to _ k) b c a
def Ag {a:List Stmt} {c:Bool} (t:Tv X e σ H c) (z:c=true) (h:Wp X ss { D with nx:=Wp X r D } σ H):Wp X (.If e ss a pos::r) D σ H:=uE t (λ_=>h) λy=>nomatch (z.symm.trans y)
def vQ {c:Bool} (t:Tv X e σ H c) (z:c=false) (h:Wp X r D σ H):Wp X (.If e ss [] pos::r) D σ H:=uE t (λy=>nomatch (z.symm.trans y)) λ_=>cD h
def Sc (h:Vl X e σ H v) (k:D.rt v H):Wp X (.Return (some e) pos::r) D σ H:=fD (h.to _ k)
def Tv.is {c d:Bool} (h:Tv X e σ H c) (z:c=d):Tv X e σ H d:=z ▸ h
def xI (v:PassesOwn 4#0 X.A X.env X.xe) (s:X.mg "range"=none) (S:X.N.Nodup) (hi:X.N[n]?=some x) (t:Vl X a σ H (.int j)) (f:-(2 ^ 62)<=j/\j<2 ^ 62) (c:Nat->St->Hp->Prop) (z:c 0 σ H)
  (u:∀i σ H g,i<j.toNat->c i σ H->Tn (c (i+1)) D g->Wp X ss g (σ.set n (some (.int (0+(i:Int))))) H) (C:∀ σ H,c j.toNat σ H->Wp X r D σ H) (h:X.calm=true:=by rfl) (m:vN X.env.scope x:=by first|exact j9 rfl|exact K9 rfl) (o:Gl X "range":=by rfl) (b:starEach [a] X.env=[(false,eval a X.env)]:=by rfl) (l:X.fn x=true\/X.env.scope.names.lookup x=some .local:=by first|exact .inl rfl|exact .inr rfl) (d:∀y,foldedSetIterable (.Call (.Name "range" p1) [a] [] p2) X.env y=pure y:=by intro _;rfl):
  Wp X (.For (.Name x p') (.Call (.Name "range" p1) [a] [] p2) ss [] pos::r) D σ H:=
 {_,aD (eC v h (gC o s eO b h) (aM S hi m l) aS d) aS,(xB t nZ b).to _ {j,rfl,f.1,f.2,iQ c z (λk σ H B p=>u k σ H _ B p {λ_ _ q=>q,λ_ _ q=>q,λ_ _ q=>q}) C}}
def Bx (X:Cx) (NB:List Str) (scope:Scope) (cl:List (Str × Addr)) (e:Expr):TE:=λσ H Q=>∀C s H' fp pn,Ex (X.blkF NB scope cl C s H' fp pn) e σ H Q
def Bt (X:Cx) (NB:List Str) (scope:Scope) (cl:List (Str × Addr)) (e:Expr):TT:=λσ H Q=>∀C s H' fp pn,Tx (X.blkF NB scope cl C s H' fp pn) e σ H Q
section
variable {NB:List Str} {js:List Nat} {scope:Scope} {cl:List (Str × Addr)} {elt:Expr} {Q:VK} {p3:Pos}
def gE {J:It} {α:Type} {tc:TT} {te:TE} {val out:α->V} {pm:α->Bool} {xs:List α} (P:xs.length<=4000) (L:∀G i,aJ H G->i<xs.length->J.go i G) (N:∀G,aJ H G->J.stop xs.length G) (K:∀G i x q,aJ H G->i<xs.length->J.yld i G x q->q=G/\∃z,xs[i]?=some z/\x=val z)
  (g:TG) (E:∀z ∈ xs,∀G,aJ H G->∀R:St->Hp->Prop,(∀d:St,d.drop n=(dQ n js σ).drop n->(∀R:Bool->Hp->Prop,R (pm z) G->tc d G R)->(pm z=true->∀R:VK,(∀s,aJ G s->R (out z) s)->te d G R)->R d G)->g (val z) (dQ n js σ) G R)
  (k:∀a G,aJ H G->G a=some (.lst ((xs.filter pm).map out))->Q (.ref a) G) (a:Addr) (A:H a=none):
  ∃W:Nat->Nat->List V->Hp->Prop,(∃m,W 0 m [] (upd H a (.lst [])))/\∀i m c H,W i m c H->H a=some (.lst c) /\
  ((J.stop i H/\Q (.ref a) H)\/(J.go i H/\∀x t,J.yld i H x t->g x (dQ n js σ) t λd M=>d.drop n=(dQ n js σ).drop n/\tc d M λb u=>
   if b=true then te d u λy B=>B a=some (.lst c)/\c.length<sizeLine/\∃l,l<m/\W (i+1) l (c++[y]) (upd B a (.lst (c++[y])))
   else ∃l,l<m/\W (i+1) l c u)):=by
 let T:sizeLine=16777216:=sizeLine_eq;refine {λi m c G=>m=xs.length-i/\i<=xs.length/\c=((xs.take i).filter pm).map out/\aJ H G/\G a=some (.lst c),{_,rfl,l7 _,rfl,aI A,aB},?_};rintro i m c G ⟨rfl,S,rfl,h,j⟩;refine {j,?_};by_cases f:i<xs.length
 ·refine .inr {L G i h f,λx q F=>?_};let (rfl,z,C,rfl):=K _ _ _ _ h f F;let v:xs.take (i+1)=xs.take i++[z]:=by rw [A6,C];rfl
  let U:(((xs.take i).filter pm).map out).length<=i:=by
   rw [i6];exact u8 (C1 _ _) (by rw [t9];omega)
  refine E z (j8 C) _ h _ λd e I O=>{e,I _ ?_};by_cases p:pm z=true
  ·rw [if_pos p];refine O p _ λs w=>{w _ _ j,∎,xs.length-(i+1),∎,rfl,f,?_,λb o e=>?_,aB}
   ·rw [v,J0,u7];simp [p]
   ·rw [aE (aF e A)];exact w _ _ (h _ _ e)
  ·rw [if_neg p];refine {xs.length-(i+1),∎,rfl,f,?_,h,j};rw [v,J0,u7];simp [p]
 let e:i=xs.length:=∎;subst e;rw [List.take_length] at j;exact .inl {N _ h,k _ _ h j}
def Cm {j:Int} {a:Expr} {out:Nat->V} (F:scope.kind=.function) (l:∀x ∈ scope.names,x.2≠.cell) (b:∀x ∈ scope.names,x.2=.local->scope.names.lookup x.1=some .local) (T:fA X NB 1 js scope cl) (P:X.mg "range"=none) (S:Vl X a σ H (.int j)) (Y:0<=j/\j<=4000) (W:NB.Nodup) (hi:NB[0]?=some x)
  (w:∀i,i<j.toNat->∀G,aJ H G->∀R:VK,(∀t,aJ G t->R (out i) t)->Bx X NB scope cl elt ((dQ 1 js σ).set 0 (some (.int (0+(i:Int))))) G R) (k:∀c G,aJ H G->G c=some (.lst ((List.range j.toNat).map out))->Q (.ref c) G)
  (O:∀C s o d f,vN (X.blkF NB scope cl C s o d f).env.scope x:=by exact λ_ _ _ _ _=>j9 rfl) (N:∀C s o d f,(X.blkF NB scope cl C s o d f).env.scope.names.lookup x=some .local:=by exact λ_ _ _ _ _=>rfl) (B:Gl X "range":=by rfl) (m:starEach [a] X.env=[(false,eval a X.env)]:=by rfl) (v:X.calm=true:=by rfl) (p:∀y,foldedSetIterable (.Call (.Name "range" p1) [a] [] p2) X.env y=pure y:=by intro _;rfl):
  Ex X (.ListComp elt [{.Name x p',.Call (.Name "range" p1) [a] [] p2,[],0}] scope p3) σ H Q:=by
 refine {_,dL (g:=cS 0) (te:=Bx X NB scope cl elt) F l b rfl T (gC B P eO m v) (λC s H d f=>aM W hi (O C s H d f) (.inr (N C s H d f))) (λ_ _ _ _ _=>dZ) (λC s o d f _ K A L J I h=>aP K A L J I (h C s o d f)) p,(xB S nZ m).to _ {j,rfl,∎,∎,?_}};refine gE (xs:=List.range j.toNat) (pm:=λ_=>true) (out:=out) (val:=λi:Nat=>.int (0+(i:Int))) (by rw [v6];omega) (λG i _ hi=>by rw [v6] at hi;exact hi) (λG _=>by rw [v6];exact i7 _)
  (λG i x Z _ u E=>?_) _ (λz U G M R h=>h _ rfl (λ_ h=>h) λ_ R q=>w z (D9.mp U) G M R q) λc G s e=>k c G s (by rw [e,F6.mpr λ_ _=>rfl])
 let (rfl,rfl):=E;exact {rfl,i,by rw [v6] at u;rw [O2 u],rfl}
end
end
section
variable {X:Cx} {σ:St} {H:Hp} {D:eM} {r ss:List Stmt} {pos p' p1 p2 p3:Pos} {e a b o:Expr} {x:Str} {n:Nat} {i j:Int} {v w:V} {l:Addr} {xs:List V} {c d:Bool}
def EL (h:Vl X a σ H (.int i)) (g:Vl X b σ H (.int j)) (z:IM i j):Vl X (.BinOp a .Pow b pos) σ H (.int (i ^ j.toNat)):={λ_ q=>{_,bO BK aP aP,h.to _ (g.to _ {_,_,rfl,rfl,z,q})}}
def ER (h:Vl X a σ H (.ref l)) (z:H l=some (.lst xs)) (g:X.mg "len"=none) (k:Gl X "len") (f:starEach [a] X.env=[(false,eval a X.env)]) (m:(backTo pos (starEach [] X.env)).any (·.1)=false):Vl X (.Call (.Name "len" p1) [a] [] pos) σ H (.int xs.length):=
 {λ_ q=>{_,aY cF k g PySem.boot_len (aA aP aC f) 7#0 7#0 f m,h.to _ {_,_,rfl,.inl (cM.of z),q}}}
def oV (h:Tv X a σ H c) (g:c=true->Tv X b σ H d):Tv X (.BoolOp .And [a,b] pos) σ H (c && d):={λ_ q=>{_,PW.pt (lT mU (iW mU)),h.to _ (by cases c;exact dE q;exact dD ((g rfl).to _ q))}}
def uF (f:Vl X o σ H (.ref l)) (g:Vl X e σ H v) (z:H l=some (.lst xs)) (h:xs.length<sizeLine) (k:Wp X r D σ (upd H l (.lst (xs++[v])))) (m:swapsWith (.Call (.Attribute o "append" p1) [e] [] p2) none pos.line X.env=pure false)
  (M:PE X (.Call (.Attribute o "append" p1) [e] [] p2) (JB X.K "list" wK (Ex X o) (iE (Ex X e) mJ))):Wp X (.Expr (.Call (.Attribute o "append" p1) [e] [] p2) pos::r) D σ H:=
 {_,aD (eI M m) aS,f.to _ {.inl {rfl,_,cM.of z},g.to _ {l,_,_,rfl,rfl,z,h,k}}}
def qY (S:X.N.Nodup) (hi:X.N[n]?=some x) (h:Av X g σ H vs) (t:vs.length<=1000) (k:∀l f,H l=none->aJ H f->f l=some (.lst vs)->Wp X r D (σ.set n (some (.ref l))) f) (s:vN X.env.scope x:=by first|exact j9 rfl|exact K9 rfl) (u:swapsWith (.List g p1) (some (.Name x p')) pos.line X.env=pure false:=by rfl) (q:X.fn x=true\/X.env.scope.names.lookup x=some .local:=by first|exact .inl rfl|exact .inr rfl):
  Wp X (.Assign [.Name x p'] (.List g p1) pos::r) D σ H:=cU S hi {_,dU eO,h.to _ {E5 (iF t),λp m=>k p _ m (aI m) aB}} s u q
def Ze (h:Vl X a σ H (.ref l)) (z:H l=some (.tup xs)) (g:X.mg "len"=none) (k:Gl X "len") (f:starEach [a] X.env=[(false,eval a X.env)]) (m:(backTo pos (starEach [] X.env)).any (·.1)=false):Vl X (.Call (.Name "len" p1) [a] [] pos) σ H (.int xs.length):=
 {λ_ q=>{_,aY cF k g PySem.boot_len (aA aP aC f) 7#0 7#0 f m,h.to _ {_,_,rfl,.inr (cG.of z),q}}}
def Dj (F:PassesOwn 4#0 X.A X.env X.xe) (E:PG X m g) (B:Vl X e σ H (.ref l)) (z:H l=some (.tup xs)) (f:Nat->St->Hp->Prop) (G:f 0 σ H) (J:∀i σ H,i<=xs.length->f i σ H->H l=some (.tup xs))
  (C:∀i x σ H h,xs[i]?=some x->f i σ H->Tn (f (i+1)) D h->g x σ H (Wp X ss h)) (I:∀ σ H,f xs.length σ H->Wp X r D σ H) (k:X.calm=true:=by rfl) (s:∀y,foldedSetIterable e X.env y=pure y:=by intro _;rfl):Wp X (.For m e ss [] pos::r) D σ H:=
 {_,aD (eC F k (lU aP k) E aS s) aS,B.to _ {l,rfl,{_,cG.of z},nQ (xs:=xs) f G (λi σ H u p=>cG.of (J i σ H u p)) (λi x σ H t p=>C i x σ H _ t p {λ_ _ q=>q,λ_ _ q=>q,λ_ _ q=>q}) I}}
def Ah (f:σ[n]?=some (some (.int i))) (h:Vl X e σ H (.int j)) (S:X.N.Nodup) (hi:X.N[n]?=some x) (m:vN X.env.scope x) (g:X.fn x=true\/X.env.scope.names.lookup x=some .local) (k:Wp X r D (σ.set n (some (.int (i+j)))) H):Wp X (.AugAssign (.Name x p') .Add e pos::r) D σ H:=
 {_,aD (BB S hi m aP CD g) aS,_,f,h.to _ {_,_,rfl,rfl,k}}
def mF (y:Vl X o σ H (.ref l)) (q:Av X f σ H vs) (z:H l=some (.lst h)) (B:h.length<=4000) (A:vs.length<=1000) (k:∀t g,H t=none->(∀b u,H b=some u->b≠l->g b=some u)->g l=some (.lst (h++[.ref t]))->g t=some (.tup vs)->Wp X r D σ g) (s:swapsWith (.Call (.Attribute o "append" p1) [.Tuple f k0 p3] [] p2) none pos.line X.env=pure false)
  (M:PE X (.Call (.Attribute o "append" p1) [.Tuple f k0 p3] [] p2) (JB X.K "list" wK (Ex X o) (iE (Zm (Ax X f)) mJ))):Wp X (.Expr (.Call (.Attribute o "append" p1) [.Tuple f k0 p3] [] p2) pos::r) D σ H:=
 {_,aD (eI M s) aS,y.to _ {.inl {rfl,_,cM.of z},q.to _ ⟨E5 (iF A),λt m=>by
  have p:l≠t:=aF z m
  refine {l,_,_,rfl,rfl,by rw [aE p];exact z,by rw [sizeLine_eq];omega,k t _ m (λb u e n=>?_) aB ?_}
  ·rw [aE n,aE (aF e m)];exact e
  ·rw [aE p.symm];exact aB⟩}}
def Ex.mono (h:Ex X e σ H Q) (k:∀v H,Q v H->g v H):Ex X e σ H g:=by
 let (t,p,h):=h;exact⟨λy z u=>∃f:VK,(∀v H,f v H->u v H)/\t y z f,λ_ s σ H Q I ⟨f,m,h⟩=>fY (p s σ H f I h) λv s ⟨x,H,I,r,q⟩=>{x,H,I,r,m _ _ q},Q,k,h⟩
inductive MN (X:Cx) (n:Nat) (ss r:List Stmt) (D:eM) (σ:St) (v:V) (H:Hp):Prop|mk (j:Int) (Pv:Nat->St->Hp->Prop) (_:v=.int j) (_:-(2 ^ 62)<=j/\j<2 ^ 62) (_:Pv 0 σ H) (_:∀i σ H D',i<j.toNat->Pv i σ H->Tn (Pv (i+1)) D D'->Wp X ss D' (σ.set n (some (.int (0+(i:Int))))) H) (_:∀ σ H,Pv j.toNat σ H->Wp X r D σ H)
def Gn (F:PassesOwn 4#0 X.A X.env X.xe) (B:X.mg "range"=none) (S:X.N.Nodup) (hi:X.N[n]?=some x) (h:Ex X a σ H (MN X n ss r D σ)) (s:X.calm=true:=by rfl) (u:vN X.env.scope x:=by first|exact j9 rfl|exact K9 rfl) (z:Gl X "range":=by rfl) (f:starEach [a] X.env=[(false,eval a X.env)]:=by rfl) (t:X.fn x=true\/X.env.scope.names.lookup x=some .local:=by first|exact .inl rfl|exact .inr rfl) (g:∀y,foldedSetIterable (.Call (.Name "range" p1) [a] [] p2) X.env y=pure y:=by intro _;rfl):
  Wp X (.For (.Name x p') (.Call (.Name "range" p1) [a] [] p2) ss [] pos::r) D σ H:=
 ⟨_,aD (eC F s (gC z B (aA aP aC f) f s) (aM S hi u t) aS g) aS,h.mono λv K q=>by
  let (j,E,rfl,m,G,C,J):=q
  exact {j,rfl,m.1,m.2,iQ E G (λk σ H I p=>C k σ H _ I p {λ_ _ q=>q,λ_ _ q=>q,λ_ _ q=>q}) J}⟩
def CZ (f:Vl X a σ H (.int i)) (h:Ex X b σ H λw g=>∃j:Int,w=.int j/\0<j/\Q (.int (i % j)) g):Ex X (.BinOp a .Mod b pos) σ H Q:={_,bO oH aP aP,f.to _ (h.mono λ_ _ ⟨j,e,z,q⟩=>{(i),j,rfl,e,z,q})}
def gX (q:Av X h σ H vs) (t:vs.length<=1000) (m:∀f,aJ H f->Vl X b σ f (.int i)) (z:nY vs i=some v) (k:∀f,aJ H f->Q v f) (s:qU b:=by exact λ_ _=>rfl):Ex X (.Subscript (.List h p1) b pos) σ H Q:=
 {_,bY fJ (dU eO) aP s,q.to _ {E5 (iF t),λp g=>(m _ (aI g)).to _ {_,_,_,_,rfl,rfl,cM.of aB,z,k _ (aI g)}}}
def wY (h:Ex X a σ H λv g=>∃i:Int,v=.int i/\Ex X b σ g λw f=>∃j:Int,w=.int j/\Q (.int (i+j)) f):Ex X (.BinOp a .Add b pos) σ H Q:={_,bO dW aP aP,h.mono λ_ _ ⟨i,e,h⟩=>h.mono λ_ _ ⟨j,e',q⟩=>{(i),j,e,e',q}}
def CY (h:Ex X a σ H λv g=>∃i:Int,v=.int i/\Ex X b σ g λw f=>∃j:Int,w=.int j/\Q (.int (i-j)) f):Ex X (.BinOp a .Sub b pos) σ H Q:={_,bO jR aP aP,h.mono λ_ _ ⟨i,e,h⟩=>h.mono λ_ _ ⟨j,e',q⟩=>{(i),j,e,e',q}}
end
end L2
namespace Hd
open PySem PyProof.Rows
section
variable {M:Model} {A:Around} {E:Value->Shared->Prop} {s:Shared}
end
end Hd
namespace L2
open PySem PySem.Spec PyProof.Rows
section
variable {P:Program} {w:World} {K:PySem.W.Frag} {mg:Str->Option Value} {base:Heap} {N:List Str} {qual:Str} {scope:Scope} {f:Addr} {cd:Value} {A:Around} {outer:List Env} {s₀:Shared} {H₀:Hp} {E:XK}
end
section
variable {X:Cx} {NB:List Str} {n:Nat} {js:List Nat} {scope:Scope} {cl:List (Str × Addr)}
end
def qW.okE {P:Program} {w:World} {K:PySem.W.Frag} {mg:Str->Option Value} {base:Heap} {x a:Str} {st:Stmt} {f:Addr} {g:FuncData} {N ps:List Str} {k:Nat} {sp:Sp} (F:qW K x a st f g) (S:aK N ps (aG st)) (d:∀vs H Q E,sp vs H Q E->vs.length=ps.length)
  (b:∀(cdv:Value) (A:Around) (outer:List Env) (s:Shared) (H:Hp) (vs:List V) (Q:VK) (E:XK),Room k (A.deeper (envOfC a (aG st) s.heap.objs.size f cdv))->sp vs H Q E ->
   ∃t,pJ (hU (fS P w) P w K mg base N a (aG st) f cdv A outer s H E) (bG st) t/\t { nx:=λ_ i=>Q .non i,rt:=Q } (dB N vs) H):bH P w K mg base (fS P w) (k+1) f g ps sp:=by
 let (q,p,kV,l,n,o,cdv,r,j,rfl,m,e):=F.ex;exact Qe m e S d λA outer s H vs Q E h c=>b cdv A outer s H vs Q E h c
def zC {K:PySem.W.Frag} {a:Addr} {d:Int} {xs:List V} {g:TG} {tb:TS} {D:eM} {σ:St} {H:Hp} (b:Nat->St->Hp->Prop) (w:b 0 σ H) (s:∀i σ H,i<=xs.length->b i σ H->cG K H a xs)
  (u:∀i x σ H t,xs[i]?=some x->b i σ H->H t=none->g (.ref t) σ (upd H t (.tup [.int (d+i),x])) λk j=>tb { D with nx:=b (i+1),ct:=b (i+1),bk:=D.nx } k j) (z:∀ σ H,b xs.length σ H->D.nx σ H):
  ∃W:Nat->Nat->St->Hp->Prop,(∃m,W 0 m σ H)/\∀i m σ H,W i m σ H ->
   ((IH K a d).stop i H/\D.nx σ H)\/((IH K a d).go i H/\∃N:St->Hp->Prop,(∀h c,N h c->∃l,l<m/\W (i+1) l h c)/\∀x c,(IH K a d).yld i H x c->g x σ c λk j=>tb { D with nx:=N,ct:=N,bk:=D.nx } k j):=by
 refine {λi m σ H=>m=xs.length-i/\i<=xs.length/\b i σ H,{xs.length,by simp,l7 _,w},?_};rintro i m σ H ⟨rfl,r,p⟩;let q:=s i σ H r p;by_cases f:i<xs.length
 ·refine .inr {{xs,xs[i],q,by simp [f]},b (i+1),λh c o=>{xs.length-(i+1),∎,rfl,f,o},λx c y=>?_};let (t,v,n,rfl,rfl,y):=y;exact u i v σ _ t (y xs q) p n
 ·let e:i=xs.length:=∎;subst e;exact .inl {{xs,q,i7 _},z σ H p}
end L2
namespace L2
open PySem PySem.Spec PyProof.Rows PySem.W
section
variable {X:Cx}
def AX (H0:Hp) (t:TS):TS:=λD σ H=>t { D with nx:=λσ1 H1=>∃a o kvs,H1 a=some (.frz o (.dK kvs))/\(∀o v,H0 a≠some (.frz o v))/\D.nx σ1 (upd H1 a (.dK kvs)),rt:=λv H1=>∃a o kvs,H1 a=some (.frz o (.dK kvs))/\(∀o v,H0 a≠some (.frz o v))/\D.rt v (upd H1 a (.dK kvs)) } σ H
def yG {st:Stmt} {t:TS} (h:PS X st t):PS X st (AX X.H₀ t):=λj s σ H D I q=>fY (h s σ H _ I q) λf l z=>by
 cases f with
 | next=>
  let (c,k,g,a,o,b,d,e,i):=z
  exact {c,_,g.thaw d e,i}
 | ret u=>
  let (v,c,k,g,r,a,o,b,d,e,i):=z
  exact {v,c,_,g.thaw d e,r,i}
 | brk=>exact z
 | cont=>exact z
end
section
variable {prog:Program} {w:World} {A:Around} {E:Value->Shared->Prop} {s:Shared}
section
end
section
variable {X:Cx}
end
def Sj (q:A.handled=some (.ref h)) (u:Hd.NoCtx h s.heap) (c:IsTup s.heap t a)
  (v:∀g,Heap.ExtBut s.heap.objs.size s.heap g->Q a.toList { s with heap:=g }):wpAny 8#0 A (unpackItems (.ref t) a.size none) Q E s:=by
 let (r,n,f,y):=id u;let j:t≠s.heap.objs.size:=by let (o,x,_):=c;exact q5 (j6 x)
 let i:h≠s.heap.objs.size:=q5 (j6 f);unfold unpackItems notIterableAtAll;refine g7 (g7 (wpAny_specialOf c.typeIs slot_tuple_iter.lookup (j3 ?_)));rw [if_neg 6#0];refine g7 (y4 (iter_tuple c (g7 (y4 (draw_tuple j a.size 0 _ _ {_,n9 _ rfl,rfl,rfl} (c.push _) ∎ λz m d=>?_)))));rw [P5,w5 6#0,if_neg 6#0];refine g7 (y4 (Hd.tup_endH q m ((c.push _).extBut d.extBut j) 6#0 {r,n,d.extBut _ _ i (i8 _ f),y} i λp l=>?_));exact j3 (v p λb o k e=>l b o k (d.extBut b o k (i8 _ e)))
def Wo (f:A.handled=some (.ref h)) (i:Hd.NoCtx h s.heap) (d:IsTup s.heap t a)
  (e:(assignEach b env).length=a.size) (c:(assignEach b env).findIdx? (·.1)=none)
  (q:∀g,Heap.ExtBut s.heap.objs.size s.heap g->wpAny 8#0 A (assignInOrder ((assignEach b env).map (·.2)) a.toList) Q E { s with heap:=g }):
  wpAny 8#0 A (assign (.Tuple b x1 pos) env (.ref t)) Q E s:=by
 rw [assign_Tuple];refine g7 (N5 ?_);unfold unpack;rw [e,c];exact g7 (y4 (Sj f i d q))
section
variable {X:Cx} {pos:Pos}
def Yw (K:Frag) (h C:Addr) (n:Nat) (t:DK):TG:=λv σ H Q=>H h=some (lY h C)/\Vv K n t v σ H Q
def pY (j:X.A.handled=some (.ref h)) (x:IE X d t)
  (L:(assignEach d X.env).length=n:=by rfl) (g:(assignEach d X.env).findIdx? (·.1)=none:=by rfl):PG X (.Tuple d k pos) (Yw X.K h C n t):=by
 intro c s σ H v u Q I r f;let (l,a,D,F,p,z,f):=f;subst F;cases r;let ((_,m),_,_):=I.hok h _ l;let (q,i,y,M):=I.tuple p;refine Wo j m y (by simp [L,<- z,i.length]) g λB G=>?_;let J:aW X c σ H { s with heap:=B }:=I.kept (t':=s.toks) λb o e=>G b o (q5 (j6 e)) e;exact x _ σ H D _ Q J (by simpa using i) f
end
end
end L2
namespace L2
open PySem PySem.Spec PyProof.Rows
def Ac (K:PySem.W.Frag) (h C a:Addr):It:=⟨(De K a).go,(De K a).yld,λi H=>H h=some (lY h C)/\(De K a).stop i H⟩
def Al {P:Program} {l:Option Value} {w:World} {K:PySem.W.Frag} {tg:Expr} (a it h C:Addr) (e0:l=some (.ref h)):xD P w K l tg (Ac K h C a) [it] it (λi h=>h.IsListIter it a i) where
 mem:=by simp
 obj:=λi h f b j=>by
  let e:b=it:=by simpa using j
  subst e
  let (o,e,c,d):=f
  exact {o,e,λv z=>by rw [d] at z;cases z}
 keep:=λi h r f k=>f.at λo e=>k it 6#0 o e
 item:=by
  intro X J y O Q i g s σ H E I t f G;subst J y O;let (xs,x,n,N):=G;let (D,B,p,hz):=I.list n;let (u,Z,ru):=B.get N;let (q,M,f2,L,f4,F):=t it 6#0;refine wpAny_pyNext_list_item f p.isList (x:=u) (by simpa using Z) λr m Y=>?_;let S:aW X g σ H { s with heap:=r }:=I.turned (t':=s.toks) (λb o j e=>(Y.2 b j).trans e) q M L f4 F;let (o,e,c,d):=id m;exact {u,rfl,sS (s:={ s with heap:=r }) e c d 7#0 {x,H,S,ru,{rfl,λys U=>by rw [I.list_inj U n];exact N},m,λb j=>(t b j).1}}
 done:=by
  intro X J y O Q i g s σ H E I t f G;subst J y O;let (A,xs,n,N):=G;let (D,B,p,hz):=I.list n;let (q,M,f2,L,f4,F):=t it 6#0;let hl:=B.length;let ((_,T),_,_):=I.hok h _ A;exact Hd.next_endH (Q.trans e0) f p.isList (by simp;omega) T (λz=>by rw [z,q] at A;cases A) λr eb=>{rfl,I.turned (t':=s.toks) (λb o j e=>eb b o j e) q M L f4 F}
 self:=λ_ _ _ _ _ f h=>wpAny_pyIter_listiter f h
section
variable {X:Cx} {tg:Expr}
def pV (M:PassesOwn 4#0 X.A X.env X.xe) (hi:PI X tg q wi) (hg:PG X tg g) (p:pJ X B tb)
  (hs:∀x,foldedSetIterable q X.env x=pure x:=by intro _;rfl):PS X (.For tg q B [] pos) (FJ wi g tb):=by
 intro a s σ H D I h;refine wpAny_For (fY (hi s σ H _ I h) λv s1 h1=>fY h1 λa3 s2 h2=>?_) hs;let (it,G,tn,J,H2,e,I2,T,a0,f2,W,(m0,w0),K):=h2;subst e;let t:∀{z:Hp},(∀b ∈ G,z b=none)->∀b ∈ G,mC X a z b:=λhn b p=>{hn b p,(f2 b p).2};refine codeAny_forLoop_any (λn s'=>∃i U z,aW X a U z s'/\tn i s'.heap/\(∀b ∈ G,z b=none)/\W i n U z) ?_ m0 {0,σ,H2,I2,a0,λb p=>(f2 b p).1,w0};rintro n s3 ⟨i,Q,Y,I3,F,L,w3⟩;rcases K i n Q Y w3 with ⟨O,qn⟩|⟨go,N,hN,P⟩
 ·refine C3 M (fY (T.done X rfl rfl rfl rfl i a s3 Q Y X.xe I3 (t L) F O) λr s4 c=>?_);let (hr,I4):=c;subst hr;exact K8 {(Q),Y,I4,qn}
 ·refine C3 M (fY (T.item X rfl rfl rfl rfl i a s3 Q Y X.xe I3 (t L) F go) λr s4 c=>?_);let (u,hr,h4):=c;subst hr;refine C3 M (fY h4 λ_ s5 c=>?_);let (x,H5,I5,r5,y5,E,a2):=c;let a1:=I5.pinned (t a2) (T.obj _ _ E);refine C3 M (fY (hg s5 Q H5 x u _ a1 r5 (P x H5 y5)) λ_ s6 c=>?_);let (σ6,H6,I6,q6):=c;refine C3 M (fY (p s6 σ6 H6 _ I6 q6) λf Z C=>?_);let l:∀{k:St} {j:Hp},aW X (a++gH G s5.heap) k j Z->N k j->∃m,m<n/\∃i U z,aW X a U z Z/\tn i Z.heap/\(∀b ∈ G,z b=none)/\W i m U z:=λ{k j} y S=>by
   let (m',hm,w7):=hN k j S;refine {m',hm,i+1,k,j,y.unpinned,T.keep _ _ _ E λb p o e=>(y.pin (b,o) (k7 _ (k7 _ (eE p e)))).1,λb p=>?_,w7};let (o,e,d):=T.obj _ _ E b p;exact(y.pin (b,o) (k7 _ (k7 _ (eE p e)))).2.1
  cases f with
  | next=>let (k,j,y,S):=C;exact l y S
  | cont=>let (k,j,y,S):=C;exact l y S
  | brk=>let (k,j,y,C):=C;exact {(k),j,y.unpinned,C}
  | ret v=>let (x7,k,j,y,r7,C):=C;exact {(x7),k,j,y.unpinned,r7,C}
def CF (K:PySem.W.Frag) (h C:Addr) (tl:TE):TI:=λσ H R=>tl σ H λx H1=>∃a,x=.ref a/\(∃xs,cM K H1 a xs)/\R (Ac K h C a) H1
def mV {h C:Addr} {l:Expr} {f:TE} (j:X.A.handled=some (.ref h)) (n:PE X l f):PI X tg l (CF X.K h C f):=by
 intro g s σ H R I q;refine eN (n s σ H _ I q) λv c x u d r m=>?_;let (a,e,(w,t),q):=m;subst e;cases r;let (i,z,p,y):=d.list t;refine P7 p.isList ?_;refine {c.heap.objs.size,[c.heap.objs.size],_,_,u,rfl,d.kept (t':=c.toks) λb o e=>i8 _ e,Al a _ h C j,{_,n9 _ rfl,rfl,rfl},λb k=>?_,q};let e:b=c.heap.objs.size:=by simpa using k
 subst e;exact d.fpOk (i7 _) (d.hok.fresh (i7 _))
end
def Io {K:PySem.W.Frag} {a h C:Addr} {xs:List V} {g:TG} {tb:TS} {D:eM} {σ:St} {H:Hp} (b:Nat->St->Hp->Prop) (u:b 0 σ H) (s:∀i σ H,i<=xs.length->b i σ H->cM K H a xs/\H h=some (lY h C))
  (t:∀i x σ H,xs[i]?=some x->b i σ H->g x σ H λk j=>tb { D with nx:=b (i+1),ct:=b (i+1),bk:=D.nx } k j) (v:∀ σ H,b xs.length σ H->D.nx σ H):
  ∃W:Nat->Nat->St->Hp->Prop,(∃m,W 0 m σ H)/\∀i m σ H,W i m σ H ->
   ((Ac K h C a).stop i H/\D.nx σ H)\/((Ac K h C a).go i H/\∃N:St->Hp->Prop,(∀f c,N f c->∃l,l<m/\W (i+1) l f c)/\∀x c,(Ac K h C a).yld i H x c->g x σ c λk j=>tb { D with nx:=N,ct:=N,bk:=D.nx } k j):=by
 refine {λi m σ H=>m=xs.length-i/\i<=xs.length/\b i σ H,{xs.length,by simp,l7 _,u},?_};rintro i m σ H ⟨rfl,o,p⟩;let (q,r):=s i σ H o p;by_cases d:i<xs.length
 ·refine .inr {{xs,xs[i],q,by simp [d]},b (i+1),λf c n=>{xs.length-(i+1),∎,rfl,d,n},λx c y=>?_};let (e,y):=y;subst e;exact t i x σ _ (y xs q) p
 ·let e:i=xs.length:=∎;subst e;exact .inl {{r,xs,q,i7 _},v σ H p}
def fA.of {X:Cx} {NB:List Str} {n:Nat} {js:List Nat} {scope:Scope} {cl:List (Str × Addr)} (clo:closureFor scope X.env=pure cl) (hsub:∀p ∈ cl,X.env.cells.lookup p.1=some p.2)
  (hhas:∀p ∈ (relabel scope X.env).names,(p.2=.cell\/p.2=.free)->(cl.lookup p.1).isSome=true) (len:NB.length=n+js.length) (nam:∀k j,js[k]?=some j->NB[n+k]?=X.N[j]?)
  (ck:∀x ∈ NB.drop n,((relabel scope X.env).names.lookup x=some .cell\/(relabel scope X.env).names.lookup x=some .free)/\(X.env.kindOf x=some .cell\/X.env.kindOf x=some .free)/\(cl.lookup x).isSome=true):fA X NB n js scope cl:=
 {clo,λx c q=>hsub (x,c) (PySem.mem_of_lookup q),λx q=>q.elim (λz=>hhas (x,_) (PySem.mem_of_lookup z) (.inl rfl)) λz=>hhas (x,_) (PySem.mem_of_lookup z) (.inr rfl),len,nam,λx _ hx=>ck x hx}
def bJ {α:Type} {P:α->Prop}:∀x ∈ ([]:List α),P x:=λx a=>absurd a 6#0
def all_cons {α:Type} {P:α->Prop} {a:α} {l:List α} (h:P a) (t:∀x ∈ l,P x):∀x ∈ a::l,P x:=λx hx=>by
 rcases i9.mp hx with rfl|hx
 ·exact h
 ·exact t x hx
end L2
namespace L2
open PySem PySem.Spec PyProof.Rows PySem.W
def HQ (X:Cx) (NB:List Str) (n:Nat) (js:List Nat) (scope:Scope) (cl:List (Str × Addr)):Bool:=
 decide (scope.kind=.function) && scope.names.all (λx=>decide (x.2≠.cell) && (decide (x.2≠.local) || decide (scope.names.lookup x.1=some .local))) && (relabel scope X.env).names.all (λp=>!(decide (p.2=.cell) || decide (p.2=.free)) || (cl.lookup p.1).isSome) && decide (NB.length=n+js.length) &&
 (NB.drop n).all (λx=>(decide ((relabel scope X.env).names.lookup x=some .cell) || decide ((relabel scope X.env).names.lookup x=some .free)) && (decide (X.env.kindOf x=some .cell) || decide (X.env.kindOf x=some .free)) && (cl.lookup x).isSome) && decide NB.Nodup
structure pP (X:Cx) (NB:List Str) (n:Nat) (js:List Nat) (scope:Scope) (cl:List (Str × Addr)):Prop where
 b:HQ X NB n js scope cl=true
 clo:closureFor scope X.env=pure cl
 ce:cl.map (λp=>X.env.cells.lookup p.1)=cl.map λp=>some p.2
 nm:js.map (λj=>X.N[j]?)=(NB.drop n).map some
section
variable {X:Cx} {NB:List Str} {n:Nat} {js:List Nat} {scope:Scope} {cl:List (Str × Addr)}
def pP.all (c:pP X NB n js scope cl):scope.kind=.function/\(∀x ∈ scope.names,x.2≠.cell)/\(∀x ∈ scope.names,x.2=.local->scope.names.lookup x.1=some .local)/\fA X NB n js scope cl/\NB.Nodup:=by
 let b:=c.b;unfold HQ at b;simp only [C6,decide_eq_true_eq,N3,Bool.or_eq_true,J8,Bool.or_eq_false_iff,decide_eq_false_iff_not] at b;let (((((b1,b2),b3),b4),b5),b6):=b;refine {b1,λx hx=>(b2 x hx).1,λx hx e=>(b2 x hx).2.resolve_left λz=>z e,fA.of c.clo (λp hp=>?_) (λp hp h=>?_) b4 (λk j h=>?_) λx hx=>?_,b6}
 ·let (i,hi):=List.getElem?_of_mem hp;have:=congrArg (λl:List (Option Addr)=>l[i]?) c.ce;simp only [j7,hi,Option.map_some,Option.some.injEq] at this;exact this
 ·rcases b3 p hp with z|z
  ·rcases h with h|h
   ·exact absurd h z.1
   ·exact absurd h z.2
  ·exact z
 ·have:=congrArg (λl:List (Option Str)=>l[k]?) c.nm;simp only [j7,h,Option.map_some,v9] at this;cases e:NB[n+k]? with
  | none=>rw [e] at this;cases this
  | some y=>rw [e] at this;exact(Option.some.inj this).symm
 ·let ((a,d),f):=b5 x hx;exact {(a),d,f}
end
section
variable {X:Cx} {σ:St} {H:Hp} {pos p' p1 p2 p3:Pos} {x:Str} {NB:List Str} {js:List Nat} {scope:Scope} {cl:List (Str × Addr)} {elt e c:Expr} {Q:VK} {la:Addr} {α:Type} {val out:α->V} {pm:α->Bool} {zs:List α}
def tG (C:pP X NB 1 js scope cl) (hi:NB[0]?=some x) (Z:Vl X e σ H (.ref la)) (z:H la=some (.lst (zs.map val))) (P:zs.length<=4000)
  (W:∀z ∈ zs,∀G,aJ H G->∀C s d a b,Tv (X.blkF NB scope cl C s d a b) c ((dQ 1 js σ).set 0 (some (val z))) G (pm z)) (N:∀z ∈ zs,pm z=true->∀G,aJ H G->∀C s d a b,Vl (X.blkF NB scope cl C s d a b) elt ((dQ 1 js σ).set 0 (some (val z))) G (out z))
  (k:∀l G,aJ H G->G l=some (.lst ((zs.filter pm).map out))->Q (.ref l) G)
  (hx:∀C s d a b,vN (X.blkF NB scope cl C s d a b).env.scope x:=by exact λ_ _ _ _ _=>j9 rfl) (hf:∀C s d a b,(X.blkF NB scope cl C s d a b).env.scope.names.lookup x=some .local:=by exact λ_ _ _ _ _=>rfl) (M:X.calm=true:=by rfl) (t:∀y,foldedSetIterable e X.env y=pure y:=by intro _;rfl):
  Ex X (.ListComp elt [{.Name x p',e,[c],0}] scope p3) σ H Q:=by
 let (U,c2,L,O,c5):=C.all;refine {_,dL (g:=cS 0) (tc:=Bt X NB scope cl c) (te:=Bx X NB scope cl elt) U c2 L rfl O (eZ aP M) (λC s H a b=>aM c5 hi (hx C s H a b) (.inr (hf C s H a b))) (λC s d a b=>kQ λ_ A u B w I h=>mU A u B w I (h C s d a b)) (λC s d a b _ A u B w I h=>aP A u B w I (h C s d a b)) t,Z.to _ {la,rfl,{_,cM.of z},?_}};let (f1,f2,Y):=iO (K:=X.K) z;exact gE P f1 f2 (λG i x S s _ y=>Y G i x S s y) _ (λz J G F R h=>h _ rfl (λR q C s d a b=>(W z J G F C s d a b).to _ q) λT R q C s d a b=>(N z J T G F C s d a b).to _ (q _ (aJ.refl _))) k
def Co (C:pP X NB 1 js scope cl) (hi:NB[0]?=some x) (S:Vl X e σ H (.ref la)) (z:H la=some (.lst (zs.map val))) (J:zs.length<=4000)
  (A:∀z ∈ zs,∀G,aJ H G->∀C s d a b,Vl (X.blkF NB scope cl C s d a b) elt ((dQ 1 js σ).set 0 (some (val z))) G (out z))
  (k:∀l G,aJ H G->G l=some (.lst (zs.map out))->Q (.ref l) G)
  (hx:∀C s d a b,vN (X.blkF NB scope cl C s d a b).env.scope x:=by exact λ_ _ _ _ _=>j9 rfl) (hf:∀C s d a b,(X.blkF NB scope cl C s d a b).env.scope.names.lookup x=some .local:=by exact λ_ _ _ _ _=>rfl) (w:X.calm=true:=by rfl) (t:∀y,foldedSetIterable e X.env y=pure y:=by intro _;rfl):
  Ex X (.ListComp elt [{.Name x p',e,[],0}] scope p3) σ H Q:=by
 let (N,W,u,B,Y):=C.all;refine {_,dL (g:=cS 0) (te:=Bx X NB scope cl elt) N W u rfl B (eZ aP w) (λC s H a b=>aM Y hi (hx C s H a b) (.inr (hf C s H a b))) (λ_ _ _ _ _=>dZ) (λC s d a b _ O F T M I h=>aP O F T M I (h C s d a b)) t,S.to _ {la,rfl,{_,cM.of z},?_}};let (U,f2,P):=iO (K:=X.K) z;exact gE (pm:=λ_=>true) J U f2 (λG i x L s _ y=>P G i x L s y) _ (λz hz G Z R h=>h _ rfl (λR q=>q) λhp R q C s d a b=>(A z hz G Z C s d a b).to _ (q _ (aJ.refl _))) λl G s e=>k l G s (by rw [e,F6.mpr λ_ _=>rfl])
inductive MP (X:Cx) (NB:List Str) (js:List Nat) (scope:Scope) (cl:List (Str × Addr)) (c elt:Expr) (σ:St) (Q:VK) (v:V) (H:Hp):Prop|mk (α:Type) (la:Addr) (zs:List α) (val out:α->V) (pm:α->Bool) (_:v=.ref la) (_:H la=some (.lst (zs.map val))) (_:zs.length<=4000)
  (_:∀z ∈ zs,∀G,aJ H G->∀C s H' fp pn,Tv (X.blkF NB scope cl C s H' fp pn) c ((dQ 1 js σ).set 0 (some (val z))) G (pm z)) (_:∀z ∈ zs,pm z=true->∀G,aJ H G->∀C s H' fp pn,Vl (X.blkF NB scope cl C s H' fp pn) elt ((dQ 1 js σ).set 0 (some (val z))) G (out z))
  (_:∀acc G,aJ H G->G acc=some (.lst ((zs.filter pm).map out))->Q (.ref acc) G)
def qX {n:Nat} {y:Str} {P l:Pos} {D:eM} {r:List Stmt} (S:X.N.Nodup) (B:X.N[n]?=some y) (C:pP X NB 1 js scope cl) (hi:NB[0]?=some x) (h:Ex X e σ H (MP X NB js scope cl c elt σ λv a=>Wp X r D (σ.set n (some v)) a))
  (A:vN X.env.scope y:=by first|exact j9 rfl|exact K9 rfl) (hx:∀C s a b d,vN (X.blkF NB scope cl C s a b d).env.scope x:=by exact λ_ _ _ _ _=>j9 rfl) (hf:∀C s a b d,(X.blkF NB scope cl C s a b d).env.scope.names.lookup x=some .local:=by exact λ_ _ _ _ _=>rfl) (W:X.calm=true:=by rfl)
  (F:swapsWith (.ListComp elt [{.Name x p',e,[c],0}] scope p3) (some (.Name y P)) l.line X.env=pure true:=by rfl) (t:X.fn y=true\/X.env.scope.names.lookup y=some .local:=by first|exact .inl rfl|exact .inr rfl) (u:∀y,foldedSetIterable e X.env y=pure y:=by intro _;rfl):Wp X (.Assign [.Name y P] (.ListComp elt [{.Name x p',e,[c],0}] scope p3) l::r) D σ H:=by
 let (c1,c2,U,Z,c5):=C.all;refine {_,aD (kR S B A c1 c2 U rfl Z (g:=cS 0) (tc:=Bt X NB scope cl c) (te:=Bx X NB scope cl elt) (eZ aP W) (λC s H b d=>aM c5 hi (hx C s H b d) (.inr (hf C s H b d))) (λC s a b d=>kQ λ_ L w M J I h=>mU L w M J I (h C s a b d)) (λC s a b d _ L w M J I h=>aP L w M J I (h C s a b d)) F t u) aS,h.mono λv H1 q=>?_};let (α,la,zs,val,out,pm,rfl,z,ln,ht,Y,k):=q;refine {la,rfl,{_,cM.of z},?_};let (f1,f2,f3):=iO (K:=X.K) z;exact gE (Q:=λv a=>Wp X r D (σ.set n (some v)) a) ln f1 f2 (λG i x G' s _ y=>f3 G i x G' s y) _ (λz T G O R h=>h _ rfl (λR q C s a b d=>(ht z T G O C s a b d).to _ q) λhp R q C s a b d=>(Y z T hp G O C s a b d).to _ (q _ (aJ.refl _))) k
def Jo {n:Nat} {y:Str} {O l:Pos} {D:eM} {r:List Stmt} {a:Expr} {j:Int} {out:Nat->V} (S:X.N.Nodup) (J:X.N[n]?=some y) (C:pP X NB 1 js scope cl) (hi:NB[0]?=some x) (hm:X.mg "range"=none) (ha:Vl X a σ H (.int j)) (Z:-(2 ^ 62)<=j/\j<=4000)
  (U:∀i,i<j.toNat->∀G,aJ H G->∀R:VK,(∀L,aJ G L->R (out i) L)->Bx X NB scope cl elt ((dQ 1 js σ).set 0 (some (.int (0+(i:Int))))) G R) (k:∀b G,aJ H G->G b=some (.lst ((List.range j.toNat).map out))->Wp X r D (σ.set n (some (.ref b))) G)
  (F:vN X.env.scope y:=by first|exact j9 rfl|exact K9 rfl) (hx:∀C s u d t,vN (X.blkF NB scope cl C s u d t).env.scope x:=by exact λ_ _ _ _ _=>j9 rfl) (hf:∀C s u d t,(X.blkF NB scope cl C s u d t).env.scope.names.lookup x=some .local:=by exact λ_ _ _ _ _=>rfl) (hg:Gl X "range":=by rfl) (w:starEach [a] X.env=[(false,eval a X.env)]:=by rfl) (T:X.calm=true:=by rfl)
  (K:swapsWith (.ListComp elt [{.Name x p',.Call (.Name "range" p1) [a] [] p2,[],0}] scope p3) (some (.Name y O)) l.line X.env=pure true:=by rfl) (A:X.fn y=true\/X.env.scope.names.lookup y=some .local:=by first|exact .inl rfl|exact .inr rfl) (B:∀y,foldedSetIterable (.Call (.Name "range" p1) [a] [] p2) X.env y=pure y:=by intro _;rfl):
  Wp X (.Assign [.Name y O] (.ListComp elt [{.Name x p',.Call (.Name "range" p1) [a] [] p2,[],0}] scope p3) l::r) D σ H:=by
 let (c1,c2,P,W,c5):=C.all;refine {_,aD (kR S J F c1 c2 P rfl W (g:=cS 0) (te:=Bx X NB scope cl elt) (gC hg hm eO w T) (λC s H d t=>aM c5 hi (hx C s H d t) (.inr (hf C s H d t))) (λ_ _ _ _ _=>dZ) (λC s u d t _ s2 Y H2 Q2 I h=>aP s2 Y H2 Q2 I (h C s u d t)) K A B) aS,(xB ha nZ w).to _ {j,rfl,Z.1,∎,?_}};refine gE (xs:=List.range j.toNat) (pm:=λ_=>true) (out:=out) (val:=λi:Nat=>.int (0+(i:Int))) (Q:=λv u=>Wp X r D (σ.set n (some v)) u) (by rw [v6];omega) (λG i _ hi=>by rw [v6] at hi;exact hi) (λG _=>by rw [v6];exact i7 _)
  (λG i x G' _ M hy=>?_) _ (λz hz G sg R h=>h _ rfl (λ_ h=>h) λ_ R q=>U z (D9.mp hz) G sg R q) λb G s e=>k b G s (by rw [e,F6.mpr λ_ _=>rfl])
 let (rfl,rfl):=hy;exact {rfl,i,by rw [v6] at M;rw [O2 M],rfl}
inductive MQ (X:Cx) (NB:List Str) (js:List Nat) (scope:Scope) (cl:List (Str × Addr)) (elt:Expr) (σ:St) (Q:VK) (v:V) (H:Hp):Prop|mk (α:Type) (la:Addr) (zs:List α) (val out:α->V) (_:v=.ref la) (_:H la=some (.lst (zs.map val))) (_:zs.length<=4000)
  (_:∀z ∈ zs,∀G,aJ H G->∀C s H' fp pn,Vl (X.blkF NB scope cl C s H' fp pn) elt ((dQ 1 js σ).set 0 (some (val z))) G (out z)) (_:∀acc G,aJ H G->G acc=some (.lst (zs.map out))->Q (.ref acc) G)
def Wi (C:pP X NB 1 js scope cl) (hi:NB[0]?=some x) (h:Ex X e σ H (MQ X NB js scope cl elt σ Q))
  (hx:∀C s d a b,vN (X.blkF NB scope cl C s d a b).env.scope x:=by exact λ_ _ _ _ _=>j9 rfl) (Z:∀C s d a b,(X.blkF NB scope cl C s d a b).env.scope.names.lookup x=some .local:=by exact λ_ _ _ _ _=>rfl) (w:X.calm=true:=by rfl) (l:∀y,foldedSetIterable e X.env y=pure y:=by intro _;rfl):
  Ex X (.ListComp elt [{.Name x p',e,[],0}] scope p3) σ H Q:=by
 let (N,U,u,B,W):=C.all;refine {_,dL (g:=cS 0) (te:=Bx X NB scope cl elt) N U u rfl B (eZ aP w) (λC s H a b=>aM W hi (hx C s H a b) (.inr (Z C s H a b))) (λ_ _ _ _ _=>dZ) (λC s d a b _ O F S M I h=>aP O F S M I (h C s d a b)) l,h.mono λv H1 q=>?_};let (α,la,zs,val,out,rfl,z,J,A,k):=q;refine {la,rfl,{_,cM.of z},?_};let (T,f2,P):=iO (K:=X.K) z;exact gE (pm:=λ_=>true) J T f2 (λG i x L s _ y=>P G i x L s y) _ (λz hz G Y R h=>h _ rfl (λR q=>q) λhp R q C s d a b=>(A z hz G Y C s d a b).to _ (q _ (aJ.refl _))) λt G s e=>k t G s (by rw [e,F6.mpr λ_ _=>rfl])
def Xu {op:CmpOp} {d:R2} {a b:Expr} {u v w:V} (l:lH X (compareOp op) d) (h:Vl X a σ H v) (g:Vl X b σ H w) (y:∀Q:VK,Q u H->d v w H Q) (s:behindInMarks op b=false):Vl X (.Compare a [op] [b] pos) σ H u:={λ_ q=>{_,eA l aP aP s,h.to _ (g.to _ (y _ q))}}
def EU {a b:Expr} {c d:Bool} (h:Vl X a σ H (.bl c)) (g:c=true->Vl X b σ H (.bl d)):Vl X (.BoolOp .And [a,b] pos) σ H (.bl (c && d)):={λ_ q=>{_,gK aP (gZ aP),h.to _ {_,rfl,by cases c;exact dE q;exact dD ((g rfl).to _ q)}}}
def Vl.is (h:Vl X e σ H u) (z:u=v):Vl X e σ H v:=z ▸ h
def Zf (h:Vl X a σ H (.ref d)) (g:Vl X b σ H y) (z:eK H d y (some v)) (l:X.A.units+1<cLine) (s:DU b):Vl X (.Subscript a b pos) σ H v:={λ_ q=>{_,gQ l aP aP s,h.to _ (g.to _ {_,_,rfl,z,q})}}
def Di (t:Vl X a σ H v) (s:Av X b σ H vs) (u:vs.length<=1000) (k:∀r q d,aJ H d->d r=some (.tup [v,.ref q])->d q=some (.tup vs)->D.rt (.ref r) d) (g:starEach [a,.Tuple b k1 p1] X.env=(false,eval a X.env)::starEach [.Tuple b k1 p1] X.env:=by rfl) (h:starEach [.Tuple b k1 p1] X.env=[(false,eval (.Tuple b k1 p1) X.env)]:=by rfl):Wp X (.Return (some (.Tuple [a,.Tuple b k1 p1] k2 p2)) pos::r) D σ H:=
 fD {_,bL (aA aP (aA (bL eO) aC h) g),t.to _ (s.to _ {E5 (iF u),λq w=>{by show 2<=sizeLine;decide,λr l=>k r q _ ((aI w).trans (aI l)) aB (aI l _ _ aB)}})}
end
section
variable {X:Cx} {CX:pK} {k:Nat} {f C:Addr} {fd:FuncData} {ps:List Str} {sp:Sp} {E:XK} {m:Str} {pos apos:Pos} {o:Expr} {σ:St} {H:Hp} {Q:VK}
end
section
variable {X:Cx} {σ:St} {H:Hp} {D:eM} {r:List Stmt} {pos p' tpos:Pos} {e o:Expr} {f:Str} {v:V} {p C dx:Addr} {fs:List (Str × V)} {i j:Int}
def ES (h:Vl X e σ H (.ref p)) (z:H p=some (.ins C dx fs)) (c:tV X.K C) (n:NoAttr X.K C f) (l:fs.lookup f=some v) (a:attributeBase e f X.env (eval e X.env)=eval e X.env):Vl X (.Attribute e f pos) σ H v:={λ_ q=>{_,aQ aP a,h.to _ {_,_,_,_,_,rfl,z,c,n,l,q}}}
def Jp (h:Vl X o σ H (.ref p)) (g:Vl X e σ H v) (z:H p=some (.ins C dx fs)) (c:tV X.K C) (n:NoAttr X.K C f) (l:fs.length<1000) (k:Wp X r D σ (upd H p (.ins C dx (cW f v fs)))) (a:swapsWith e (some (.Attribute o f p')) pos.line X.env=pure false:=by rfl):Wp X (.Assign [.Attribute o f p'] e pos::r) D σ H:={_,aD (cX aP aP a) aS,g.to _ (h.to _ {_,_,_,_,rfl,z,c,n,l,k})}
end
end L2
section
open L2
local macro_rules | `(tactic| symm)=>`(tactic| first|(apply EH;rfl;(first|exact j9 rfl|exact K9 (j9 rfl)|exact K9 (K9 rfl));decide;decide)|exact Jw|exact EK|exact Dn|exact nZ|(apply xB;symm;symm;rfl)|(apply EV;symm;symm)|(apply EJ;symm;symm)|(apply EI;symm;symm;assumption;(first|rfl|assumption);exact λ_ _=>rfl)|(apply EQ;symm;symm;assumption;(first|rfl|assumption);exact λ_ _=>rfl)|(apply EO;symm;symm;first|decide|omega|assumption)|(apply ET;symm;symm;first|exact⟨by decide,by decide⟩|assumption)|(apply EN;symm;symm;first|assumption|exact .inl ⟨by decide,by decide⟩)|(apply EL;symm;symm;first|exact⟨by decide,by decide,by decide⟩)|(apply EM;symm)|(apply ER;symm;assumption;assumption;rfl;rfl;rfl)|(apply Ze;symm;assumption;assumption;rfl;rfl;rfl)|(apply ES;symm;assumption;assumption;assumption;rfl;rfl)|(apply EW;symm)|(apply Zk;symm)|(apply EX;symm;symm;rfl)|(apply t_ne;symm;symm;rfl)|(apply Zf;symm;symm;assumption;assumption;exact λ_ _=>rfl)|(apply IW;symm;symm)|(apply IV;symm;symm)|(apply IX;symm;symm)|(apply IY;symm;symm))
local macro_rules | `(tactic| show $n:num)=>`(tactic| (apply Sb (n:=$n);symm;assumption;rfl;(first|exact j9 rfl|exact K9 rfl);rfl;(first|exact .inl rfl|exact .inr rfl)))
namespace L2
open PySem PySem.Spec PyProof.Rows PySem.W
structure kI (P:Program) (w:World) (K:Frag) (mg:Str->Option Value) (base:Heap) (CX:pK) (n:Str) (k:Nat) (sp:Sp):Prop where
 ex:∃f fd ps,bH P w K mg base CX k f fd ps sp/\keepIn K (.ref f)=true/\eW K fd ps []/\mg n=some (.ref f)
structure LZ (P:Program) (w:World) (K:Frag) (mg:Str->Option Value) (base:Heap) (n:Str) (k:Nat) (sp:Addr->Sp):Prop where
 ex:∃f fd ps,vO P w K mg base k f fd ps sp/\keepIn K (.ref f)=true/\eW K fd ps []/\mg n=some (.ref f)
structure eH (P:Program) (w:World) (K:Frag) (mg:Str->Option Value) (base:Heap) (CX:pK) (C:Addr) (n:Str) (k:Nat) (sp:Sp):Prop where
 ex:∃f fd ps,bH P w K mg base CX k f fd ps sp/\eW K fd ps []/\Aa K C n f
section
variable {P:Program} {w:World} {K:Frag} {mg:Str->Option Value} {base:Heap} {CX CX':pK} {n:Str} {j:Nat} {sp sp':Sp} {C:Addr}
def kI.up (h:kI P w K mg base CX n j sp) (k:Nat) (e:j<=k:=by decide):∃f fd ps,bH P w K mg base CX k f fd ps sp/\keepIn K (.ref f)=true/\eW K fd ps []/\mg n=some (.ref f):=by
 let (f,fd,ps,b,a):=h.ex;exact {f,fd,ps,b.mono e,a}
def eH.up (h:eH P w K mg base CX C n j sp) (k:Nat) (e:j<=k:=by decide):∃f fd ps,bH P w K mg base CX k f fd ps sp/\eW K fd ps []/\Aa K C n f:=by
 let (f,fd,ps,b,a):=h.ex;exact {f,fd,ps,b.mono e,a}
def eH.mk' (h:eH P w K mg base CX C "__init__" j sp) (i:makesIn K C=true/\keepIn K (.ref C)=true) (k:Nat) (e:j<=k:=by decide):∃f fd ps,bH P w K mg base CX k f fd ps sp/\eW K fd ps []/\Mk K C f:=by
 let (f,fd,ps,b,a,m):=h.ex;exact {f,fd,ps,b.mono e,a,i.1,m.1,m.2,i.2}
def kI.to (h:kI P w K mg base CX n j sp) (t:∀{f fd ps},bH P w K mg base CX j f fd ps sp->bH P w K mg base CX' j f fd ps sp'):kI P w K mg base CX' n j sp':=by
 let (f,fd,ps,b,a):=h.ex;exact {f,fd,ps,t b,a}
def eH.to (h:eH P w K mg base CX C n j sp) (t:∀{f fd ps},bH P w K mg base CX j f fd ps sp->bH P w K mg base CX' j f fd ps sp'):eH P w K mg base CX' C n j sp':=by
 let (f,fd,ps,b,a):=h.ex;exact {f,fd,ps,t b,a}
end
section
variable {X:Cx} {CX:pK} {j k:Nat} {C:Addr} {sp:Sp} {E:XK} {x m:Str} {p pos apos:Pos} {e o:Expr} {es:List Expr} {ta:TE} {t:TA} {σw σ:St} {H:Hp} {Q:VK} {vs:List V}
def aX (G:kI X.prog X.w X.K X.mg X.base CX x j sp) (l:Room k X.A) (g:eV CX X E) (s:PA X (e::es) t) (r:Gl X x:=by rfl) (b:(x == ("__debug__":Str))=false:=by decide) (u:starEach (e::es) X.env=(false,eval e X.env)::starEach es X.env:=by rfl) (a:(backTo pos (starEach es X.env)).any (·.1)=false:=by rfl) (d:j<=k:=by first|exact i7 _|decide):
  PE X (.Call (.Name x p) (e::es) [] pos) (xO sp [] E t):=by
 let (f,fd,ps,y,v,i,h):=G.up k d;exact Uq y l r h v i .nil g s b u a
def dN (G:kI X.prog X.w X.K X.mg X.base CX x j sp) (i:Room k X.A) (g:eV CX X E) (r:Av X (e::es) σ H vs) (h:sp vs H Q E)
  (l:Gl X x:=by rfl) (b:(x == ("__debug__":Str))=false:=by decide) (s:starEach (e::es) X.env=(false,eval e X.env)::starEach es X.env:=by rfl) (a:(backTo pos (starEach es X.env)).any (·.1)=false:=by rfl) (d:j<=k:=by first|exact i7 _|decide):Ex X (.Call (.Name x p) (e::es) [] pos) σ H Q:=
 {_,aX G i g eO l b s a d,r.to _ (by rw [E4];exact h)}
def bP (v:PE X o ta) (c:tV X.K C) (G:eH X.prog X.w X.K X.mg X.base CX C m j sp) (s:Room k X.A) (l:eV CX X E) (u:PA X (e::es) t) (a:starEach (e::es) X.env=(false,eval e X.env)::starEach es X.env:=by rfl) (b:(backTo pos (starEach es X.env)).any (·.1)=false:=by rfl) (i:eval (.Call (.Attribute o m apos) (e::es) [] pos) X.env=(eval o X.env >>= λg=>standAt apos.atName >>= λ_=>holding [g] (getMethod g m pl) >>= λd=>callWith pos d.1 d.2 (backTo pos (starEach (e::es) X.env)) (backToKw pos (keywordEach [] X.env))):=by rfl) (h:j<=k:=by first|exact i7 _|decide):PE X (.Call (.Attribute o m apos) (e::es) [] pos) (rG C m sp [] E ta t):=by
 let (f,fd,ps,z,y,r):=G.up k h;exact Uo (pl:=pl) v c r z s y .nil l u a b i
def gJ (v:PE X o ta) (c:tV X.K C) (G:eH X.prog X.w X.K X.mg X.base CX C m j sp) (s:Room k X.A) (l:qV CX X σw E) (u:PA X (e::es) t) (a:starEach (e::es) X.env=(false,eval e X.env)::starEach es X.env:=by rfl) (b:(backTo pos (starEach es X.env)).any (·.1)=false:=by rfl) (i:eval (.Call (.Attribute o m apos) (e::es) [] pos) X.env=(eval o X.env >>= λg=>standAt apos.atName >>= λ_=>holding [g] (getMethod g m pl) >>= λd=>callWith pos d.1 d.2 (backTo pos (starEach (e::es) X.env)) (backToKw pos (keywordEach [] X.env))):=by rfl) (h:j<=k:=by first|exact i7 _|decide):PE X (.Call (.Attribute o m apos) (e::es) [] pos) (Xw σw (rG C m sp [] E ta t)):=by
 let (f,fd,ps,z,y,r):=G.up k h;exact Hh (pl:=pl) v c r z s y .nil l u a b i
def bX (r:PE X o ta) (c:tV X.K C) (G:eH X.prog X.w X.K X.mg X.base CX C m j sp) (l:Room k X.A) (h:eV CX X E) (g:eval (.Call (.Attribute o m apos) [] [] pos) X.env=(eval o X.env >>= λb=>standAt apos.atName >>= λ_=>holding [b] (getMethod b m pl) >>= λa=>callWith pos a.1 a.2 (backTo pos (starEach [] X.env)) (backToKw pos (keywordEach [] X.env))):=by rfl) (d:j<=k:=by first|exact i7 _|decide):PE X (.Call (.Attribute o m apos) [] [] pos) (rG C m sp [] E ta mJ):=by
 let (f,fd,ps,u,s,i):=G.up k d;exact yI (pl:=pl) r c i u l s .nil h g
def nU (z:Vl X o σ H (.ref q)) (B:H q=some (.ins C l fs)) (c:tV X.K C) (G:eH X.prog X.w X.K X.mg X.base CX C m j sp) (u:Room k X.A) (s:eV CX X E) (v:Av X (e::es) σ H vs) (h:sp (.ref q::vs) H Q E) (y:fs.lookup m=none:=by rfl)
  (a:starEach (e::es) X.env=(false,eval e X.env)::starEach es X.env:=by rfl) (b:(backTo pos (starEach es X.env)).any (·.1)=false:=by rfl) (r:eval (.Call (.Attribute o m apos) (e::es) [] pos) X.env=(eval o X.env >>= λg=>standAt apos.atName >>= λ_=>holding [g] (getMethod g m pl) >>= λd=>callWith pos d.1 d.2 (backTo pos (starEach (e::es) X.env)) (backToKw pos (keywordEach [] X.env))):=by rfl) (i:j<=k:=by first|exact i7 _|decide):Ex X (.Call (.Attribute o m apos) (e::es) [] pos) σ H Q:=
 {_,bP (pl:=pl) aP c G u s eO a b r i,z.to _ {_,_,_,rfl,B,y,v.to _ (by rw [E4];exact h)}}
def iR (u:Vl X o σ H (.ref q)) (v:H q=some (.ins C i fs)) (c:tV X.K C) (G:eH X.prog X.w X.K X.mg X.base CX C m j sp) (r:Room k X.A) (l:eV CX X E) (h:sp [.ref q] H Q E) (s:fs.lookup m=none:=by rfl)
  (g:eval (.Call (.Attribute o m apos) [] [] pos) X.env=(eval o X.env >>= λb=>standAt apos.atName >>= λ_=>holding [b] (getMethod b m pl) >>= λa=>callWith pos a.1 a.2 (backTo pos (starEach [] X.env)) (backToKw pos (keywordEach [] X.env))):=by rfl) (d:j<=k:=by first|exact i7 _|decide):Ex X (.Call (.Attribute o m apos) [] [] pos) σ H Q:=
 {_,bX (pl:=pl) aP c G r l g d,u.to _ {_,_,_,rfl,v,s,h}}
end
end L2
namespace Ls
open PySem L2 PySem.W
def eT (i:Nat):Stmt:=PySem.Challenge.pw_lentwork_k81_whole_told_once.main.body.getD i (.Pass ⟨0,0,0,0⟩)
abbrev Li:Stmt:=eT 19
abbrev xY:Stmt:=eT 20
abbrev Ya:Stmt:=eT 21
abbrev Mq:Stmt:=eT 22
abbrev Ej:Stmt:=eT 23
abbrev Lk:Stmt:=eT 24
abbrev xX:Stmt:=eT 25
abbrev xZ:Stmt:=eT 27
abbrev Yh:Stmt:=eT 36
abbrev Yf:Stmt:=eT 38
abbrev lS:Stmt:=eT 50
abbrev Lq:Stmt:=bD (eT 28) 0
abbrev Ef:Stmt:=bD (eT 28) 1
abbrev Yc:Stmt:=bD (eT 28) 2
abbrev Yd:Stmt:=bD (eT 28) 3
abbrev Ll:Stmt:=bD (eT 28) 4
abbrev Eg:Stmt:=bD (eT 28) 5
abbrev Ln:Stmt:=bD (eT 28) 6
abbrev uR:Stmt:=bD (eT 28) 7
abbrev Lw:Stmt:=bD (eT 17) 0
abbrev Lr:Stmt:=bD (eT 17) 1
abbrev Ly:Stmt:=bD (eT 17) 2
abbrev Lu:Stmt:=bD (eT 17) 3
abbrev Lx:Stmt:=bD (eT 17) 4
abbrev Lv:Stmt:=bD (eT 17) 5
abbrev oX:Stmt:=bD (eT 17) 6
abbrev Ye:Stmt:=bD (eT 17) 7
abbrev Ei:Stmt:=bD (eT 17) 8
abbrev rO:Stmt:=bD (eT 34) 0
abbrev iJ:Stmt:=bD (eT 34) 1
abbrev wH:Stmt:=bD (eT 34) 2
abbrev oD:Stmt:=bD (eT 34) 3
abbrev Mm:Stmt:=bD (eT 34) 4
abbrev Ml:Stmt:=bD (eT 34) 5
abbrev Bc:Stmt:=bD (eT 34) 6
abbrev mQ:Stmt:=bD (eT 34) 7
abbrev Yg:Stmt:=bD (eT 34) 8
abbrev Mn:Stmt:=bD (eT 34) 10
abbrev Me:Stmt:=bD (eT 34) 11
abbrev yB:Stmt:=bD (eT 34) 13
abbrev Mi:Stmt:=bD (eT 34) 14
abbrev rN:Stmt:=bD (eT 34) 15
abbrev wG:Stmt:=bD (eT 34) 16
abbrev mP:Stmt:=bD (eT 34) 17
abbrev wF:Stmt:=bD (eT 34) 18
abbrev Mj:Stmt:=bD (eT 34) 19
abbrev Mb:Stmt:=bD (eT 34) 20
abbrev rP:Stmt:=bD (eT 34) 21
abbrev yA:Stmt:=eT 39
abbrev Eh:Stmt:=eT 43
abbrev El:Stmt:=eT 30
abbrev Ed:Stmt:=eT 31
abbrev mS:Stmt:=eT 32
abbrev oE:Stmt:=eT 33
abbrev wI:Stmt:=eT 37
abbrev Lz:Stmt:=eT 40
abbrev uS:Stmt:=eT 41
abbrev Ee:Stmt:=eT 44
abbrev Lj:Stmt:=eT 45
abbrev fT:Stmt:=eT 46
abbrev Ma:Stmt:=eT 47
abbrev Mo:Stmt:=eT 48
abbrev Mp:Stmt:=eT 49
structure Gb (mg:Str->Option Value):Prop where
 isi:mg "isinstance"=none
 int:mg "int"=none
 bool:mg "bool"=none
 tuple:mg "tuple"=none
 len:mg "len"=none
 range:mg "range"=none
 list:mg "list"=none
 max:mg "max"=none
 sum:mg "sum"=none
 sorted:mg "sorted"=none
 any:mg "any"=none
 all:mg "all"=none
 enum:mg "enumerate"=none
 min:mg "min"=none
structure Cl (K:Frag) (mg:Str->Option Value) (C:Addr):Prop where
 cl:tV K C
 nW:NoAttr K C "work"
 nR:NoAttr K C "results"
 mgC:mg "Sheet"=some (.ref C)
structure Tw (K:Frag) (mg:Str->Option Value) (CT:Addr):Prop where
 mT:mg "Twice"=some (.ref CT)
 ex:ExcIs K CT
structure Pl (K:Frag) (mg:Str->Option Value) (C:Addr):Prop where
 cl:tV K C
 nN:NoAttr K C "number"
 nL:NoAttr K C "low"
 nH:NoAttr K C "high"
 nM:NoAttr K C "mark"
 nD:NoAttr K C "lending"
 mgC:mg "Piece"=some (.ref C)
structure Bl (K:Frag) (mg:Str->Option Value) (C:Addr):Prop where
 cl:tV K C
 nW:NoAttr K C "work"
 nS:NoAttr K C "span"
 nE:NoAttr K C "every"
 nL:NoAttr K C "least"
 nH:NoAttr K C "sheet"
 nB:NoAttr K C "by_number"
 nN:NoAttr K C "next_number"
 nT:NoAttr K C "next_token"
 nM:NoAttr K C "moment"
 mgC:mg "Book"=some (.ref C)
structure Er (K:Frag) (mg:Str->Option Value) (x:Str) (C:Addr):Prop where
 mB:mg x=some (.ref C)
 ex:ExcIs K C
structure Cn where
 CB:Addr
 CS:Addr
 CP:Addr
 T1:Addr
 T2:Addr
structure ML (mg:Str->Option Value) (c:Nat->Addr):Prop where
 m0:mg "BadWorker"=some (.ref (c 0))
 m1:mg "BadMoment"=some (.ref (c 1))
 m2:mg "NoLending"=some (.ref (c 2))
 m3:mg "Lost"=some (.ref (c 3))
 m4:mg "BadTelling"=some (.ref (c 4))
 m5:mg "Otherwise"=some (.ref (c 5))
 m6:mg "NoPiece"=some (.ref (c 6))
 m7:mg "BadCut"=some (.ref (c 7))
 m8:mg "BadJoin"=some (.ref (c 8))
structure KP (K:Frag) (c:Nat->Addr) (C:Addr) (j:Nat):Prop where
 e:xG K C
 n:∀i,i<9->kitOne K (.ref C) (.ref (c i))=some (decide (i=j))
def Bn (p:List Value->Prop):Nat->Prop
 | 0=>p []
 | n+1=>∀u,Bn (λus=>p (u::us)) n
theorem Bn.all:∀{n:Nat} {p:List Value->Prop},Bn p n->∀a,a.length=n->p a
 | 0,_,h,[],_=>h
 | _+1,_,h,u::a,e=>Bn.all (h u) a (Nat.succ.inj e)
def Bd (x q:Str) (st:Stmt) (ps:List Str):Prop:=∀(kV doc pm:Value) (an:Option Addr) (cdv ct:Value),Bn (λus=>bindArgs (fnOf x q (eS st) (bG st) (aG st) .none kV doc pm an cdv ct) ⟨us,[]⟩=pure (ps.zip us)) ps.length
def Df (K:Frag) (mg:Str->Option Value) (x:Str) (st:Stmt):Prop:=∃f fd,mg x=some (.ref f)/\qW K x x st f fd
def Dc (K:Frag) (mg:Str->Option Value) (x:Str) (st:Stmt) (T:Addr):Prop:=∃f fd c,mg x=some (.ref f)/\xF K x x st f fd c/\codeHdIn K c T=true
def Mf (K:Frag) (C:Addr) (x q:Str) (st:Stmt):Prop:=∃f fd,Aa K C x f/\qW K x q st f fd
def Mc (K:Frag) (C:Addr) (x q:Str) (st:Stmt) (T:Addr):Prop:=∃f fd c,Aa K C x f/\xF K x q st f fd c/\codeHdIn K c T=true
section
variable {P:Program} {w:World} {K:Frag} {mg:Str->Option Value} {base:Heap} {C f T:Addr} {fd:FuncData} {x q:Str} {st:Stmt} {CX:pK} {k:Nat} {ps:List Str} {sp:Sp}
def Bd.to (h:Bd x q st ps) (F:qW K x q st f fd):eW K fd ps []:=F.binds λ_ _ _ _ _ _ a e=>(h _ _ _ _ _ _).all a e
def Df.of (D:Df K mg x st) (h:∀{f fd},qW K x x st f fd->bH P w K mg base CX k f fd ps sp) (b:Bd x x st ps:=by (repeat intro _);rfl):kI P w K mg base CX x k sp:=by
 let (f,fd,m,F):=D;exact {f,fd,ps,h F,F.kp,b.to F,m}
def Df.ofH {sp:Addr->Sp} (D:Df K mg x st) (h:∀{f fd},qW K x x st f fd->vO P w K mg base k f fd ps sp) (b:Bd x x st ps:=by (repeat intro _);rfl):LZ P w K mg base x k sp:=by
 let (f,fd,m,F):=D;exact {f,fd,ps,h F,F.kp,b.to F,m}
def Dc.of (D:Dc K mg x st T) (h:∀{f fd c},xF K x x st f fd c->codeHdIn K c T=true->bH P w K mg base CX k f fd ps sp) (b:Bd x x st ps:=by (repeat intro _);rfl):kI P w K mg base CX x k sp:=by
 let (f,fd,c,m,F,t):=D;exact {f,fd,ps,h F t,F.kp,b.to F.toFun,m}
def Mf.of (D:Mf K C x q st) (h:∀{f fd},qW K x q st f fd->bH P w K mg base CX k f fd ps sp) (b:Bd x q st ps:=by (repeat intro _);rfl):eH P w K mg base CX C x k sp:=by
 let (f,fd,m,F):=D;exact {f,fd,ps,h F,b.to F,m}
def Mc.of (D:Mc K C x q st T) (h:∀{f fd c},xF K x q st f fd c->codeHdIn K c T=true->bH P w K mg base CX k f fd ps sp) (b:Bd x q st ps:=by (repeat intro _);rfl):eH P w K mg base CX C x k sp:=by
 let (f,fd,c,m,F,t):=D;exact {f,fd,ps,h F t,b.to F.toFun,m}
end
structure Wd (P:Program) (w:World) (K:Frag) (mg:Str->Option Value) (base:Heap) (N:Cn) (c:Nat->Addr):Prop where
 G:Gb mg
 z:mg "str"=none
 M:xH base mg
 S:Cl K mg N.CS
 P:Pl K mg N.CP
 B:Bl K mg N.CB
 T:Tw K mg (c 9)
 L:mg "LentError"=some (.ref (c 10))
 iP:makesIn K N.CP=true/\keepIn K (.ref N.CP)=true
 iS:makesIn K N.CS=true/\keepIn K (.ref N.CS)=true
 iB:makesIn K N.CB=true/\keepIn K (.ref N.CB)=true
 W:ML mg c
 X:∀j,j<9->KP K c (c j) j
 E:∀j,j<9->exmOne K (.ref (c j)) (.ref (c 10))=some true
 d1:Df K mg "is_whole" Li
 d2:Df K mg "is_stretch" xY
 d3:Df K mg "is_work" Ya
 d4:Df K mg "check_work" Mq
 d5:Df K mg "merged" Ej
 d6:Df K mg "short_form" Lk
 d7:Df K mg "without" xX
 d8:Df K mg "is_numbers" xZ
 d9:Df K mg "check_bounds" El
 d10:Df K mg "is_worker" Ed
 d11:Df K mg "check_worker" mS
 d12:Dc K mg "greatest" oE N.T1
 d13:Df K mg "_law_cell_at" Yh
 d14:Df K mg "_law_draws" wI
 d15:Df K mg "_law_work" Yf
 d16:Df K mg "_law_bounds" yA
 d17:Df K mg "_law_model" Lz
 d18:Df K mg "_law_numbered" uS
 d19:Df K mg "_law_result" Eh
 d20:Df K mg "_law_word_of" Ee
 d21:Df K mg "_law_tried" Lj
 d22:Df K mg "_law_asked" fT
 d23:Df K mg "_law_known" Ma
 d24:Df K mg "_law_grown" Mo
 d25:Df K mg "_law_ended" Mp
 d26:Mf K N.CP "__init__" "Piece.__init__" Lw
 d27:Mf K N.CP "rest" "Piece.rest" Lr
 d28:Mf K N.CP "is_done" "Piece.is_done" Ly
 d29:Mf K N.CP "is_lent" "Piece.is_lent" Lu
 d30:Mf K N.CP "is_free" "Piece.is_free" Lx
 d31:Mf K N.CP "is_late" "Piece.is_late" Lv
 d32:Mf K N.CP "is_untouched" "Piece.is_untouched" oX
 d33:Mf K N.CP "has_token" "Piece.has_token" Ye
 d34:Mf K N.CP "shown" "Piece.shown" Ei
 d35:Mf K N.CS "__init__" "Sheet.__init__" Lq
 d36:Mf K N.CS "lay" "Sheet.lay" Ef
 d37:Mf K N.CS "result_at" "Sheet.result_at" Yc
 d38:Mf K N.CS "all_results" "Sheet.all_results" Yd
 d39:Mf K N.CS "left_work" "Sheet.left_work" Ll
 d40:Mf K N.CS "holds_row" "Sheet.holds_row" Eg
 d41:Mf K N.CS "laid_work" "Sheet.laid_work" Ln
 d42:Mf K N.CS "numbers_between" "Sheet.numbers_between" uR
 d43:Mf K N.CB "__init__" "Book.__init__" rO
 d44:Mf K N.CB "choice" "Book.choice" iJ
 d45:Mf K N.CB "lend" "Book.lend" wH
 d46:Mf K N.CB "tell" "Book.tell" oD
 d47:Mf K N.CB "give_back" "Book.give_back" Mm
 d48:Mf K N.CB "cut" "Book.cut" Ml
 d49:Mf K N.CB "join" "Book.join" Bc
 d50:Mc K N.CB "pieces" "Book.pieces" mQ N.T2
 d51:Mf K N.CB "moment_now" "Book.moment_now" Yg
 d52:Mf K N.CB "all_results" "Book.all_results" Mn
 d53:Mf K N.CB "left_work" "Book.left_work" Me
 d54:Mf K N.CB "check_moment" "Book.check_moment" yB
 d55:Mf K N.CB "held_piece" "Book.held_piece" Mi
 d56:Mf K N.CB "piece_to_tell" "Book.piece_to_tell" rN
 d57:Mf K N.CB "piece_to_cut" "Book.piece_to_cut" wG
 d58:Mf K N.CB "piece_to_join" "Book.piece_to_join" mP
 d59:Mf K N.CB "piece_with" "Book.piece_with" wF
 d60:Mf K N.CB "piece_from" "Book.piece_from" Mj
 d61:Mf K N.CB "new_piece" "Book.new_piece" Mb
 d62:Mf K N.CB "cut_off" "Book.cut_off" rP
section
variable {P:Program} {w:World} {K:Frag} {mg:Str->Option Value} {base:Heap} {N:Cn} {c:Nat->Addr} (W:Wd P w K mg base N c)
include W
def Wd.x1:Er K mg "BadMoment" (c 1):={W.W.m1,(W.X 1 7#0).e.exc}
def Wd.x2:Er K mg "NoLending" (c 2):={W.W.m2,(W.X 2 7#0).e.exc}
def Wd.x3:Er K mg "Lost" (c 3):={W.W.m3,(W.X 3 7#0).e.exc}
def Wd.x4:Er K mg "BadTelling" (c 4):={W.W.m4,(W.X 4 7#0).e.exc}
def Wd.x5:Er K mg "Otherwise" (c 5):={W.W.m5,(W.X 5 7#0).e.exc}
def Wd.x6:Er K mg "NoPiece" (c 6):={W.W.m6,(W.X 6 7#0).e.exc}
def Wd.x7:Er K mg "BadCut" (c 7):={W.W.m7,(W.X 7 7#0).e.exc}
def Wd.x8:Er K mg "BadJoin" (c 8):={W.W.m8,(W.X 8 7#0).e.exc}
end
inductive Kn (H:Hp):V->Prop where
 | non:Kn H .non
 | bl (b:Bool):Kn H (.bl b)
 | int (i:Int):Kn H (.int i)
 | str (x:Str):Kn H (.str x)
 | lst {a:Addr} {xs:List V} (e:H a=some (.lst xs)):Kn H (.ref a)
 | dK {a:Addr} {kvs:List (bK × V)} (e:H a=some (.dK kvs)):Kn H (.ref a)
inductive oA (H:Hp):V->Prop where
 | kn {x:V} (h:Kn H x):oA H x
 | tup {a:Addr} {xs:List V} (e:H a=some (.tup xs)):oA H (.ref a)
def eY:V->Bool
 | .int _=>true
 | _=>false
def Kn.same (e:aJ H H') (h:Kn H x):Kn H' x:=by
 cases h with
 | non=>exact .non
 | bl b=>exact .bl b
 | int i=>exact .int i
 | str x=>exact .str x
 | lst q=>exact .lst (e _ _ q)
 | dK q=>exact .dK (e _ _ q)
theorem oA.same (e:aJ H H') (h:oA H x):oA H' x:=by
 cases h with
 | kn h=>exact .kn (h.same e)
 | tup q=>exact .tup (e _ _ q)
def Wr {K:Frag} {H:Hp} {x:V} (h:oA H x):∃t,kG K H x t/\kitOne K t (.type "int")=some (match x with | .int _=>true | .bl _=>true|_=>false):=by
 cases h with
 | kn h=>
  cases h with
  | non=>exact {_,.non,by kernel_rfl}
  | bl b=>exact {_,.bl b,by kernel_rfl}
  | int i=>exact {_,.int i,by rfl}
  | str x=>exact {_,.str x,by kernel_rfl}
  | lst q=>exact {_,.lst q,by kernel_rfl}
  | dK q=>exact {_,.dK q,by kernel_rfl}
 | tup q=>exact {_,.tup q,by kernel_rfl}
def Rc {K:Frag} {H:Hp} {x:V} (h:oA H x):∃t,kG K H x t/\kitOne K t (.type "bool")=some (match x with | .bl _=>true|_=>false):=by
 cases h with
 | kn h=>
  cases h with
  | non=>exact {_,.non,by kernel_rfl}
  | bl b=>exact {_,.bl b,by rfl}
  | int i=>exact {_,.int i,by kernel_rfl}
  | str x=>exact {_,.str x,by kernel_rfl}
  | lst q=>exact {_,.lst q,by kernel_rfl}
  | dK q=>exact {_,.dK q,by kernel_rfl}
 | tup q=>exact {_,.tup q,by kernel_rfl}
def zU {K:Frag} {H:Hp} {x:V} (h:Kn H x):∃t,kG K H x t/\kitOne K t (.type "tuple")=some false:=by
 cases h with
 | non=>exact {_,.non,by kernel_rfl}
 | bl b=>exact {_,.bl b,by kernel_rfl}
 | int i=>exact {_,.int i,by kernel_rfl}
 | str x=>exact {_,.str x,by kernel_rfl}
 | lst q=>exact {_,.lst q,by kernel_rfl}
 | dK q=>exact {_,.dK q,by kernel_rfl}
def tN {K:Frag} {H:Hp} {a:Addr} {xs:List V} (q:H a=some (.tup xs)):∃t,kG K H (.ref a) t/\kitOne K t (.type "tuple")=some true:={_,.tup q,by rfl}
def vW:Sp:=λvs H Q _=>∃x,vs=[x]/\oA H x/\Q (.bl (eY x)) H
inductive zV (H:Hp):V->Option (Int × Int)->Prop where
 | no {x:V} (h:Kn H x):zV H x none
 | len {a:Addr} {xs:List V} (e:H a=some (.tup xs)) (h:xs.length≠2):zV H (.ref a) none
 | one {a:Addr} {x y:V} (e:H a=some (.tup [x,y])) (hx:oA H x) (hy:oA H y) (h:eY x=false\/eY y=false):zV H (.ref a) none
 | turned {a:Addr} {l h:Int} (e:H a=some (.tup [.int l,.int h])) (n:h<=l):zV H (.ref a) none
 | yes {a:Addr} {l h:Int} (e:H a=some (.tup [.int l,.int h])) (n:l<h):zV H (.ref a) (some (l,h))
def Gx:Sp:=λvs H Q _=>∃x o,vs=[x]/\zV H x o/\Q (.bl o.isSome) H
section
variable {P:Program} {w:World} {K:Frag} {mg:Str->Option Value} {base:Heap} {N:Cn} {c:Nat->Addr}
def dF:bootBuiltins "isinstance"=some (.builtin "isinstance"):=⋯
def kE:bootBuiltins "int"=some (.type "int"):=⋯
def DG:bootBuiltins "bool"=some (.type "bool"):=⋯
def gM:bootBuiltins "tuple"=some (.type "tuple"):=⋯
def Cs:bootBuiltins "list"=some (.type "list"):=⋯
def Wj:bootBuiltins "max"=some (.builtin "max"):=⋯
def Qx:bootBuiltins "any"=some (.builtin "any"):=⋯
def tL:bootBuiltins "all"=some (.builtin "all"):=⋯
def vG:bootBuiltins "enumerate"=some (.type "enumerate"):=⋯
def kD:bootBuiltins "sorted"=some (.builtin "sorted"):=⋯
def To:aK ["thing"] ["thing"] (aG Li):=2#0
def dP (W:3#0):kI P w K mg base dI "is_whole" 1 vW:=W.d1.of λF=>by
 refine F.ok To (λi H Q E h=>?_) (λj A b s H i Q E m h=>?_)
 ·let (x,rfl,_):=h
  rfl
 ·let (x,rfl,g,q):=h
  refine {_,aH (aU (gK (aY cA (by rfl) W.G.isi dF (aA (pv 0) (aA (kX (v:=.ty "int") (by rfl) W.G.int kE rfl) aC)))
   (gZ (Bh (aY cA (by rfl) W.G.isi dF (aA (pv 0) (aA (kX (v:=.ty "bool") (by rfl) W.G.bool DG rfl) aC))))))),?_}
  let (t,a,e):=Wr (K:=K) g
  let (k,f,l):=Rc (K:=K) g
  refine {_,rfl,_,_,_,_,rfl,.ty "int",.inl {(t),a,e},_,rfl,?_}
  refine fE (λd=>?_) (λd=>?_)
  ·refine {_,rfl,_,_,_,_,rfl,.ty "bool",.inl {(k),f,l},_,rfl,?_}
   cases x <;> first|exact q|cases d
  ·cases x <;> first|exact q|exact absurd rfl d
def fP (h:xs.length=n+1):∃a t,xs=a::t/\t.length=n:=by
 cases xs with
 | nil=>cases h
 | cons a t=>exact {a,t,rfl,Nat.succ.inj h}
def Fl (h:xs.length=2):∃a b,xs=[a,b]:=by
 let (a,t,rfl,d):=fP h;let (b,t,rfl,e):=fP d;cases List.eq_nil_of_length_eq_zero e;exact {(a),b,rfl}
def Hb:aK ["thing"] ["thing"] (aG xY):=2#0
def Bp (W:3#0):kI P w K mg base dI "is_stretch" 2 Gx:=W.d2.of λF=>by
 refine F.ok Hb (λY H Q E h=>?_) (λJ A C s H Y Q E I h=>?_)
 ·let (x,o,rfl,_):=h
  rfl
 ·let (x,o,rfl,S,q):=h
  refine {_,aD (bV (PW.pt (fW (cQ (cK (aY cA (by rfl) W.G.isi dF (aA (pv 0) (aA (kX (v:=.ty "tuple") (by rfl) W.G.tuple gM rfl) aC)))))
    (eL (bS Ew (aY cF (by rfl) W.G.len PySem.boot_len (aA (pv 0) aC)) aR (bE _))))) (aH (aU uV)) aZ)
   (aH (aU (gK (aX (dP W) I aO (aA (bY bQ (pv 0) aR 12#0) aC))
    (gK (aX (dP W) I aO (aA (bY bQ (pv 0) aR 12#0) aC))
     (gZ (eA jG (bY bQ (pv 0) aR 12#0) (bY bQ (pv 0) aR 12#0) (bE _))))))),?_}
  have d:∀{a:Addr} {f:List V},x=.ref a->H a=some (.tup f)->(f.length≠2->Q (.bl false) H)->(∀u v,f=[u,v]->oA H u/\oA H v/\(eY u=false->Q (.bl false) H)/\(eY v=false->Q (.bl false) H)/\∀l h,u=.int l->v=.int h->Q (.bl (decide (l<h))) H) ->
   (Kb (FI (LI (FD (tB (FM (rQ K) (iE (iU 0) (iE (tC (.ty "tuple")) mJ))))) (Ka (Jm LJ (FM (λf H Q=>∃p D,f=[.ref p]/\(cM K H p D\/cG K H p D)/\Q (.int D.length) H) (iE (iU 0) mJ)) (tC (.int 2))))) (Zo (tC (.bl false))) Dp)
    (Zo (Ke (xO vW [] E0 (iE (Jm (gO K) (iU 0) (tC (.int 0))) mJ)) (Ke (xO vW [] E0 (iE (Jm (gO K) (iU 0) (tC (.int 1))) mJ)) (Jm (Ue λi j=>.bl (decide (i<j))) (Jm (gO K) (iU 0) (tC (.int 0))) (Jm (gO K) (iU 0) (tC (.int 1))))))))
    { nx:=λ_ Z=>Q .non Z,rt:=Q } (dB ["thing"] [x]) H:=λ{a f} X b M U=>by
   subst X
   let (t,g,e):=tN (K:=K) b
   refine {_,rfl,_,_,_,_,rfl,.ty "tuple",.inl {(t),g,e},_,rfl,?_}
   refine dE ?_
   refine {_,rfl,a,f,rfl,.inr (cG.of b),rfl,_,rfl,?_}
   refine fE (λB=>?_) (λB=>?_)
   ·refine M λz=>?_
    rw [z] at B
    cases B
   ·let z:f.length=2:=by
     by_cases z:f.length=2
     ·exact z
     ·refine absurd ?_ B;have:decide (V.int (f.length:Int)=V.int 2)=false:=decide_eq_false λw=>z (by injection w with w;omega);rw [this];rfl
    let (u,v,rfl):=Fl z;let (ku,T,qu,L,O):=U u v rfl;refine {_,rfl,a,_,_,_,rfl,rfl,cG.of b,bM (j:=0) rfl,_,rfl,ku,_,rfl,?_};refine fE (λr=>?_) (λr=>qu (by simpa using r));refine {_,rfl,a,_,_,_,rfl,rfl,cG.of b,bM (j:=1) rfl,_,rfl,T,_,rfl,?_};refine fE (λk=>?_) (λk=>L (by simpa using k));obtain⟨l,rfl⟩:∃l,u=.int l:=by
     cases u <;> first|exact {_,rfl} | cases r
    obtain⟨h,rfl⟩:∃h,v=.int h:=by
     cases v <;> first|exact {_,rfl} | cases k
    exact {_,rfl,a,_,_,_,rfl,rfl,cG.of b,bM (j:=0) rfl,_,rfl,a,_,_,_,rfl,rfl,cG.of b,bM (j:=1) rfl,_,_,rfl,rfl,O l h rfl rfl}
  cases S with
  | no h=>
   let (t,g,e):=zU (K:=K) h;refine {_,rfl,_,_,_,_,rfl,.ty "tuple",.inl {(t),g,e},_,rfl,?_};refine dD ?_;exact dD q
  | len b hl=>exact d rfl b (λ_=>q) λu v z=>absurd (by rw [z];rfl) hl
  | one b r k hw=>
   refine d rfl b (λz=>absurd rfl z) λu v z=>?_;cases z;refine {r,k,λ_=>q,λ_=>q,λl h y m=>?_};subst y;subst m;rcases hw with z|z <;> cases z
  | turned b n=>
   refine d rfl b (λz=>absurd rfl z) λu v z=>?_;cases z;refine {.kn (.int _),.kn (.int _),λ_=>q,λ_=>q,λl h y m=>?_};cases y;cases m;rw [decide_eq_false ∎];exact q
  | yes b n=>
   refine d rfl b (λz=>absurd rfl z) λu v z=>?_;cases z;refine {.kn (.int _),.kn (.int _),λz=>(nomatch z),λz=>(nomatch z),λl h y m=>?_};cases y;cases m;rw [decide_eq_true n];exact q
def HV (os:List (Option (Int × Int))):Prop:=(∀(j:Nat) (o:Option (Int × Int)),os[j]?=some o->o.isSome=true)/\∀(k:Nat) (l h l' h':Int),os[k]?=some (some (l,h))->os[k+1]?=some (some (l',h'))->h<=l'
inductive Gi (H:Hp):V->Bool->Prop where
 | no {x:V} (h:Kn H x):Gi H x false
 | tup {a:Addr} {xs:List V} {os:List (Option (Int × Int))} {b:Bool} (e:H a=some (.tup xs)) (hl:xs.length<=1000) (h:Paired (zV H) xs os) (hb:b=true↔HV os):Gi H (.ref a) b
def Zt:Sp:=λvs H Q _=>∃x b,vs=[x]/\Gi H x b/\Q (.bl b) H
def Ay:aK ["thing","stretch","index"] ["thing"] (aG Ya):=2#0
def Ut (W:3#0):kI P w K mg base dI "is_work" 3 Zt:=W.d3.of λF=>by
 refine F.ok Ay 11#0 (λa2 A Y s H vs Q E hr h=>?_)
 ·let (x,b,rfl,_):=h
  rfl
 ·let (x,b,rfl,hx,q):=h
  refine {_,aD (bV (cQ (cK (aY cA (by rfl) W.G.isi dF (aA (pv 0) (aA (kX (v:=.ty "tuple") (by rfl) W.G.tuple gM rfl) aC))))) (aH (aU uV)) aZ)
   (aD (eC v7 rfl (lU (pv 0)) (aM (i:=1) Ay.nd rfl (j9 rfl)) (aH (bV (cQ (cK (aX (Bp W) hr aO (aA (pv 1) aC)))) (aH (aU uV)) aZ)))
   (aD (eC v7 rfl (oG rfl W.G.range (aA aR (aA (aY cF (by rfl) W.G.len PySem.boot_len (aA (pv 0) aC)) aC))) (aM (i:=2) Ay.nd rfl (j9 rfl))
    (aH (bV (bS jG (bY bQ (bY bQ (pv 0) (pv 2) 12#0) aR 12#0) (bY bQ (bY bQ (pv 0) (bO jR (pv 2) aR) 12#0) aR 12#0) (bE _)) (aH (aU uV)) aZ)))
   (aH (aU uV)))),?_}
  cases hx with
  | no h=>
   let (t,B,e):=zU (K:=K) h
   refine {_,rfl,_,_,_,_,rfl,.ty "tuple",.inl {(t),B,e},_,rfl,?_}
   exact dD q
  | @tup a xs os b ea hl hp hb=>
   let (t,B,e):=tN (K:=K) ea
   refine {_,rfl,_,_,_,_,rfl,.ty "tuple",.inl {(t),B,e},_,rfl,?_}
   refine dE ?_
   refine {_,rfl,a,rfl,{_,cG.of ea},nQ (K:=K) (a:=a) (xs:=xs) (λi σ D=>D=H/\(∃v,σ=[some (.ref a),v,none])/\∀(j:Nat) (o:Option (Int × Int)),j<i->os[j]?=some o->o.isSome=true)
    {rfl,{(none),rfl},λj o I=>absurd I (L4 _)} (λi σ D _ ⟨m,_⟩=>by subst m;exact cG.of ea) ?_ ?_}
   ·rintro i y σ D hi ⟨rfl,⟨v,rfl⟩,d⟩
    let (o,J,O):=aN hp hi
    refine {_,rfl,y,o,rfl,O,_,rfl,?_}
    cases o with
    | none=>
     refine dD ?_
     have:b=false:=by
      cases b with
      | false=>rfl
      | true=>exact absurd ((hb.mp rfl).1 i none J) 6#0
     rw [this] at q;exact q
    | some p=>
     refine dE ?_;refine {rfl,{_,rfl},λj o' I z=>?_};by_cases Z:j<i
     ·exact d j o' Z z
     ·have:j=i:=∎;subst this;rw [J] at z;cases z;rfl
   ·rintro σ D ⟨rfl,⟨v,rfl⟩,d⟩;let U:os.length=xs.length:=hp.length.symm;let M:∀(k:Nat),k<xs.length->∃(c:Addr) (l h:Int),xs[k]?=some (.ref c)/\D c=some (.tup [.int l,.int h])/\os[k]?=some (some (l,h)):=λk L=>by
     let f:xs[k]?=some xs[k]:=i3 L;let (o,J,O):=aN hp f;let a1:=d k o L J;cases o with
     | none=>cases a1
     | some p=>
      generalize xs[k]=y at f O;cases O with
      | @yes c l h ec n=>exact {(c),l,h,f,ec,J}
    let hz:xs.length<2 ^ 62:=P0 hl 7#0;refine {_,rfl,a,xs,rfl,.inr (cG.of ea),1,(xs.length:Int),rfl,{by decide,by decide,∎,∎},iQ (lo:=1) (n:=((xs.length:Int)-1).toNat)
     (λi σ X=>X=D/\(∃v u,σ=[some (.ref a),v,u])/\∀(k:Nat) (l h g C:Int),k<i->os[k]?=some (some (l,h))->os[k+1]?=some (some (g,C))->h<=g) {rfl,{_,_,rfl},λk l h g C L=>absurd L (L4 _)} ?_ ?_}
    ·rintro i σ X hi ⟨rfl,⟨v,u,rfl⟩,r⟩;let (c,l,h,x1,x2,x3):=M i ∎;let (c',g,C,y1,y2,y3):=M (i+1) ∎;let i1:(1:Int)+(i:Int)=((i+1:Nat):Int):=∎;let i2:((i+1:Nat):Int)-1=((i:Nat):Int):=∎;rw [i1];refine {_,rfl,_,rfl,a,xs,_,_,rfl,rfl,cG.of ea,bM y1,c',_,_,_,rfl,rfl,cG.of y2,bM (j:=0) rfl,_,rfl,_,rfl,_,_,rfl,rfl,a,xs,_,_,rfl,rfl,cG.of ea,(by rw [i2];exact bM x1),c,_,_,_,rfl,rfl,cG.of x2,bM (j:=1) rfl,_,_,rfl,rfl,_,rfl,?_};refine fE (λS=>?_) (λS=>?_)
     ·let a0:g<h:=by simpa using S
      have:b=false:=by
       cases b with
       | false=>rfl
       | true=>
        have:=(hb.mp rfl).2 i l h g C x3 y3;omega
      rw [this] at q;exact q
     ·let a0:¬ g<h:=by simpa using S
      refine {rfl,{_,_,rfl},λk l2 h2 l3 h3 L f m=>?_};by_cases T:k<i
      ·exact r k l2 h2 l3 h3 T f m
      ·have:k=i:=∎;subst this;rw [x3] at f;rw [y3] at m;cases f;cases m;omega
    ·rintro σ X ⟨rfl,⟨v,u,rfl⟩,r⟩;have:b=true:=hb.mpr {λj o I=>d j o (by rw [<- U];exact(i5.mp I).1) I,λk l h g C f m=>r k l h g C (by
      have:=(i5.mp m).1
      omega) f m};rw [this] at q;exact q
def jE (H:Hp) (v:V) (p:Int × Int):Prop:=∃b,v=.ref b/\H b=some (.tup [.int p.1,.int p.2])
def aV {α β:Type} {F G:α->β->Prop} (f:∀a b,F a b->G a b) {xs:List α} {d:List β} (h:Paired F xs d):Paired G xs d:=PySem.Paired.mono f h
def cY (p:Paired F xs a) (h:F x y):Paired F (xs++[x]) (a++[y]):=PySem.Paired.snoc p h
def cT (H:Hp) (xs:List V) (ps:Lm.Ps):Prop:=Paired (jE H) xs ps
def cT.same {H H':Hp} {xs:List V} {ps:Lm.Ps} (e:aJ H H') (h:cT H xs ps):cT H' xs ps:=aV (λv q ⟨b,z1,z2⟩=>{b,z1,e _ _ z2}) h
def cJ (H:Hp) (p:Addr) (ps:Lm.Ps):Prop:=∃xs,H p=some (.tup xs)/\cT H xs ps
theorem cJ.same (e:aJ H H') (h:cJ H p ps):cJ H' p ps:=by
 let (a,b,d):=h;exact {a,e _ _ b,d.same e}
def Hi (p:cT H xs ps) (h:∀q ∈ ps,q.1<q.2):Paired (zV H) xs (ps.map some):=by
 unfold cT at p
 induction p with
 | nil=>exact .nil
 | cons r _ t=>
  let (b,rfl,a):=r;exact .cons (.yes a (h _ (j1 ..))) (t λr d=>h r (i4 _ d))
def Si (w:Lm.Wk ps) (k:Nat) (l h a h':Int) (e1:ps[k]?=some (l,h)) (b:ps[k+1]?=some (a,h')):h<=a:=by
 induction ps generalizing k with
 | nil=>cases e1
 | cons p t ih=>
  let (_,e,d):=w;cases k with
  | zero=>cases e1;exact e _ (j8 (i:=0) b)
  | succ k=>exact ih d k e1 b
def cJ.workV (h:cJ H p ps) (wk:Lm.Wk ps) (g:ps.length<=1000):Gi H (.ref p) true:=by
 let (n,i,d):=h;refine .tup i (by rw [d.length];exact g) (Hi d wk.lt) {λ_=>{λj o e=>?_,λk l h f m b a=>?_},λ_=>rfl}
 ·rw [j7] at e;cases z:ps[j]? with
  | none=>rw [z] at e;cases e
  | some q=>rw [z] at e;cases e;rfl
 ·rw [j7] at b a;cases z1:ps[k]? with
  | none=>rw [z1] at b;cases b
  | some q1=>
   cases z2:ps[k+1]? with
   | none=>rw [z2] at a;cases a
   | some q2=>
    rw [z1] at b;rw [z2] at a;cases b;cases a;exact Si wk k l h f m z1 z2
inductive Rv (vs:List V) (H:Hp) (Q:VK) (E0_:XK):Prop|mk (p:Addr) (ps:Lm.Ps) (_:vs=[.ref p]) (_:cJ H p ps) (_:Lm.Wk ps) (_:ps.length<=1000) (_:Q .non H)
def Tg:Sp:=Rv
def Tu:aK ["work"] ["work"] (aG Mq):=2#0
def yQ (W:3#0):kI P w K mg base dI "check_work" 4 Tg:=W.d4.of λF=>by
 refine F.ok Tu (λb H Q E h=>?_) (λd A a s H b Q E j h=>?_)
 ·let (p,f,rfl,_):=h
  rfl
 ·let (p,f,rfl,g,i,e,q):=h
  refine {_,aH (bV (cQ (cK (aX (Ut W) j aO (aA (pv 0) aC)))) (aH rV) aZ),?_}
  exact {_,rfl,_,true,rfl,g.workV i e,_,rfl,dE q}
inductive Jg (K:Frag) (vs:List V) (H:Hp) (Q:VK) (E0_:XK):Prop|mk (p:Addr) (xs:List V) (ps:Lm.Ps) (_:vs=[.ref p]) (_:(cM K H p xs\/H p=some (.tup xs))) (_:cT H xs ps) (_:ps.length<=1000) (_:∀r H',aJ H H'->cJ H' r (Lm.merged ps)->Q (.ref r) H')
def Kk (K:Frag):Sp:=Jg K
inductive Rh (vs:List V) (H:Hp) (Q:VK) (E0_:XK):Prop|mk (p:Addr) (ps:Lm.Ps) (_:vs=[.ref p]) (_:cJ H p ps) (_:Lm.Wk ps) (_:ps.length<=1000) (_:∀r H',aJ H H'->cJ H' r (Lm.merged ps)->Q (.ref r) H')
def Dr:Sp:=Rh
theorem oZ:∀{xs:List α} {ys:List β} {y:β},Paired F xs (ys++[y])->∃a u,xs=a++[u]/\Paired F a ys/\F u y
 | _,[],y,.cons r .nil=>{[],_,rfl,.nil,r}
 | x::xs,b::ys,y,.cons r t=>by
  let (a,u,e,p,f):=oZ (ys:=ys) t
  exact {x::a,u,by rw [e];rfl,.cons r p,f}
def Kv (us:List α) (u v:α):(us++[u]).set us.length v=us++[v]:=by
 induction us with
 | nil=>rfl
 | cons a us ih=>
  show a::(us++[u]).set us.length v=a::(us++[v]);rw [ih]
def Po:Pp (n+1) (-1)=some n:=by
 unfold Pp;rw [if_neg 7#0,if_pos ∎];congr 1;omega
def IK (qs ps:Lm.Ps) (i:Nat):Prop:=(qs=[]/\i=0)\/∃done c,qs=done++[c]/\done++Lm.mg c (ps.drop i)=Lm.merged ps
def Vx {K:Frag} {a:Addr} {xs:List V} {g:TG} {tb:TS} {D:eM} {σ:St} {H:Hp} (d:Nat->St->Hp->Prop) (l:d 0 σ H)
  (q:(∀i σ H,i<=xs.length->d i σ H->cM K H a xs)\/(∀i σ H,i<=xs.length->d i σ H->cG K H a xs))
  (o:∀i x σ H,xs[i]?=some x->d i σ H->g x σ H λj f=>tb { D with nx:=d (i+1),ct:=d (i+1),bk:=D.nx } j f) (p:∀ σ H,d xs.length σ H->D.nx σ H):
  ((∃xs,cM K H a xs)/\∃W:Nat->Nat->St->Hp->Prop,(∃m,W 0 m σ H)/\∀i m σ H,W i m σ H ->
   ((De K a).stop i H/\D.nx σ H)\/((De K a).go i H/\∃N:St->Hp->Prop,(∀e b,N e b->∃h,h<m/\W (i+1) h e b)/\∀x b,(De K a).yld i H x b->g x σ b λj f=>tb { D with nx:=N,ct:=N,bk:=D.nx } j f)) \/
  ((∃xs,cG K H a xs)/\∃W:Nat->Nat->St->Hp->Prop,(∃m,W 0 m σ H)/\∀i m σ H,W i m σ H ->
   ((Xo K a).stop i H/\D.nx σ H)\/((Xo K a).go i H/\∃N:St->Hp->Prop,(∀e b,N e b->∃h,h<m/\W (i+1) h e b)/\∀x b,(Xo K a).yld i H x b->g x σ b λj f=>tb { D with nx:=N,ct:=N,bk:=D.nx } j f)):=
 q.elim (λk=>.inl {{xs,k 0 σ H (l7 _) l},sX d l k o p}) λk=>.inr {{xs,k 0 σ H (l7 _) l},nQ d l k o p}
def xU:aK ["stretches","whole","low","high"] ["stretches"] (aG Ej):=2#0
def Hq (W:3#0):kI P w K mg base dI "merged" 1 (Kk K):=W.d5.of λF=>by
 refine F.ok xU 11#0 (λa3 A a1 s H vs Q E hr h=>?_)
 ·let (p,xs,f,rfl,_):=h
  rfl
 ·let (p,xs,f,rfl,hp,pr,hl,q):=h
  let Z:=xU.nd
  let sl:sizeLine=16777216:=sizeLine_eq
  let lx:xs.length=f.length:=pr.length
  refine Wp.ex (qY (n:=1) Z rfl nZ (l7 _) λl H1 hn s1 e1=>?_)
  let hk:(∀{d:Hp},aJ H d->cM K d p xs)\/(∀{d:Hp},aJ H d->cG K d p xs):=hp.elim (λz=>.inl λe=>e.seq z) λz=>.inr λe=>cG.of (e _ _ z)
  refine {_,aD (eC v7 rfl (BE (pv 0)) (fU rfl (bA (aM (i:=2) Z rfl (j9 rfl)) (bA (aM (i:=3) Z rfl (j9 rfl)) dO))) aS) aS,?_}
  refine {_,rfl,p,rfl,Vx (K:=K) (a:=p) (xs:=xs) (λi σ d=>aJ H d/\∃I C u v,d l=some (.lst I)/\cT d I C/\IK C f i/\C.length<=i/\σ=[some (.ref p),some (.ref l),u,v])
   {s1,[],[],_,_,e1,.nil,.inl {(rfl),rfl},i7 _,rfl} (hk.elim (λz=>.inl λi σ d _ ⟨e,_⟩=>z e) λz=>.inr λi σ d _ ⟨e,_⟩=>z e) ?_ ?_}
  ·rintro i x σ d hi ⟨S,I,C,u,v,m,L,g,ql,rfl⟩
   let (y,hy,b',rfl,X):=aN pr hi
   let il:i<xs.length:=(i5.mp hi).1
   let dr:f.drop i=y::f.drop (i+1):=by
    rw [B8 ∎];congr 1;exact Option.some.inj ((i3 ∎).symm.trans hy)
   let wl:I.length=C.length:=L.length;let D:∀{O:Hp},(∀b u,d b=some u->b≠l->O b=some u)->aJ H O:=λe b z hz=>e _ _ (S _ _ hz) (aF hz hn);let k:∀{O:Hp} {j:List V} {rs:Lm.Ps},(∀b u,d b=some u->b≠l->O b=some u)->cT d j rs->cT O j rs:=λe h=>aV (λv q ⟨b,z1,z2⟩=>{b,z1,e _ _ z2 (aL z2 m 1#0)}) h;refine {b',_,rfl,cG.of (S _ _ X),rfl,_,_,rfl,_,_,rfl,rfl,?_};refine {_,aD (bV (PW.pt (lT (jP (pv 1) (λ_=>rfl)) (iW mU))) aS aS) aS,?_};refine {_,rfl,_,.inl {I,cM.of m,rfl},?_};rcases g with ⟨rfl,rfl⟩|⟨done,c,rfl,g⟩
   ·cases L;refine dE (mF (vs:=[.int y.1,.int y.2]) 15#0 15#0 m (l7 _) (by show 2<=1000;decide) (λt H5 T J U t5=>?_) rfl (oY PySem.F.plainAttrs_list PySem.F.slot_list_append PySem.F.type_list_append eJ aP (aA (bL eO) aC)));exact cD (cD {D J,_,[y],_,_,U,.cons {(t),rfl,t5} .nil,.inr ⟨[],y,rfl,by rw [List.nil_append];cases f with|nil=>cases hy|cons a f=>(cases hy;rfl)⟩,i7 _,rfl})
   let (j,u',rfl,pu,cb,rfl,a2):=oZ L;let ne:(!(j++[V.ref cb]).isEmpty)=true:=by
    cases j <;> rfl
   rw [ne];rw [dr] at g;let al:nY (j++[V.ref cb]) (-1)=some (.ref cb):=Qz _ _;refine dD (Tv.to (b:=decide (y.1<=c.2)) 15#0 _ (fE (λY=>?_) (λY=>?_)))
   ·let B:y.1<=c.2:=of_decide_eq_true Y;let a0:done++Lm.mg (c.1,if y.2 > c.2 then y.2 else c.2) (f.drop (i+1))=Lm.merged f:=by
     rw [<- g];congr 1;show _=(if y.1<=c.2 then _ else _);rw [if_pos B]
    refine {_,aD (wM (bL (aA aP (aA (aY (Jb rfl) (by rfl) W.G.max Wj eO) aC))) (BF (pv 1) aP Ku)) aS,?_};refine Vl.to (v:=.int c.1) 15#0 _ (Av.to (vs:=[.int c.2,.int y.2]) 15#0 _ {_,_,rfl,by show 2<=sizeLine;decide,λt ht=>{_,rfl,Vl.to (v:=.int (-1)) 15#0 _ ?_}});let T:l≠t:=aF m ht;refine {l,_,_,j.length,rfl,rfl,by rw [aE T];exact m,by rw [p8];exact Po,?_};let J:∀(o:HO) b u,d b=some u->b≠l->(upd (upd d t (.tup [.int c.1,.int (if y.2 > c.2 then y.2 else c.2)])) l o) b=some u:=λo b u e n=>by rw [aE n,aE (aF e ht)];exact e
    refine cD (cD {D (J _),j++[.ref t],done++[(c.1,if y.2 > c.2 then y.2 else c.2)],_,_,?_,?_,.inr {done,_,rfl,a0},?_,rfl})
    ·rw [Kv];exact aB
    ·refine cY (k (J _) pu) {t,rfl,?_};rw [aE T.symm];exact aB
    ·rw [p8] at ql ⊢;show done.length+1<=i+1;have:done.length+1<=i:=ql;omega
   ·let B:¬ y.1<=c.2:=λz=>Y (decide_eq_true z);refine mF (vs:=[.int y.1,.int y.2]) 15#0 15#0 m ∎ (by show 2<=1000;decide) (λt H5 T J U t5=>?_) rfl (oY PySem.F.plainAttrs_list PySem.F.slot_list_append PySem.F.type_list_append eJ aP (aA (bL eO) aC));refine cD (cD {D J,_,(done++[c])++[y],_,_,U,cY (k J L) {(t),rfl,t5},.inr {done++[c],y,rfl,?_},by rw [p8];show (done++[c]).length+1<=i+1;omega,rfl});rw [<- g,w8];congr 1;show _=(if y.1<=c.2 then _ else _);rw [if_neg B];rfl
  ·rintro σ d ⟨S,I,C,u,v,m,L,g,ql,rfl⟩;refine fD {_,bZ dA (by rfl) W.G.tuple gM (aA (pv 1) aC),?_};let eq:C=Lm.merged f:=by
    let dn:f.drop xs.length=[]:=L8 ∎;rcases g with ⟨rfl,h0⟩|⟨done,c,rfl,g⟩
    ·cases f with
     | nil=>rfl
     | cons a t=>rw [lx] at h0;cases h0
    ·rw [<- g,dn];rfl
   subst eq;refine {_,rfl,l,_,rfl,.inl {cM.of m,λr M=>?_}};exact q r _ (S.trans (aI M)) {I,aB,L.same (aI M)}
def Tq:aK ["work"] ["work"] (aG Lk):=2#0
def sC (W:3#0):kI P w K mg base dI "short_form" 5 Dr:=W.d6.of λF=>by
 refine F.ok Tq (λi H Q E h=>?_) (λl A b s H i Q E e h=>?_)
 ·let (p,a,rfl,_):=h
  rfl
 ·let (p,a,rfl,d,k,f,q):=h
  refine {_,aD (eI (aX (yQ W) e aO (aA (pv 0) aC))) (aH (aU (aX (Hq W) e aO (aA (pv 0) aC)))),?_}
  let (g,m,j):=id d
  exact {_,rfl,p,a,rfl,d,k,f,_,rfl,p,g,a,rfl,.inr m,j,f,q}
inductive Cu (vs:List V) (H:Hp) (Q:VK) (E0_:XK):Prop|mk (p q:Addr) (a b:Lm.Ps) (_:vs=[.ref p,.ref q]) (_:cJ H p a) (_:cJ H q b) (_:Lm.Wk a) (_:Lm.Wk b) (_:a.length<=1000) (_:b.length<=1000) (_:∀r H',aJ H H'->cJ H' r (Lm.wo (Lm.merged a) (Lm.merged b))->Q (.ref r) H')
def uO:Sp:=Cu
def No (h:cT H xs ps) {i:Nat} (hi:i<ps.length):∃b,xs[i]?=some (.ref b)/\H b=some (.tup [.int ps[i].1,.int ps[i].2]):=by
 let a:i<xs.length:=by rw [h.length];exact hi
 let (y,d,b,e,f):=aN h (i3 a);have:y=ps[i]:=Option.some.inj (d.symm.trans (i3 hi));subst this;exact {b,by rw [i3 a,e],f}
def uQ:aK ["one","other","kept","gone","rest","first","low","high","at","index"] ["one","other"] (aG xX):=2#0
def Bm (W:3#0):kI P w K mg base dI "without" 6 uO:=W.d7.of λF=>by
 refine F.ok uQ 11#0 (λai A ad s H vs Q E hr h=>?_)
 ·let (p,q,a,b,rfl,_):=h
  rfl
 ·let (p,q,a,b,rfl,ha,hb,wa,wb,la,lb,a1):=h
  let sl:sizeLine=16777216:=sizeLine_eq
  let Z:=uQ.nd
  let G1:=W.G.len
  refine Wp.ex (cU (n:=2) Z rfl (dN (vs:=[.ref p]) (sC W) hr aO 15#0 {p,a,rfl,ha,wa,la,λkp H1 s1 hk=>?_}))
  refine cU (n:=3) Z rfl (dN (vs:=[.ref q]) (sC W) hr aO 15#0 {q,b,rfl,hb.same s1,wb,lb,λgn H0 s2 hg=>?_})
  let (sk,mk,lk):=Lm.merged_ok wa.lo
  let (sg,aj,lg):=Lm.merged_ok wb.lo
  generalize Lm.merged a=S at hk sk lk a1
  generalize Lm.merged b=g at hg sg lg a1
  let (kx,a4,aa):=hk.same s2
  let (gx,a2,a9):=hg
  let s0:=s1.trans s2
  let wl:=Lm.wo_len sk sg
  let ah:kx.length=S.length:=aa.length
  let al:gx.length=g.length:=a9.length
  refine qY (n:=4) Z rfl nZ (l7 _) λl H9 hn sn en=>?_
  show 5
  refine Dj v7 (fU rfl (bA (aM (i:=6) Z rfl (j9 rfl)) (bA (aM (i:=7) Z rfl (j9 rfl)) dO))) 15#0 (sn _ _ a4) (λi σ H2=>aJ H0 H2/\∃Y J X u1 u2 u3 u4,H2 l=some (.lst Y)/\cT H2 Y J/\J++Lm.wo (S.drop i) (g.drop X)=Lm.wo S g/\X<=g.length/\σ=[some (.ref p),some (.ref q),some (.ref kp),some (.ref gn),some (.ref l),some (.int (X:Nat)),u1,u2,u3,u4])
   {sn,[],[],0,_,_,_,_,en,.nil,rfl,l7 _,rfl} (λi σ H2 _ h=>h.1 _ _ a4) (λi x σ H2 D1 hi h T1=>?_) λσ H2 h=>?_
  rotate_left
  ·let (sm,Y,J,X,u1,u2,u3,u4,hL,pq,eq,fl,rfl):=h
   rw [L8 ∎] at eq
   let eq:J++[]=Lm.wo S g:=eq
   rw [E4] at eq
   subst eq
   refine fD {_,bZ dA (by rfl) W.G.tuple gM (aA (pv 4) aC),?_}
   refine {_,rfl,l,_,rfl,.inl {cM.of hL,λr a6=>?_}}
   exact a1 r _ (s0.trans (sm.trans (aI a6))) {Y,aB,pq.same (aI a6)}
  let (sm,Y,J,X,u1,u2,u3,u4,hL,pq,eq,fl,rfl):=h
  let (y,hy,b',rfl,ac):=aN aa hi
  let il:i<kx.length:=(i5.mp hi).1
  let dr:S.drop i=y::S.drop (i+1):=by
   rw [B8 ∎];congr 1;exact Option.some.inj ((i3 ∎).symm.trans hy)
  let U:∀{C:Hp} {k:Nat},aJ H0 C->k<g.length->∃gb,nY gx (k:Int)=some (.ref gb)/\C gb=some (.tup [.int (g.getD k (0,0)).1,.int (g.getD k (0,0)).2]):=λ{C k} e hk=>by
   let (gb,e1,e2):=No a9 hk;refine {gb,bM e1,?_};rw [A1,i3 hk];exact e _ _ e2
  let T:∀{k:Nat},k<g.length->g.drop k=g.getD k (0,0)::g.drop (k+1):=λ{k} hk=>by
   rw [B8 hk,A1,i3 hk];rfl
  rw [dr] at eq;let a8:J++(Lm.cut y.1 y.2 (Lm.skip y.1 (g.drop X))++Lm.wo (S.drop (i+1)) (Lm.skip y.1 (g.drop X)))=Lm.wo S g:=eq;let a3:∀{C H4:Hp},aJ H0 C->(∀b u,C b=some u->b≠l->H4 b=some u)->aJ H0 H4:=λe1 e2 b z hz=>e2 _ _ (e1 _ _ hz) (aF hz hn);let a0:∀{C H4:Hp} {us vs:List V} {J:Lm.Ps},C l=some (.lst vs)->(∀b u,C b=some u->b≠l->H4 b=some u)->cT C us J->cT H4 us J:=λhL e h=>aV (λv q ⟨b,z1,z2⟩=>{b,z1,e _ _ z2 (aL z2 hL 1#0)}) h;refine {b',_,rfl,cG.of (sm _ _ ac),rfl,_,_,rfl,_,_,rfl,rfl,?_};let ak:=sm _ _ a2;refine mE v7 (λm σ C=>C=H2/\∃f:Nat,m=g.length-f/\f<=g.length/\Lm.skip y.1 (g.drop f)=Lm.skip y.1 (g.drop X)/\σ=[some (.ref p),some (.ref q),some (.ref kp),some (.ref gn),some (.ref l),some (.int (f:Nat)),some (.int y.1),some (.int y.2),u3,u4]) _ {(rfl),X,rfl,fl,rfl,rfl} λm σ C h=>?_;let (rfl,f,rfl,hf,es,rfl):=h;by_cases h1:f<g.length/\(g.getD f (0,0)).2<=y.1
  ·let (gb,g1,g2):=U sm h1.1;refine .inl {?_,λD2 T2=>?_}
   ·apply Tv.is;apply oV;symm;intro _;symm;rw [decide_eq_true h1.2,decide_eq_true ∎];rfl
   ·apply Ah (n:=5);rfl;symm;exact Z;rfl;exact j9 rfl;exact .inl rfl;refine cD (T2.nx _ _ {g.length-(f+1),∎,rfl,f+1,rfl,h1.1,?_,rfl});rw [<- es,T h1.1];show _=(if (g.getD f (0,0)).2<=y.1 then _ else _);rw [if_pos h1.2]
  let ef:Lm.skip y.1 (g.drop f)=g.drop f:=by
   by_cases M:f<g.length
   ·rw [T M];show (if (g.getD f (0,0)).2<=y.1 then _ else _)=_;rw [if_neg λz=>h1 {(M),z}]
   ·rw [L8 ∎];rfl
  refine .inr {?_,?_}
  ·by_cases M:f<g.length
   ·let (gb,g1,g2):=U sm M;apply Tv.is;apply oV;symm;intro _;symm;rw [decide_eq_false λz=>h1 {(M),z},Bool.and_false]
   ·apply Tv.is;apply oV (d:=true);symm;(intro z;exact absurd (of_decide_eq_true z) ∎);rw [decide_eq_false ∎];rfl
  rw [<- es,ef] at a8;show 8;show 9;refine mE v7 (λm σ C=>aJ H0 C/\∃(Y:List V) (J:Lm.Ps) (j:Int) (ix:Nat),m=g.length-ix/\ix<=g.length/\C l=some (.lst Y)/\cT C Y J/\J++(Lm.cut j y.2 (g.drop ix)++Lm.wo (S.drop (i+1)) (g.drop f))=Lm.wo S g /\
     σ=[some (.ref p),some (.ref q),some (.ref kp),some (.ref gn),some (.ref l),some (.int (f:Nat)),some (.int y.1),some (.int y.2),some (.int j),some (.int (ix:Nat))]) _ {(sm),Y,J,y.1,f,rfl,hf,hL,pq,a8,rfl} λm σ H4 h=>?_;let (I,a5,L,j,B,rfl,hj,D,O,o,rfl):=h;let am:a5.length=L.length:=O.length;let ae:L.length<=2000:=by
   have:=congrArg List.length o;rw [p8] at this;omega
  let ag:=I _ _ a2;by_cases h3:B<g.length/\(g.getD B (0,0)).1<y.2
  ·let (gb,g1,g2):=U I h3.1;let ec:Lm.cut j y.2 (g.drop B)=(if j<(g.getD B (0,0)).1 then [(j,(g.getD B (0,0)).1)] else [])++Lm.cut (g.getD B (0,0)).2 y.2 (g.drop (B+1)):=by
    rw [T h3.1];show (if (g.getD B (0,0)).1<y.2 then _ else _)=_;rw [if_pos h3.2]
   rw [ec] at o;refine .inl {?_,λD2 T2=>?_}
   ·apply Tv.is;apply oV;symm;intro _;symm;rw [decide_eq_true h3.2,decide_eq_true ∎];rfl
   apply uE;symm
   ·intro h5;rw [if_pos (of_decide_eq_true h5)] at o;refine mF (vs:=[.int j,.int (g.getD B (0,0)).1]) (by symm) (by symm) D ∎ (by show 2<=1000;decide) (λt H5 nt k5 l5 t5=>?_) rfl (oY PySem.F.plainAttrs_list PySem.F.slot_list_append PySem.F.type_list_append eJ aP (aA (bL eO) aC));let a7:=a3 I k5;let af:=a7 _ _ a2;let g5:=k5 _ _ g2 (aL g2 D 1#0);refine cD ?_;show 8;apply Ah (n:=9);rfl;symm;exact Z;rfl;exact j9 rfl;exact .inl rfl;exact cD (T2.nx _ _ {g.length-(B+1),∎,a7,_,L++[(j,(g.getD B (0,0)).1)],_,B+1,rfl,h3.1,l5,cY (a0 D k5 O) {(t),rfl,t5},by rw [<- o];simp,rfl})
   ·intro h5;rw [if_neg (of_decide_eq_false h5)] at o;refine cD ?_;show 8;apply Ah (n:=9);rfl;symm;exact Z;rfl;exact j9 rfl;exact .inl rfl;exact cD (T2.nx _ _ {g.length-(B+1),∎,I,_,_,_,B+1,rfl,h3.1,D,O,o,rfl})
  let ec:Lm.cut j y.2 (g.drop B)=if j<y.2 then [(j,y.2)] else []:=by
   by_cases M:B<g.length
   ·rw [T M];show (if (g.getD B (0,0)).1<y.2 then _ else _)=_;rw [if_neg λz=>h3 {(M),z}]
   ·rw [L8 ∎];rfl
  rw [ec] at o;refine .inr {?_,?_}
  ·by_cases M:B<g.length
   ·let (gb,g1,g2):=U I M;apply Tv.is;apply oV;symm;intro _;symm;rw [decide_eq_false λz=>h3 {(M),z},Bool.and_false]
   ·apply Tv.is;apply oV (d:=true);symm;(intro z;exact absurd (of_decide_eq_true z) ∎);rw [decide_eq_false ∎];rfl
  apply uE;symm
  ·intro h6;rw [if_pos (of_decide_eq_true h6)] at o;refine mF (vs:=[.int j,.int y.2]) (by symm) (by symm) D ∎ (by show 2<=1000;decide) (λt H5 nt k5 l5 t5=>?_) rfl (oY PySem.F.plainAttrs_list PySem.F.slot_list_append PySem.F.type_list_append eJ aP (aA (bL eO) aC));exact cD (cD (T1.nx _ _ {a3 I k5,_,L++[(j,y.2)],f,_,_,_,_,l5,cY (a0 D k5 O) {(t),rfl,t5},by rw [<- o];simp,hf,rfl}))
  ·intro h6;rw [if_neg (of_decide_eq_false h6)] at o;exact cD (cD (T1.nx _ _ {I,a5,L,f,_,_,_,_,D,O,o,hf,rfl}))
def nP (h:Q (σ.set i (some v)) H):cS i v σ H Q:=h
def fH (h:Q true H):EY σ H Q:=h
def Gd (n:Nat) (d:PyData):Prop:=d.canLay0=true/\d.depth<=n
theorem Cp:∀{a:List PyData},(∀d ∈ a,d.canLay0=true)->PyData.canLayAll0 a=true
 | [],_=>by rw [PyData.canLayAll0]
 | d::a,h=>by
  rw [PyData.canLayAll0,h d (j1),Cp λe b=>h e (i4 _ b)]
  rfl
theorem Cj:∀{a:List PyData},(∀d ∈ a,d.depth<=n)->PyData.depthAll a<=n
 | [],_=>by rw [PyData.depthAll];exact l7 _
 | d::a,h=>by
  rw [PyData.depthAll]
  exact Nat.max_le.mpr {h d j1,Cj λe b=>h e (i4 _ b)}
def Gd.tup (h:∀d ∈ b,Gd n d):Gd (n+1) (.tuple b):=by
 refine {?_,?_}
 ·rw [PyData.canLay0];exact Cp λd a=>(h d a).1
 ·rw [PyData.depth];exact R1 (Cj λd a=>(h d a).2)
def Gd.lst (h:∀d ∈ b,Gd n d):Gd (n+1) (.list b):=by
 refine {?_,?_}
 ·rw [PyData.canLay0];exact Cp λd a=>(h d a).1
 ·rw [PyData.depth];exact R1 (Cj λd a=>(h d a).2)
theorem Gd.int (i:Int):Gd n (.int i):={by rw [PyData.canLay0],by rw [PyData.depth];exact l7 _}
def Gd.non:Gd n .none:={by rw [PyData.canLay0],by rw [PyData.depth];exact l7 _}
theorem Gd.str (h:PyData.strOk x=true):Gd n (.str x):={by rw [PyData.canLay0];exact h,by rw [PyData.depth];exact l7 _}
theorem Gd.shaped (h:Gd n d) (e:n<=64):SeqAt.shaped d=true:=by
 unfold SeqAt.shaped;rw [h.1,decide_eq_true (u8 h.2 e)];rfl
def Qc:∀d ∈ ([]:List PyData),Gd n d:=λd h=>absurd h 6#0
def gU (h:Gd n d) (f:∀e ∈ a,Gd n e):∀e ∈ d::a,Gd n e:=λe b=>by
 rcases i9.mp b with z|z
 ·rw [z];exact h
 ·exact f e z
def Ws (H:Hp) (Q:VK) (n:Nat) (M:Int->Prop):Prop:=∀(r:Addr) (d:Lm.Ps) (H':Hp),aJ H H'->cJ H' r d->Lm.Sh d->(∀x,Lm.mem d x↔M x)->d.length<=n->Q (.ref r) H'
inductive Xk (vs:List V) (H:Hp) (Q:VK) (E0_:XK):Prop|mk (p q:Addr) (a b:Lm.Ps) (_:vs=[.ref p,.ref q]) (_:cJ H p a) (_:cJ H q b) (_:Lm.Wk a) (_:Lm.Wk b) (_:a.length<=1000) (_:b.length<=1000) (_:Ws H Q (a.length+b.length) λx=>Lm.mem a x/\¬ Lm.mem b x)
def Km:Sp:=Xk
inductive HZ (vs:List V) (H:Hp) (Q:VK) (E0_:XK):Prop|mk (p:Addr) (a:Lm.Ps) (_:vs=[.ref p]) (_:cJ H p a) (_:Lm.Wk a) (_:a.length<=1000) (_:Ws H Q a.length λx=>Lm.mem a x)
def FQ:Sp:=HZ
def Wf (h:bH P w K mg base dI k f i ps uO):bH P w K mg base dI k f i ps Km:=by
 refine h.imp λz H Q E ⟨p,q,a,b,e,ha,hb,wa,wb,la,lb,t⟩=>{p,q,a,b,e,ha,hb,wa,wb,la,lb,λr u s o=>?_};let (d,j,v):=Lm.merged_ok wa.lo;let (g,l,y):=Lm.merged_ok wb.lo;let (m,B,n):=Lm.wo_ok d g;let A:=Lm.wo_len d g;exact t r _ u s o m (λx=>by rw [n x,j x,l x]) ∎
def FO (h:bH P w K mg base dI k f b ps Dr):bH P w K mg base dI k f b ps FQ:=by
 refine h.imp λm H Q E ⟨p,a,e,ha,wa,la,t⟩=>{p,a,e,ha,wa,la,λr l s j=>?_};let (d,g,i):=Lm.merged_ok wa.lo;exact t r _ l s j d g i
section
variable (W:Wd P w K mg base N c)
include W
def Yp:kI P w K mg base dI "short_form" 5 FQ:=(sC W).to FO
def Vc:kI P w K mg base dI "without" 6 Km:=(Bm W).to Wf
end
def sZ (pw d:Addr):List (Str × V):=cW "results" (.ref d) (cW "work" (.ref pw) [])
def wr:¬ ("work":Str)="results":=⋯
def vD (pw d:Addr):(sZ pw d).lookup ("work":Str)=some (.ref pw):=by
 unfold sZ;rw [eF,if_neg wr,eF,if_pos rfl]
def jZ (pw d:Addr):(sZ pw d).lookup ("results":Str)=some (.ref d):=by
 unfold sZ;rw [eF,if_pos rfl]
def gW (pw d:Addr) {m:Str} (a:¬ m="results") (h2:¬ m="work"):(sZ pw d).lookup m=none:=by
 unfold sZ;rw [eF,if_neg a,eF,if_neg h2]
 all_goals rfl
structure cN (C:Addr) (H:Hp) (p pw d:Addr) (ws:Lm.Ps) (kvs:List (bK × V)):Prop where
 ob:∃dx,H p=some (.ins C dx (sZ pw d))
 wk:cJ H pw ws
 dc:H d=some (.dK kvs)
theorem cN.same (e:aJ H H') (h:cN C H p pw d a kvs):cN C H' p pw d a kvs:=by
 let ((b,i),g,f):=h;exact {{b,e _ _ i},g.same e,e _ _ f}
inductive Xe (C:Addr) (vs:List V) (H:Hp) (Q:VK) (E0_:XK):Prop|mk (p dx q:Addr) (a:Lm.Ps) (_:vs=[.ref p,.ref q]) (_:H p=some (.ins C dx [])) (_:cJ H q a) (_:Lm.Wk a) (_:a.length<=1000) (_:∀(pw d:Addr) (ws:Lm.Ps) (H':Hp),H d=none->cN C H' p pw d ws []->Lm.Sh ws->(∀x,Lm.mem ws x↔Lm.mem a x)->ws.length<=a.length->(∀b o,H b=some o->b≠p->H' b=some o)->Q .non H')
def AB (C:Addr):Sp:=Xe C
inductive Wx (vs:List V) (H:Hp) (Q:VK) (E0_:XK):Prop|mk (p:Addr) (ns:List Int) (_:vs=[.ref p]) (_:H p=some (.tup (ns.map V.int))) (_:ns.length<=1000) (_:∀H',aJ H H'->Q (.bl true) H')
def Zw:Sp:=Wx
inductive Rp (C:Addr) (vs:List V) (H:Hp) (Q:VK) (E0_:XK):Prop|mk (p pw d:Addr) (ws:Lm.Ps) (kvs:List (bK × V)) (i j:Int) (_:vs=[.ref p,.int i,.int j]) (_:cN C H p pw d ws kvs) (_:ws.length<=1000) (_:∀H',aJ H H'->Q (.bl (ws.any λq=>decide (q.1<=i) && decide (j<=q.2))) H')
def Sz (C:Addr):Sp:=Rp C
inductive Xc (C:Addr) (vs:List V) (H:Hp) (Q:VK) (E0_:XK):Prop|mk (p pw d:Addr) (ws:Lm.Ps) (kvs:List (bK × V)) (ns:List Int) (_:vs=[.ref p]) (_:cN C H p pw d ws kvs) (_:kvs.map (·.1)=ns.map Sum.inl) (_:ns.Nodup) (_:ns.length<900) (_:Ws H Q ns.length λx=>x ∈ ns)
def AA (C:Addr):Sp:=Xc C
def AR:aK ["self","work"] ["self","work"] (aG Lq):=2#0
def Va (W:3#0):eH P w K mg base dI N.CS "__init__" 6 (AB N.CS):=W.d35.of λF=>by
 refine F.ok AR (λY H Q E h=>?_) (λJ A B s H Y Q E U h=>?_)
 ·let (p,f,q,a,rfl,_):=h
  rfl
 ·let (p,f,q,a,rfl,C,Z,L,la,t):=h
  refine {_,aD (cX (pv 0) (aX (Yp W) U aO (aA (pv 1) aC)) rfl) (aH (cX (pv 0) mZ rfl)),?_}
  refine {_,rfl,q,a,rfl,Z,L,la,λr O k l D G X I=>?_}
  refine {_,rfl,p,N.CS,f,[],rfl,l _ _ C,W.S.cl,W.S.nW,(by show 0<1000;decide),?_}
  intro d n
  let i:k p=some (.ins N.CS f []):=l _ _ C
  let g:p≠d:=λz=>by
   subst z
   rw [aB] at n
   cases n
  let j:k d=none:=by rw [aE g.symm] at n;exact n
  let x:H d=none:=l.free j
  refine {_,rfl,p,N.CS,f,_,rfl,(by rw [aE g];exact aB),W.S.cl,W.S.nR,(by show 1<1000;decide),?_}
  let y:∀b o,k b=some o->b≠p->(upd (upd (upd k p (.ins N.CS f (cW "work" (.ref r) []))) d (.dK [])) p (.ins N.CS f (cW "results" (.ref d) (cW "work" (.ref r) [])))) b=some o:=λb o e m=>by
   rw [aE m,aE (aF e j),aE m]
   exact e
  refine t r d O _ x {{(f),aB},?_,by rw [aE g.symm,aB]} G X I λb o e m=>y b o (l _ _ e) m
  let (T,u,M):=D
  exact {T,y _ _ u (λz=>by subst z;rw [i] at u;cases u),aV (λv q ⟨b,z1,z2⟩=>{b,z1,y _ _ z2 (λz=>by subst z;rw [i] at z2;cases z2)}) M}
def Hc:aK ["thing"] ["thing"] (aG xZ):=2#0
def MG:(["number"]:List Str).Nodup:=⋯
def sD (W:3#0):kI P w K mg base dI "is_numbers" 2 Zw:=W.d8.of λF=>by
 refine F.ok Hc (λU H Q E h=>?_) (λL A x s H U Q E T h=>?_)
 ·let (p,d,rfl,_):=h
  rfl
 ·let (p,d,rfl,f,Z,t):=h
  refine {_,aH (aU (gK (aY cA (by rfl) W.G.isi dF (aA (pv 0) (aA (kX (v:=.ty "tuple") (by rfl) W.G.tuple gM rfl) aC)))
   (gZ (aY (tK rfl) (by rfl) W.G.all tL (aA (dL (NB:=["number"]) (n:=1) (js:=[]) (g:=cS 0) (cl:=[]) rfl ⋯ ⋯ rfl (pP.all {(rfl),rfl,rfl,rfl}).2.2.2.1 (lU (pv 0)) (λ_ s H D J=>aM (i:=0) MG rfl (j9 rfl) (.inr rfl)) (λ_ s H D J=>dZ)
    (λ_ s H D J=>aX (dP W) T aO (aA (pv 0) aC))) aC))))),?_}
  let sl:sizeLine=16777216:=sizeLine_eq
  let (C,u,e):=tN (K:=K) f
  refine {_,rfl,_,_,_,_,rfl,.ty "tuple",.inl {(C),u,e},_,rfl,?_}
  refine dD ?_
  refine {_,rfl,p,rfl,{_,cG.of f},λl a=>?_}
  let Y:(d.map V.int).length=d.length:=i6 ..
  refine {λi m B r=>m=d.length-i/\i<=d.length/\B=(List.replicate i true).map V.bl/\aJ H r/\r l=some (.lst B),{_,rfl,l7 _,rfl,aI a,aB},?_}
  rintro i m B r ⟨rfl,hi,rfl,j,q⟩
  refine {q,?_}
  by_cases k:i<d.length
  ·refine .inr {{_,_,cG.of (j _ _ f),i3 ∎},?_}
   rintro y S ⟨rfl,O⟩
   let I:=O _ (cG.of (j _ _ f))
   let M:y=V.int d[i]:=by
    rw [j7,i3 k] at I;exact(Option.some.inj I).symm
   subst M;refine {rfl,?_};refine fH ?_;refine dD ?_;refine {_,rfl,_,rfl,.kn (.int _),q,by rw [i6,D5];omega,_,?_,rfl,k,?_,λb o z=>?_,aB}
   ·omega
   ·rw [List.replicate_succ',u7];rfl
   ·rw [aE (aF z a)];exact j _ _ z
  ·refine .inl {{_,cG.of (j _ _ f),∎},?_};refine {l,_,rfl,cM.of q,?_};let X:(List.replicate i true).all id=true:=by simp
   rw [X];exact t _ j
def Tt:aK ["self","first","behind"] ["self","first","behind"] (aG Eg):=2#0
def LK:(["low","high","behind","first"]:List Str).Nodup:=⋯
def Wq {α β:Type} (f:α->Bool) (l:List α):((l.map f).any id)=l.any f:=by
 induction l with
 | nil=>rfl
 | cons a l ih=>rw [x9,K6,K6,ih];rfl
def Oh (W:3#0):eH P w K mg base dI N.CS "holds_row" 1 (Sz N.CS):=W.d40.of λF=>by
 refine F.ok Tt 11#0 (λa0 A T s H vs Q E hr h=>?_)
 ·let (p,Z,d,f,O,i,j,rfl,_):=h
  rfl
 ·let (p,Z,d,f,O,v,I,rfl,S,lw,t):=h
  refine {_,(aH (aU (aY (Qt rfl) (by rfl) W.G.any Qx (aA (dL (NB:=["low","high","behind","first"]) (n:=2) (js:=[2,1]) (g:=Vv K 2 (sV (cS 0) (sV (cS 1) Vw))) (cl:=[("first",s.heap.objs.size+1),("behind",s.heap.objs.size+1+1)]) rfl ⋯ ⋯ rfl
    (fA.of rfl (all_cons rfl (all_cons rfl bJ)) (all_cons 13#0 (all_cons 13#0 (all_cons 13#0 (all_cons (λ_=>rfl) (all_cons (λ_=>rfl) bJ))))) rfl
     (λk j h=>match k,j,h with|0,_,rfl=>rfl|1,_,rfl=>rfl|k+2,_,h=>absurd h 6#0) (all_cons {.inl rfl,.inl rfl,rfl} (all_cons {.inl rfl,.inl rfl,rfl} bJ)))
    (lU (aQ (pv 0) rfl)) (λ_ s H X pn=>fU (n:=2) rfl (bA (aM (i:=0) LK rfl (j9 rfl) (.inr rfl)) (bA (aM (i:=1) LK rfl (j9 rfl) (.inr rfl)) dO))) (λ_ s H X pn=>dZ)
    (λ_ s H X pn=>gK (eA lM (pv 0) (pv 3) (bE _)) (gZ (eA lM (pv 2) (pv 1) (bE _))))) aC)))),?_}
  let sl:sizeLine=16777216:=sizeLine_eq
  let ((dx,h1),hw,hd):=id S
  let (r,D,Y):=id hw
  let lx:r.length=f.length:=Y.length
  refine {_,rfl,p,N.CS,dx,_,_,rfl,h1,W.S.cl,W.S.nW,vD _ _,Z,rfl,{_,cG.of D},λC a=>?_}
  refine {λi m U M=>m=r.length-i/\i<=r.length/\U=((f.take i).map λq=>decide (q.1<=v) && decide (I<=q.2)).map V.bl/\aJ H M/\M C=some (.lst U),{_,rfl,l7 _,rfl,aI a,aB},?_}
  rintro i m U M ⟨rfl,hi,rfl,l,x⟩
  refine {x,?_}
  by_cases u:i<r.length
  ·refine .inr {{r,_,cG.of (l _ _ D),i3 u},?_}
   rintro y a1 ⟨rfl,hy⟩
   let ey:=hy r (cG.of (l _ _ D))
   let (q,hq,b',rfl,J):=aN Y ey
   let B:∀b:Bool,b=(decide (q.1<=v) && decide (I<=q.2))->((f.take i).map λq=>decide (q.1<=v) && decide (I<=q.2)).map V.bl++[V.bl b]=((f.take (i+1)).map λq=>decide (q.1<=v) && decide (I<=q.2)).map V.bl:=λb hb=>by
    rw [A6,hq,hb]
    simp
   refine {b',_,rfl,cG.of (l _ _ J),rfl,_,_,rfl,_,_,rfl,rfl,rfl,?_}
   refine fH ?_
   refine dD ?_
   refine {_,rfl,_,rfl,_,_,rfl,rfl,_,rfl,?_}
   refine fE (λL=>?_) (λL=>?_)
   ·let e:q.1<=v:=by simpa using L
    refine {_,rfl,_,rfl,_,_,rfl,rfl,x,by rw [i6,i6,t9];omega,_,?_,rfl,u,B _ (by rw [decide_eq_true e];rfl),λb o z=>?_,aB}
    ·omega
    ·rw [aE (aF z a)]
     exact l _ _ z
   ·let e:¬ q.1<=v:=by simpa using L
    refine {x,by rw [i6,i6,t9];omega,_,?_,rfl,u,B _ (by rw [decide_eq_false e];rfl),λb o z=>?_,aB}
    ·omega
    ·rw [aE (aF z a)]
     exact l _ _ z
  ·refine .inl {{r,cG.of (l _ _ D),∎},?_}
   let ei:f.take i=f:=w5 ∎
   rw [ei] at x
   refine {C,_,rfl,cM.of x,?_}
   rw [Wq (β:=Int)]
   exact t _ l
def yK (ns:List Int):Lm.Ps:=ns.map λn=>(n,n+1)
def Ow:Lm.mem (yK ns) x↔x ∈ ns:=by
 constructor
 ·rintro⟨p,e,g,f⟩;let (n,b,rfl):=y0.mp e;have:x=n:=by
   let a:n<=x:=g;let d:x<n+1:=f;omega
  rw [this];exact b
 ·intro h;exact {(x,x+1),y0.mpr {(x),h,rfl},q0 _,by show x<x+1;omega}
theorem Dk:∀{ns:List Int},ns.Nodup->ns.Pairwise (·<=·)->Lm.Wk (yK ns)
 | [],_,_=>trivial
 | n::ns,nd,pw=>by
  let (b,d):=v5.mp pw
  let (e,f):=A9.mp nd
  refine {by show n<n+1;omega,λq g=>?_,Dk f d}
  let (k,a,rfl):=y0.mp g
  have i:=b k a
  have h:n≠k:=λz=>e (by rw [z];exact a)
  show n+1<=k
  omega
def IP:(["place"]:List Str).Nodup:=⋯
def Ar (C:Addr):Sp:=λvs H Q _=>∃(p pw d:Addr) (ws:Lm.Ps) (kvs:List (bK × V)) (ns:List Int),vs=[.ref p]/\cN C H p pw d ws kvs/\Lm.Sh ws/\ws.length<=64/\kvs.map (·.1)=ns.map Sum.inl/\ns.Nodup/\ns.length<900/\Ws H Q (ws.length+ns.length) λx=>Lm.mem ws x/\¬ x ∈ ns
def AO:aK ["self"] ["self"] (aG Ln):=2#0
def Fa (W:3#0):eH P w K mg base dI N.CS "laid_work" 6 (AA N.CS):=W.d41.of λF=>by
 refine F.ok AO 11#0 (λa0 A Y s H vs Q E hr h=>?_)
 ·let (p,pw,d,ws,J,L,rfl,_):=h
  rfl
 ·let (p,pw,d,ws,J,L,rfl,S,hk,nd,a1,t):=h
  refine {_,(aH (aU (aX (Yp W) hr aO (aA (bZ dA (by rfl) W.G.tuple gM (aA (dL (NB:=["place"]) (n:=1) (js:=[]) (g:=cS 0) (cl:=[]) rfl ⋯ ⋯ rfl (pP.all {(rfl),rfl,rfl,rfl}).2.2.2.1
    (eZ (aY (lQ rfl) (by rfl) W.G.sorted kD (aA (aQ (pv 0) rfl) aC))) (λ_ s H fp pn=>aM (i:=0) IP rfl (j9 rfl) (.inr rfl)) (λ_ s H fp pn=>dZ)
    (λ_ s H fp pn=>bL (aA (pv 0) (aA (bO dW (pv 0) aR) aC)))) aC)) aC)))),?_}
  let sl:sizeLine=16777216:=sizeLine_eq
  let ((dx,h1),hw,hd):=id S
  refine {_,rfl,p,N.CS,dx,_,_,rfl,h1,W.S.cl,W.S.nR,jZ _ _,d,J,L,rfl,hd,hk,∎,λl a hl X O=>?_}
  let Z:aJ H (upd H l (.lst (a.map V.int))):=aI hl
  let B:(upd H l (.lst (a.map V.int))) l=some (.lst (a.map V.int)):=aB
  generalize upd H l (.lst (a.map V.int))=H1 at Z B ⊢
  let ln:a.length=L.length:=X.length_eq
  let lm:(a.map V.int).length=a.length:=i6 ..
  refine {l,rfl,{_,cM.of B},λf e=>?_}
  let a2:l≠f:=aF B e
  refine {λi m u D=>m=a.length-i/\i<=a.length/\cT D u (yK (a.take i))/\aJ H1 D/\D f=some (.lst u),{_,rfl,l7 _,.nil,aI e,aB},?_}
  rintro i m u D ⟨rfl,hi,M,k,C⟩
  refine {C,?_}
  let ly:u.length=i:=by
   have:=M.length;unfold yK at this;rw [i6,t9] at this;omega
  by_cases j:i<a.length
  ·refine .inr {{_,_,cM.of (k _ _ B),i3 ∎},?_};rintro y a3 ⟨rfl,hy⟩;let ey:=hy _ (cM.of (k _ _ B));let ez:y=V.int a[i]:=by
    rw [j7,i3 j] at ey;exact(Option.some.inj ey).symm
   subst ez;refine {rfl,?_};refine fH ?_;refine dD ?_;refine {_,rfl,_,rfl,_,_,rfl,rfl,by show 2<=sizeLine;decide,λt' U=>?_};let nt:f≠t':=aF C U;refine {by rw [aE nt];exact C,∎,_,?_,rfl,j,?_,λb o z=>?_,aB}
   ·omega
   ·unfold yK;rw [A6,i3 j,u7];exact cY (aV (λv q ⟨b,z1,z2⟩=>{b,z1,by rw [aE (aL z2 C 1#0),aE (aF z2 U)];exact z2}) M) {t',rfl,by rw [aE nt.symm];exact aB}
   ·rw [aE (aF z e),aE (aF (k _ _ z) U)];exact k _ _ z
  ·refine .inl {{_,cM.of (k _ _ B),∎},?_};let ei:a.take i=a:=w5 ∎;rw [ei] at M;refine {f,_,rfl,.inl {cM.of C,λr I=>?_}};let lo:(yK a).length=L.length:=by unfold yK;rw [i6];exact ln
   let sA:aJ H (upd D r (.tup u)):=Z.trans (k.trans (aI I));refine {r,yK a,rfl,{u,aB,M.same (aI I)},Dk (X.nodup_iff.mpr nd) O,∎,λr2 d2 H2 s2 T sd md ld=>?_};exact t r2 d2 H2 (sA.trans s2) T sd (λx=>(md x).trans (Ow.trans X.mem_iff)) ∎
def AM:aK ["self"] ["self"] (aG Ll):=2#0
def Uw (W:3#0):eH P w K mg base dI N.CS "left_work" 7 (Ar N.CS):=W.d39.of λF=>by
 refine F.ok AM (λT H Q E h=>?_) (λB A k s H T Q E u h=>?_)
 ·let (p,l,d,i,a,m,rfl,_):=h
  rfl
 ·let (p,l,d,i,a,m,rfl,S,z,Z,G,D,e,t):=h
  refine {_,(aH (aU (aX (Vc W) u aO (aA (aQ (pv 0) rfl) (aA (bX (pv 0) W.S.cl (Fa W) u aO) aC))))),?_}
  let ((q,n),y,hd):=id S
  refine {_,rfl,p,N.CS,q,_,_,rfl,n,W.S.cl,W.S.nW,vD _ _,_,rfl,p,q,_,rfl,n,gW _ _ ⋯ ⋯,p,l,d,i,a,m,rfl,S,G,D,e,λr C Y o g U J X=>?_}
  refine {l,r,i,C,rfl,y.same o,g,z.wk,U.wk,∎,∎,λO L M I b j f v=>?_}
  exact t O L M (o.trans I) b j (λx=>(f x).trans (and_congr Iff.rfl (not_congr (J x)))) ∎
def row (vf:Int->Int) (l:Int) (n:Nat):List V:=((List.range n).map λ(i:Nat)=>vf (l+(i:Int))).map V.int
def Ua (vf:Int->Int) (l:Int) (n:Nat):(row vf l n).length=n:=by
 unfold row;rw [i6,i6,v6]
def Mu (vf:Int->Int) (l:Int) (n:Nat):row vf l (n+1)=row vf l n++[V.int (vf (l+(n:Int)))]:=by
 unfold row;rw [List.range_succ,u7,u7];rfl
theorem Zb:∀(n:Nat) (l:Int) (ns:List Int),(∀i:Nat,i<n->l+(i:Int) ∈ ns)->n<=ns.length
 | 0,_,_,_=>l7 _
 | n+1,l,ns,h=>by
  have a:=h n ∎
  have b:=Zb n l (ns.erase (l+(n:Int))) λi d=>(List.mem_erase_of_ne ∎).mpr (h i ∎)
  rw [List.length_erase_of_mem a] at b
  have:=List.length_pos_of_mem a
  omega
def Rz (vf:Int->Int) (H:Hp) (v:V) (q:Int × Int):Prop:=∃b c,v=.ref b/\H b=some (.tup [.int q.1,.ref c])/\H c=some (.tup (row vf q.1 (q.2-q.1).toNat))
structure Holds (vf:Int->Int) (kvs:List (bK × V)) (ns:List Int):Prop where
 key:kvs.map (·.1)=ns.map Sum.inl
 nd:ns.Nodup
 len:ns.length<900
 val:∀x ∈ ns,cH kvs (Sum.inl x:bK)=some (.int (vf x))
 lo:∀x ∈ ns,-(2 ^ 61)<=x/\x<2 ^ 61
inductive Cz (vf:Int->Int) (C:Addr) (vs:List V) (H:Hp) (Q:VK) (E0_:XK):Prop|mk (p pw d:Addr) (ws:Lm.Ps) (kvs:List (bK × V)) (l h:Int) (_:vs=[.ref p,.int l,.int h]) (_:cN C H p pw d ws kvs) (_:(∀x,l<=x->x<h->cH kvs (Sum.inl x:bK)=some (.int (vf x)))) (_:-(2 ^ 62)<=l) (_:l<h) (_:h<2 ^ 62) (_:h-l<=1000) (_:∀r H',aJ H H'->H' r=some (.tup (row vf l (h-l).toNat))->Q (.ref r) H')
def Gz (vf:Int->Int) (C:Addr):Sp:=Cz vf C
def Kp (vf:Int->Int) (C:Addr):Sp:=λvs H Q _=>∃(p pw d:Addr) (ws:Lm.Ps) (kvs:List (bK × V)) (ns:List Int),vs=[.ref p]/\cN C H p pw d ws kvs/\Holds vf kvs ns /\
 ∀(r:Addr) (ds:Lm.Ps) (xs:List V) (H':Hp),aJ H H'->H r=none->H' r=some (.lst xs)->Paired (Rz vf H') xs ds->Lm.Sh ds->(∀x,Lm.mem ds x↔x ∈ ns)->ds.length<=ns.length->Q (.ref r) H'
def He:aK ["self","low","high"] ["self","low","high"] (aG uR):=2#0
def JR:(["place","self"]:List Str).Nodup:=⋯
def Br (vf:Int->Int) (W:3#0):eH P w K mg base dI N.CS "numbers_between" 1 (Gz vf N.CS):=W.d42.of λF=>by
 refine F.ok He 11#0 (λX A J s H vs Q E hr h=>?_)
 ·let (p,pw,d,ws,D,l,h,rfl,_):=h
  rfl
 ·let (p,pw,d,ws,D,a,f,rfl,S,hv,T,b2,b3,b4,t):=h
  let hu:=jY hr
  refine {_,(aH (aU (bZ dA (by rfl) W.G.tuple gM (aA (dL (NB:=["place","self"]) (n:=1) (js:=[0]) (g:=cS 0) (te:=Xx (Sm K (iU 1) "results") (iU 0)) (cl:=[("self",s.heap.objs.size+1)]) rfl ⋯ ⋯ rfl
    (fA.of rfl (all_cons rfl bJ) (all_cons 13#0 (all_cons 13#0 (all_cons (λ_=>rfl) bJ))) rfl
     (λk j h=>match k,j,h with|0,_,rfl=>rfl|k+1,_,h=>absurd h 6#0) (all_cons {.inl rfl,.inl rfl,rfl} bJ))
    (oG rfl W.G.range (aA (pv 1) (aA (pv 2) aC))) (λ_ s H M O=>aM (i:=0) JR rfl (j9 rfl) (.inr rfl)) (λ_ s H M O=>dZ)
    (λ_ s H M O=>gQ (by exact hu) (aQ (pv 1) rfl) (pv 0) 12#0)) aC)))),?_}
  let sl:sizeLine=16777216:=sizeLine_eq
  let ((Z,Y),hw,hd):=id S
  refine {_,rfl,_,rfl,a,f,rfl,{T,∎,∎,b3},λu e=>?_}
  refine {λi m L B=>m=(f-a).toNat-i/\i<=(f-a).toNat/\L=row vf a i/\aJ H B/\B u=some (.lst L),{_,rfl,l7 _,rfl,aI e,aB},?_}
  rintro i m L B ⟨rfl,a0,rfl,x,v⟩
  refine {v,?_}
  by_cases q:i<(f-a).toNat
  ·refine .inr {q,?_}
   rintro y I ⟨rfl,rfl⟩
   refine nP ?_
   refine {rfl,?_}
   refine fH ?_
   refine dD ?_
   let ev:=hv (a+i) ∎ ∎
   let U:eK I d (.int (a+i)) (some (.int (vf (a+i)))):=by
    have:=eK.k (k:=(Sum.inl (a+i):bK)) (x _ _ hd);rw [ev] at this;exact this
   refine {_,rfl,p,N.CS,Z,_,_,rfl,x _ _ Y,W.S.cl,W.S.nR,jZ _ _,_,rfl,d,_,rfl,U,v,by rw [Ua];omega,_,?_,rfl,q,?_,λb o z=>?_,aB}
   ·omega
   ·rw [Mu]
   ·rw [aE (aF z e)];exact x _ _ z
  ·refine .inl {by show (f-a).toNat<=i;omega,?_};let ei:i=(f-a).toNat:=∎;rw [ei] at v;refine {u,_,rfl,.inl {cM.of v,λr C=>?_}};exact t r _ (x.trans (aI C)) aB
def GD:aK ["self"] ["self"] (aG Yd):=2#0
def GQ:(["low","high","self"]:List Str).Nodup:=⋯
def BQ (vf:Int->Int) (W:3#0):eH P w K mg base dI N.CS "all_results" 7 (Kp vf N.CS):=W.d38.of λF=>by
 refine F.ok GD 11#0 (λa6 A a4 s H vs Q E hr h=>?_)
 ·let (p,pw,d,ws,G,ns,rfl,_):=h
  rfl
 ·let (p,pw,d,ws,G,ns,rfl,S,M,t):=h
  let a3:Room 1 _:=hr.mono 7#0
  refine {_,(aH (aU (dL (NB:=["low","high","self"]) (n:=2) (js:=[0]) (g:=Vv K 2 (sV (cS 0) (sV (cS 1) Vw))) (cl:=[("self",s.heap.objs.size+1)]) rfl ⋯ ⋯ rfl
    (fA.of rfl (all_cons rfl bJ) (all_cons 13#0 (all_cons 13#0 (all_cons 13#0 (all_cons (λ_=>rfl) bJ)))) rfl
     (λk j h=>match k,j,h with|0,_,rfl=>rfl|k+1,_,h=>absurd h 6#0) (all_cons {.inl rfl,.inl rfl,rfl} bJ))
    (lU (bX (pv 0) W.S.cl (Fa W) hr aO)) (λ_ s H fp pn=>fU (n:=2) rfl (bA (aM (i:=0) GQ rfl (j9 rfl) (.inr rfl)) (bA (aM (i:=1) GQ rfl (j9 rfl) (.inr rfl)) dO))) (λ_ s H fp pn=>dZ)
    (λ_ s H fp pn=>bL (aA (pv 0) (aA (bP (pv 2) W.S.cl (Br vf W) a3 aO (aA (pv 0) (aA (pv 1) aC))) aC)))))),?_}
  let sl:sizeLine=16777216:=sizeLine_eq
  let ((dx,h1),hw,hd):=id S
  refine {_,rfl,p,dx,_,rfl,h1,gW _ _ ⋯ ⋯,p,pw,d,ws,G,ns,rfl,S,M.key,M.nd,M.len,λr O H1 s1 X sd md ld=>?_}
  let (J,x1,x2):=id X
  let a5:=M.len
  let lx:J.length=O.length:=x2.length
  refine {r,rfl,{_,cG.of x1},λa l=>?_}
  let I:H a=none:=s1.free l
  refine {λi m L U=>m=J.length-i/\i<=J.length/\Paired (Rz vf U) L (O.take i)/\aJ H1 U/\U a=some (.lst L),{_,rfl,l7 _,.nil,aI l,aB},?_}
  rintro i m L U ⟨rfl,hi,hP,B,hA⟩
  refine {hA,?_}
  let ly:L.length=i:=by
   have:=hP.length;rw [t9] at this;omega
  by_cases a1:i<J.length
  ·refine .inr {{J,_,cG.of (B _ _ x1),i3 a1},?_};rintro y a7 ⟨rfl,hy⟩;let ey:=hy J (cG.of (B _ _ x1));let (q,hq,b',rfl,a2):=aN x2 ey;let a0:q ∈ O:=j8 hq;let T:q.1<q.2:=sd.lt q a0;let u:∀x,q.1<=x->x<q.2->x ∈ ns:=λx Y Z=>(md x).mp {(q),a0,Y,Z};let cv:=Zb (q.2-q.1).toNat q.1 ns λi hi=>u _ ∎ ∎;let q1:=M.lo _ (u q.1 ∎ T);let q2:=M.lo _ (u (q.2-1) ∎ ∎);refine {b',_,rfl,cG.of (B _ _ a2),rfl,_,_,rfl,_,_,rfl,rfl,rfl,?_};refine fH ?_;refine dD ?_;let S':=S.same (s1.trans B);refine {_,rfl,_,rfl,p,dx,_,rfl,B _ _ (s1 _ _ h1),gW _ _ ⋯ ⋯,_,rfl,_,rfl,p,pw,d,ws,G,q.1,q.2,rfl,S',λx Y Z=>M.val x (u x Y Z),∎,T,∎,∎,λc H2 s2 hc=>?_};refine {by show 2<=sizeLine;decide,λt' ht=>?_};let C:H2 a=some (.lst L):=s2 _ _ hA;let nt:a≠t':=aF C ht;let nc:c≠a:=aL hc C 1#0;let st:aJ H2 (upd H2 t' (.tup [.int q.1,.ref c])):=aI ht;let f:∀b D,H2 b=some (.tup D)->(upd (upd H2 t' (.tup [.int q.1,.ref c])) a (.lst (L++[.ref t']))) b=some (.tup D):=λb D e=>by
    rw [aE (aL e C 1#0)];exact st _ _ e
   refine {by rw [aE nt];exact C,∎,_,?_,rfl,a1,?_,λb o z=>?_,aB}
   ·omega
   ·rw [A6,hq];exact cY (aV (λv q ⟨b,c,Y,Z,z3⟩=>{b,c,Y,f _ _ (s2 _ _ Z),f _ _ (s2 _ _ z3)}) hP) {t',c,rfl,by rw [aE nt.symm];exact aB,f _ _ hc}
   ·rw [aE (aF z l),aE (aF (s2 _ _ (B _ _ z)) ht)];exact s2 _ _ (B _ _ z)
  ·refine .inl {{J,cG.of (B _ _ x1),∎},?_};let ei:O.take i=O:=w5 ∎;rw [ei] at hP;exact t a O L U (s1.trans B) I hA hP sd md ld
end
end Ls
namespace L2
open PySem PySem.Spec PyProof.Rows
end L2
namespace Ls
open PySem L2 PySem.W
def lG (l:Int) (ns:List Int) (i:Nat):List (bK × V):=(List.range i).map λ(k:Nat)=>((Sum.inl (l+(k:Int)):bK),V.int (ns.getD k 0))
def Qj (l:Int) (ns:List Int) (i:Nat):(lG l ns i).length=i:=by
 unfold lG;rw [i6,v6]
def vF (l:Int) (ns:List Int) (i:Nat):lG l ns (i+1)=lG l ns i++[(Sum.inl (l+(i:Int)),V.int (ns.getD i 0))]:=by
 unfold lG;rw [List.range_succ,u7];rfl
def iA {kvs:List (bK × V)} {k:bK}:cH kvs k=none↔∀e ∈ kvs,e.1≠k:=by
 unfold cH;rw [Option.map_eq_none_iff,List.find?_eq_none];constructor
 ·intro h e a z;exact h e a (by rw [z];simp)
 ·intro h e a z;exact h e a (of_decide_eq_true z)
def zL {kvs:List (bK × V)} {l:Int} {ns:List Int} {i:Nat} (h:cH kvs (Sum.inl (l+(i:Int)):bK)=none):cH (kvs++lG l ns i) (Sum.inl (l+(i:Int)):bK)=none:=by
 rw [iA] at h ⊢;intro e a;rcases q8.mp a with z|z
 ·exact h e z
 ·let (k,b,rfl):=y0.mp z;intro z;have:=Sum.inl.inj z;have:=D9.mp b;omega
inductive DQ (C CT:Addr) (vs:List V) (H:Hp) (Q:VK) (E:XK):Prop|mk (p pw d t:Addr) (ws:Lm.Ps) (kvs:List (bK × V)) (l:Int) (ns:List Int) (_:vs=[.ref p,.int l,.ref t]) (_:cN C H p pw d ws kvs) (_:H t=some (.tup (ns.map V.int))) (_:ws.length<=1000) (_:ns.length<=1000) (_:kvs.length<=1000) (_:-(2 ^ 61)<=l) (_:l+ns.length<=2 ^ 61) (_:(∃q ∈ ws,q.1<=l/\l+ns.length<=q.2)) (_:((∀i:Nat,i<ns.length->cH kvs (Sum.inl (l+(i:Int)):bK)=none)->∀H',H' d=some (.dK (kvs++lG l ns ns.length))->(∀b o,H b=some o->b≠d->H' b=some o)->Q .non H')) (_:((∃i:Nat,i<ns.length/\cH kvs (Sum.inl (l+(i:Int)):bK)≠none)->∀H',aJ H H'->E (.ref CT) none H'))
def FU (C CT:Addr):Sp:=DQ C CT
def Fv (a:-(2 ^ 61)<=d) (h2:d<=2 ^ 61):Builtin.SmallTypes.fitsIndex d=true:=by
 unfold Builtin.SmallTypes.fitsIndex;rw [C6];exact {decide_eq_true ∎,decide_eq_true ∎}
section
variable {P:Program} {w:World} {K:Frag} {mg:Str->Option Value} {base:Heap} {N:Cn} {c:Nat->Addr}
def Ea:aK ["self","place","numbers","at","number"] ["self","place","numbers"] (aG Ef):=2#0
def BN (W:3#0):eH P w K mg base (fS P w) N.CS "lay" 3 (FU N.CS (c 9)):=W.d36.of λ{f _} F=>by
 refine F.okE Ea 11#0 (λa9 A L s H vs Q E hr h=>?_)
 ·let (p,pw,d,t,ws,r,l,m,rfl,_):=h
  rfl
 ·let (p,pw,d,t,ws,r,l,m,rfl,S,X,lw,ln,lk,b1,b2,(q,hq,q1,q2),aa,no):=h
  let hu:=jY hr
  let a3:Room 1 _:=hr.mono 7#0
  let sl:sizeLine=16777216:=sizeLine_eq
  let U:(m.map V.int).length=m.length:=i6 ..
  let k:∀H2,aJ H H2->Wp (hU (fS P w) P w K mg base ["self","place","numbers","at","number"] "Sheet.lay" (aG Ef) f a9 A L s H E) ((bG Ef).drop 2) {λ_ H'=>Q .non H',Q,λ_ _=>False,λ_ _=>False} [some (.ref p),some (.int l),some (.ref t),none,none] H2:=λH2 a0=>by
   let gt:=a0 _ _ X
   refine {_,aD (eC Q0 rfl (oG rfl W.G.range (aA (pv 1) (aA (bO dW (pv 1) (aY cF (by rfl) W.G.len PySem.boot_len (aA (pv 2) aC))) aC))) (aM (i:=3) Ea.nd rfl (j9 rfl)) aS) aS,?_}
   refine {_,rfl,_,rfl,_,rfl,t,_,rfl,.inr (cG.of gt),_,_,rfl,rfl,l,_,rfl,{ ∎,∎,by rw [U];omega,by rw [U];omega},iQ (lo:=l) (n:=(l+(((m.map V.int).length:Nat):Int)-l).toNat)
    (λi σ H3=>aJ H H3/\(∃v,σ=[some (.ref p),some (.int l),some (.ref t),v,none])/\∀j:Nat,j<i->cH r (Sum.inl (l+(j:Int)):bK)=none) {a0,{_,rfl},λj hj=>absurd hj (L4 _)} ?_ ?_}
   ·rintro i σ H3 hi ⟨M,⟨v,rfl⟩,g⟩
    rw [U] at hi
    let ((a1,g1),gw,gd):=S.same M
    refine {_,aH (bV (rT (BJ hu (pv 3) (aQ (pv 0) rfl))) (aH (eB rfl W.T.ex rfl W.T.mT cO (aA bC aC))) aZ),?_}
    refine {_,rfl,_,rfl,p,N.CS,a1,_,_,rfl,g1,W.S.cl,W.S.nR,jZ _ _,d,_,rfl,eK.k (k:=Sum.inl (l+(i:Int))) gd,_,rfl,?_}
    cases e:cH r (Sum.inl (l+(i:Int)):bK) with
    | some v=>
     refine dD ?_
     exact {by show 1<=sizeLine;decide,no {i,∎,by rw [e];simp} _ M}
    | none=>
     refine dE ?_
     refine {M,{_,rfl},λj hj=>?_}
     by_cases a7:j<i
     ·exact g j a7
     ·have:j=i:=∎
      rw [this]
      exact e
   ·rintro σ H3 ⟨M,⟨v,rfl⟩,g⟩
    rw [U] at g
    let B:∀j:Nat,j<m.length->cH r (Sum.inl (l+(j:Int)):bK)=none:=λj hj=>g j ∎
    let ((a1,g1),gw,gd):=S.same M
    let a2:=S.dc
    let (a6,J):=S.ob
    let ac:t≠d:=aL X a2 1#0
    let a4:p≠d:=aL J a2 1#0
    refine {_,aH (eC Q0 rfl (Es (by rfl) W.G.enum vG (aA (pv 2) aC) (pW (pv 1) wN)) (fU (n:=2) rfl (bA (aM (i:=3) Ea.nd rfl (j9 rfl)) (bA (aM (i:=4) Ea.nd rfl (j9 rfl)) dO))) aS),?_}
    refine {_,rfl,_,rfl,t,l,rfl,rfl,Fv b1 ∎,{_,cG.of (M _ _ X)},zC (K:=K) (a:=t) (d:=l) (xs:=m.map V.int)
     (λi σ Y=>(∃u v,σ=[some (.ref p),some (.int l),some (.ref t),u,v])/\Y d=some (.dK (r++lG l m i))/\∀b o,H b=some o->b≠d->Y b=some o)
     {{_,_,rfl},by rw [gd];simp [lG],λb o e hb=>M _ _ e} (λi σ Y _ ⟨_,_,D⟩=>cG.of (D _ _ X ac)) ?_ ?_}
    ·rintro i x σ Y t' hi ⟨⟨u,v',rfl⟩,y,D⟩ O
     let I:i<m.length:=by
      have:=(i5.mp hi).1;omega
     let ex:x=V.int (m.getD i 0):=by
      rw [j7,i3 I] at hi;rw [<- Option.some.inj hi,A1,i3 I];rfl
     subst ex;let a5:d≠t':=aF y O;let a8:p≠t':=aF (D _ _ J a4) O;refine {t',_,rfl,cG.of aB,rfl,_,_,rfl,_,_,rfl,rfl,?_};refine {_,aH (kU hu (aQ (pv 0) rfl) (pv 3) (pv 4) rfl),?_};refine {_,rfl,_,rfl,p,N.CS,a6,_,_,rfl,(by rw [aE a8];exact D _ _ J a4),W.S.cl,W.S.nR,jZ _ _,_,rfl,d,_,rfl,pO.k (k:=Sum.inl (l+(i:Int))) (by rw [aE a5];exact y) (by rw [p8,Qj];omega),?_};refine {{_,_,rfl},?_,λb o e hb=>?_}
     ·rw [aB,rR _ (zL (B i I)),w8,<- vF]
     ·rw [aE hb,aE (aF (D b o e hb) O)];exact D b o e hb
    ·rintro σ Y ⟨_,y,D⟩;rw [U] at y;exact aa B Y y D
  refine Wp.ex {_,aD (bV (PW.pt (fW (cQ (cK (aX (dP W) a3 aO (aA (pv 1) aC)))) (eL (cQ (cK (aX (sD W) hr aO (aA (pv 2) aC))))))) (aH rV) aZ) aS,?_};refine {_,rfl,_,rfl,.kn (.int _),_,rfl,dE ?_};refine {_,rfl,t,m,rfl,X,ln,λH1 s1=>{_,rfl,dE ?_}};let S1:=S.same s1;let ((dx,h1),hw,hd):=id S1;let Z:H1 t=some (.tup (m.map V.int)):=s1 _ _ X;refine {_,aD (bV (PW.pt (lT (jP (pv 2) (λ_=>rfl)) (iW (cQ (cK (bP (pv 0) W.S.cl (Oh W) a3 aO (aA (pv 1) (aA (bO dW (pv 1) (aY cF (by rfl) W.G.len PySem.boot_len (aA (pv 2) aC))) aC)))))))) (aH rV) aZ) aS,?_};refine {_,rfl,!(m.map V.int).isEmpty,.inr (.inl {_,cG.of Z,rfl}),?_};let C:(ws.any λq=>decide (q.1<=l) && decide (l+(((m.map V.int).length:Nat):Int)<=q.2))=true:=List.any_eq_true.mpr {q,hq,by rw [decide_eq_true q1,decide_eq_true (by rw [U];exact q2)];rfl};refine fE (λhc=>?_) (λhc=>dE (k H1 s1));refine {_,rfl,p,dx,_,rfl,h1,gW _ _ ⋯ ⋯,_,rfl,_,rfl,_,rfl,t,_,rfl,.inr (cG.of Z),_,_,rfl,rfl,p,pw,d,ws,r,l,_,rfl,S1,lw,λH2 s2=>{_,rfl,?_}};rw [C];exact dE (k H2 (s1.trans s2))
inductive DN (C:Addr) (vs:List V) (H:Hp) (Q:VK) (E0_:XK):Prop|mk (p pw d:Addr) (ws:Lm.Ps) (kvs:List (bK × V)) (x:V) (_:vs=[.ref p,x]) (_:cN C H p pw d ws kvs) (_:oA H x) (_:(eY x=false->Q .non H)) (_:(∀i,x=.int i->Q ((cH kvs (Sum.inl i:bK)).getD .non) H))
def FR (C:Addr):Sp:=DN C
def FY:aK ["self","place"] ["self","place"] (aG Yc):=2#0
def BM (W:3#0):eH P w K mg base dI N.CS "result_at" 2 (FR N.CS):=W.d37.of λF=>by
 refine F.ok FY (λo H Q E h=>?_) (λt A b s H o Q E f h=>?_)
 ·let (p,r,d,l,a,x,rfl,_):=h
  rfl
 ·let (p,r,d,l,a,x,rfl,S,m,n,e):=h
  let q:=jY f
  refine {_,aD (bV (cQ (cK (aX (dP W) f aO (aA (pv 1) aC)))) (aH (aU eU)) aZ) (aH (aU (Ni q (aQ (pv 0) rfl) (pv 1) (by constructor <;> rfl)))),?_}
  let ((j,u),v,g):=id S
  refine {_,rfl,_,rfl,m,_,rfl,?_}
  cases hx:eY x with
  | false=>exact dD (n hx)
  | true=>
   refine dE ?_
   obtain⟨i,rfl⟩:∃i,x=.int i:=by
    cases x <;> first|exact {_,rfl} | cases hx
   exact {_,rfl,p,N.CS,j,_,_,rfl,u,W.S.cl,W.S.nR,jZ _ _,d,rfl,.inl {a,.inl g},_,rfl,_,eK.k (k:=Sum.inl i) g,e i rfl}
abbrev pf (n l h m:Int) (lv:V):List (Str × V):=[("number",.int n),("low",.int l),("high",.int h),("mark",.int m),("lending",lv)]
def tP (C:Addr) (H:Hp) (p:Addr) (n l h m:Int) (lv:V):Prop:=∃dx,H p=some (.ins C dx (pf n l h m lv))
def kH (H:Hp):V->Option (Int × Str × Int)->Prop
 | .non,none=>True
 | .ref q,some (t,x,u)=>H q=some (.tup [.int t,.str x,.int u])
 | _,_=>False
theorem kH.non (h:kH H a o):decide (a=.non)=o.isNone:=by
 cases a <;> cases o <;> first|rfl|exact h.elim
def Uk:cW "mark" (.int a) (pf n l h m b)=pf n l h a b:=by
 simp only [cW];rw [if_neg ⋯,if_neg ⋯,if_neg ⋯,if_pos trivial]
def pZ:cW "lending" a (pf n l h m b)=pf n l h m a:=by
 simp only [cW];rw [if_neg ⋯,if_neg ⋯,if_neg ⋯,if_neg ⋯,if_pos trivial]
def Eu:cW "high" (.int h') (pf n l h m a)=pf n l h' m a:=by
 simp only [cW];rw [if_neg ⋯,if_neg ⋯,if_pos trivial]
def BG:cW "lending" a (cW "mark" (.int m) (cW "high" (.int h) (cW "low" (.int l) (cW "number" (.int n) []))))=pf n l h m a:=rfl
inductive Ri (C:Addr) (vs:List V) (H:Hp) (Q:VK) (E0_:XK):Prop|mk (p dx:Addr) (n l h:Int) (_:vs=[.ref p,.int n,.int l,.int h]) (_:H p=some (.ins C dx [])) (_:Q .non (upd H p (.ins C dx (pf n l h l .non))))
def Sv (C:Addr):Sp:=Ri C
inductive Wv (C:Addr) (vs:List V) (H:Hp) (Q:VK) (E0_:XK):Prop|mk (p:Addr) (n l h m:Int) (lv:V) (_:vs=[.ref p]) (_:tP C H p n l h m lv) (_:Q (.int (h-m)) H)
def Kh (C:Addr):Sp:=Wv C
inductive Xj (C:Addr) (vs:List V) (H:Hp) (Q:VK) (E0_:XK):Prop|mk (p:Addr) (n l h m:Int) (lv:V) (_:vs=[.ref p]) (_:tP C H p n l h m lv) (_:Q (.bl (decide (m=h))) H)
def AF (C:Addr):Sp:=Xj C
inductive Xa (C:Addr) (vs:List V) (H:Hp) (Q:VK) (E0_:XK):Prop|mk (p:Addr) (n l h m:Int) (lv:V) (_:vs=[.ref p]) (_:tP C H p n l h m lv) (_:Q (.bl (!decide (lv=.non))) H)
def Zy (C:Addr):Sp:=Xa C
inductive Xi (C:Addr) (vs:List V) (H:Hp) (Q:VK) (E0_:XK):Prop|mk (p:Addr) (n l h m:Int) (lv:V) (_:vs=[.ref p]) (_:tP C H p n l h m lv) (_:Q (.bl (decide (lv=.non) && !decide (m=h))) H)
def AE (C:Addr):Sp:=Xi C
inductive Xb (C:Addr) (vs:List V) (H:Hp) (Q:VK) (E0_:XK):Prop|mk (p:Addr) (n l h m i:Int) (lv:V) (o:Option (Int × Str × Int)) (_:vs=[.ref p,.int i]) (_:tP C H p n l h m lv) (_:kH H lv o) (_:Q (.bl (o.any λt=>decide (t.2.2<i))) H)
def Zz (C:Addr):Sp:=Xb C
inductive Xg (C:Addr) (vs:List V) (H:Hp) (Q:VK) (E0_:XK):Prop|mk (p:Addr) (n l h m i:Int) (lv:V) (o:Option (Int × Str × Int)) (_:vs=[.ref p,.int i]) (_:tP C H p n l h m lv) (_:kH H lv o) (_:Q (.bl (o.any λt=>decide (t.1=i))) H)
def AC (C:Addr):Sp:=Xg C
inductive Rg (C:Addr) (vs:List V) (H:Hp) (Q:VK) (E0_:XK):Prop|mk (p:Addr) (n l h m:Int) (lv:V) (_:vs=[.ref p]) (_:tP C H p n l h m lv) (_:∀r,H r=none->Q (.ref r) (upd H r (.tup [.int n,.int l,.int h,.int m,lv])))
def Su (C:Addr):Sp:=Rg C
def Tr:aK ["self","number","low","high"] ["self","number","low","high"] (aG Lw):=2#0
def Ny (W:3#0):eH P w K mg base dI N.CP "__init__" 1 (Sv N.CP):=W.d26.of λF=>by
 refine F.ok Tr (λe H Q E h=>?_) (λg A b s H e Q E i h=>?_)
 ·let (p,a,n,l,d,rfl,_):=h
  rfl
 ·let (p,a,n,l,d,rfl,f,t):=h
  refine {_,aD (cX (pv 0) (pv 1) rfl) (aD (cX (pv 0) (pv 2) rfl) (aD (cX (pv 0) (pv 3) rfl) (aD (cX (pv 0) (pv 2) rfl) (aH (cX (pv 0) eU rfl))))),?_}
  refine {_,rfl,_,rfl,p,N.CP,a,_,rfl,f,W.P.cl,W.P.nN,(by show 0<1000;decide),?_}
  refine {_,rfl,_,rfl,p,N.CP,a,_,rfl,aB,W.P.cl,W.P.nL,(by show 1<1000;decide),?_}
  refine {_,rfl,_,rfl,p,N.CP,a,_,rfl,aB,W.P.cl,W.P.nH,(by show 2<1000;decide),?_}
  refine {_,rfl,_,rfl,p,N.CP,a,_,rfl,aB,W.P.cl,W.P.nM,(by show 3<1000;decide),?_}
  refine {_,rfl,p,N.CP,a,_,rfl,aB,W.P.cl,W.P.nD,(by show 4<1000;decide),?_}
  rw [eR,eR,eR,eR,BG]
  exact t
def AJ:aK ["self"] ["self"] (aG Lr):=2#0
def wR (W:3#0):eH P w K mg base dI N.CP "rest" 1 (Kh N.CP):=W.d27.of λF=>by
 refine F.ok AJ (λg H Q E h=>?_) (λi A a s H g Q E j h=>?_)
 ·let (p,n,l,e,m,f,rfl,_):=h
  rfl
 ·let (p,n,l,e,m,f,rfl,(b,d),t):=h
  refine {_,aH (aU (bO jR (aQ (pv 0) rfl) (aQ (pv 0) rfl))),?_}
  exact {_,rfl,p,N.CP,b,_,_,rfl,d,W.P.cl,W.P.nH,rfl,_,rfl,p,N.CP,b,_,_,rfl,d,W.P.cl,W.P.nM,rfl,_,_,rfl,rfl,t}
def AV:aK ["self"] ["self"] (aG Ly):=2#0
def Fd (W:3#0):eH P w K mg base dI N.CP "is_done" 1 (AF N.CP):=W.d28.of λF=>by
 refine F.ok AV (λi H Q E h=>?_) (λj A b s H i Q E k h=>?_)
 ·let (p,n,l,a,m,g,rfl,_):=h
  rfl
 ·let (p,n,l,a,m,g,rfl,(d,f),t):=h
  refine {_,aH (aU (eA iL (aQ (pv 0) rfl) (aQ (pv 0) rfl) (bE _))),?_}
  refine {_,rfl,p,N.CP,d,_,_,rfl,f,W.P.cl,W.P.nM,rfl,_,rfl,p,N.CP,d,_,_,rfl,f,W.P.cl,W.P.nH,rfl,rfl,?_}
  let e:decide (V.int m=V.int a)=decide (m=a):=by rw [qJ,F0];simp
  rw [e]
  exact t
def AL:aK ["self"] ["self"] (aG Lu):=2#0
def nF (W:3#0):eH P w K mg base dI N.CP "is_lent" 1 (Zy N.CP):=W.d29.of λF=>by
 refine F.ok AL (λf H Q E h=>?_) (λi A a s H f Q E j h=>?_)
 ·let (p,n,l,b,m,e,rfl,_):=h
  rfl
 ·let (p,n,l,b,m,e,rfl,(d,g),t):=h
  refine {_,aH (aU (eA wP (aQ (pv 0) rfl) eU (bE _))),?_}
  exact {_,rfl,p,N.CP,d,_,_,rfl,g,W.P.cl,W.P.nD,rfl,rfl,t}
def AU:aK ["self"] ["self"] (aG Lx):=2#0
def Fc (W:3#0):eH P w K mg base dI N.CP "is_free" 2 (AE N.CP):=W.d30.of λF=>by
 refine F.ok AU (λk H Q E h=>?_) (λo A i s H k Q E j h=>?_)
 ·let (p,n,l,f,m,a,rfl,_):=h
  rfl
 ·let (p,n,l,f,m,a,rfl,(b,d),t):=h
  refine {_,aH (aU (gK (Bh (bX (pv 0) W.P.cl (nF W) j aO)) (gZ (Bh (bX (pv 0) W.P.cl (Fd W) j aO))))),?_}
  refine {_,rfl,p,b,_,rfl,d,rfl,p,n,l,f,m,a,rfl,{(b),d},_,rfl,_,rfl,?_}
  refine fE (λg=>?_) (λg=>?_)
  ·let e:decide (a=.non)=true:=by simpa using g
   rw [e] at t
   exact {_,rfl,p,b,_,rfl,d,rfl,p,n,l,f,m,a,rfl,{(b),d},_,rfl,t}
  ·let e:decide (a=.non)=false:=by simpa using g
   rw [e] at t
   exact t
def AN:aK ["self","moment"] ["self","moment"] (aG Lv):=2#0
def Ux (W:3#0):eH P w K mg base dI N.CP "is_late" 2 (Zz N.CP):=W.d31.of λF=>by
 refine F.ok AN (λv H Q E h=>?_) (λy A f s H v Q E r h=>?_)
 ·let (p,n,l,k,m,i,d,o,rfl,_):=h
  rfl
 ·let (p,n,l,k,m,i,d,o,rfl,(b,g),e,t):=h
  refine {_,aH (aU (gK (bX (pv 0) W.P.cl (nF W) r aO) (gZ (eA Np (pv 1) (bY bQ (aQ (pv 0) rfl) aR 12#0) (bE _))))),?_}
  refine {_,rfl,p,b,_,rfl,g,rfl,p,n,l,k,m,d,rfl,{(b),g},_,rfl,?_}
  rw [e.non]
  cases o with
  | none=>exact dE t
  | some z=>
   let (a,x,u):=z
   refine dD ?_
   cases d with
   | ref q=>exact {_,rfl,_,rfl,p,N.CP,b,_,_,rfl,g,W.P.cl,W.P.nD,rfl,q,_,_,_,rfl,rfl,cG.of e,bM (j:=2) rfl,_,_,rfl,rfl,t}
   | _=>exact e.elim
def AT:aK ["self","token"] ["self","token"] (aG Ye):=2#0
def Vb (W:3#0):eH P w K mg base dI N.CP "has_token" 2 (AC N.CP):=W.d33.of λF=>by
 refine F.ok AT (λy H Q E h=>?_) (λB A g s H y Q E v h=>?_)
 ·let (p,n,l,r,m,i,d,o,rfl,_):=h
  rfl
 ·let (p,n,l,r,m,i,d,o,rfl,(b,k),f,t):=h
  refine {_,aH (aU (gK (bX (pv 0) W.P.cl (nF W) v aO) (gZ (eA iL (bY bQ (aQ (pv 0) rfl) aR 12#0) (pv 1) (bE _))))),?_}
  refine {_,rfl,p,b,_,rfl,k,rfl,p,n,l,r,m,d,rfl,{(b),k},_,rfl,?_}
  rw [f.non]
  cases o with
  | none=>exact dE t
  | some z=>
   let (a,x,u):=z
   refine dD ?_
   cases d with
   | ref q=>
    refine {_,rfl,p,N.CP,b,_,_,rfl,k,W.P.cl,W.P.nD,rfl,q,_,_,_,rfl,rfl,cG.of f,bM (j:=0) rfl,_,rfl,rfl,?_}
    let e:decide (V.int a=V.int i)=decide (a=i):=by rw [qJ,F0];simp
    rw [e]
    exact t
   | _=>exact f.elim
def Tp:aK ["self"] ["self"] (aG Ei):=2#0
def Nx (W:3#0):eH P w K mg base dI N.CP "shown" 1 (Su N.CP):=W.d34.of λF=>by
 refine F.ok Tp (λg H Q E h=>?_) (λi A d s H g Q E j h=>?_)
 ·let (p,n,l,e,m,f,rfl,_):=h
  rfl
 ·let (p,n,l,e,m,f,rfl,(a,b),t):=h
  refine {_,aH (aU (bL (aA (aQ (pv 0) rfl) (aA (aQ (pv 0) rfl) (aA (aQ (pv 0) rfl) (aA (aQ (pv 0) rfl) (aA (aQ (pv 0) rfl) aC))))))),?_}
  exact {_,rfl,p,N.CP,a,_,_,rfl,b,W.P.cl,W.P.nN,rfl,_,rfl,p,N.CP,a,_,_,rfl,b,W.P.cl,W.P.nL,rfl,_,rfl,p,N.CP,a,_,_,rfl,b,W.P.cl,W.P.nH,rfl,_,rfl,p,N.CP,a,_,_,rfl,b,W.P.cl,W.P.nM,rfl,_,rfl,p,N.CP,a,_,_,rfl,b,W.P.cl,W.P.nD,rfl,by show 5<=sizeLine;decide,t}
def _root_.L2.Room.u1 {k:Nat} {A:Around} (a:Room k A):A.in1.units<cLine:=by have:=a.un;show A.units+1<_;omega
def Qw:bootBuiltins "min"=some (.builtin "min"):=⋯
structure Pc where
 n:Int
 l:Int
 h:Int
 m:Int
 o:Option (Int × Str × Int)
def fR (C:Addr) (H:Hp) (p:Addr) (c:Pc):Prop:=∃lv,tP C H p c.n c.l c.h c.m lv/\kH H lv c.o
def tP.sameT (e:eQ H H') (x:tP C H p n l h m a):tP C H' p n l h m a:=by
 let (b,q):=x;exact {b,e.at q}
def kH.sameT (e:eQ H H') (x:kH H a o):kH H' a o:=by
 cases a <;> cases o <;> first|exact x|exact e.at x
theorem fR.sameT {C:Addr} {H H':Hp} {p:Addr} {c:Pc} (e:eQ H H') (x:fR C H p c):fR C H' p c:=by
 let (d,a,b):=x;exact {d,a.sameT e,b.sameT e}
def Pc.k (c:Pc):Int × Int:=(-(c.h-c.m),c.l)
def sU:Pos:=match bG oE with
 | [.Return (some (.Call _ _ [⟨_,e,_⟩] _)) _]=>e.pos
 | _=>⟨0,0,0,0⟩
abbrev jH:Str:="greatest.<locals>.<lambda>"
inductive Rs (C T:Addr) (vs:List V) (H:Hp) (Q:VK) (E0_:XK):Prop|mk (l:Addr) (ps:List Addr) (cs:List Pc) (_:vs=[.ref l]) (_:H l=some (.lst (ps.map V.ref))) (_:Paired (fR C H) ps cs) (_:ps≠[]) (_:pG H T sU jH) (_:∀(i:Nat) (p:Addr) (c:Pc) (H':Hp),dG T H H'->pG H' T sU jH->ps[i]?=some p->cs[i]?=some c->(∀j c',cs[j]?=some c'->¬ lN c'.k c.k/\(j<i->lN c.k c'.k))->Q (.ref p) H')
def Tb (C T:Addr):Sp:=Rs C T
def Bb:aK ["pieces"] ["pieces"] (aG oE):=2#0
def BT:(["piece"]:List Str).Nodup:=⋯
def gR (W:3#0):kI P w K mg base dI "greatest" 4 (Tb N.CP N.T1):=W.d12.of λF hT=>by
 let (_,_,_,GR,bR,mR):=(wR W).up 1
 refine F.ok Bb 11#0 (λA outer s H vs Q E hr h=>?_)
 ·let (l,ps,cs,rfl,_):=h
  rfl
 ·let (l,ps,cs,rfl,hl,pr,ne,tb,t):=h
  refine {_,aH (aU (Um rfl hr.u1 (by rfl) W.G.min Qw (aA (pv 0) aC) (pW (Ng (q:=jH) (clos:=[]) rfl hT W.M rfl rfl rfl trivial) wN))),?_}
  refine {_,rfl,tb,λg c' ctv H1 kt nf tb1 hc1 hf1=>?_}
  let s1:eQ H H1:=by
   let (qs,e,_):=tb;exact kt.toT e
  let hl1:=s1.at hl;refine {l,g,ps,λi=>((cs[i]?).map Pc.k).getD (0,0),λH'=>aJ H1 H',rfl,rfl,aJ.refl _,λH' j=>j _ _ hl1,ne,λi p hp=>?_,λi p H' (j:aJ H1 H') hp best=>?_}
  ·let (pc,hpc,lv,hat,hld):=aN pr hp;let (dx,hdx):=hat.sameT s1;let ek:((cs[i]?).map Pc.k).getD (0,0)=pc.k:=by rw [hpc];rfl
   refine Fm (k:=1) (N:=["piece"]) (p:="piece") (J:=λH'=>aJ H1 H') (tb:=Zm (iE (LH (rU λi=>.int (-i)) (rG N.CP "rest" (Kh N.CP) [] E0 (iU 0) mJ)) (iE (Sm K (iU 0) "low") mJ))) (λH' j=>j _ _ hf1) (λH' j=>j _ _ hc1) id hr.in1 ?S ?B ?body ?J
   case S=>exact 2#0
   case B=>exact λu=>rfl
   case body=>exact λs' H' hr'=>bL (aA (Ym Jx (yI (pv 0) W.P.cl mR GR hr' bR .nil aO)) (aA (aQ (pv 0) rfl) aC))
   intro H' (j:aJ H1 H');let hp':=j _ _ hdx;refine {_,rfl,p,dx,_,rfl,hp',rfl,p,_,_,_,_,lv,rfl,{(dx),hp'},_,rfl,_,rfl,p,N.CP,dx,_,_,rfl,hp',W.P.cl,W.P.nL,rfl,by show 2<=sizeLine;decide,λr nr=>{{{r,rfl,?_},λb xs e=>?_},j.trans (aI nr)}}
   ·rw [aB];show some (HO.tup [V.int (-(pc.h-pc.m)),V.int pc.l])=some (HO.tup [V.int (((cs[i]?).map Pc.k).getD (0,0)).1,V.int (((cs[i]?).map Pc.k).getD (0,0)).2]);rw [ek];rfl
   ·exact aI nr _ _ e
  ·let (pc,hpc,_):=aN pr hp;refine t i p pc H' (kt.same j) (tb1.same j) hp hpc λj' c'' hj=>?_;let lj:j'<ps.length:=by
    have:=pr.length;have:=(i5.mp hj).1;omega
   let b:¬ lN (((cs[j']?).map Pc.k).getD (0,0)) (((cs[i]?).map Pc.k).getD (0,0))/\(j'<i->lN (((cs[i]?).map Pc.k).getD (0,0)) (((cs[j']?).map Pc.k).getD (0,0))):=best j' lj;rw [hj,hpc] at b;exact b
abbrev bf (pw sh d:Addr) (sp ev le nn nt mo:Int):List (Str × V):=[("work",.ref pw),("span",.int sp),("every",.int ev),("least",.int le),("sheet",.ref sh),("by_number",.ref d),("next_number",.int nn),("next_token",.int nt),("moment",.int mo)]
def fF (ps:List Addr) (cs:List Pc):List (bK × V):=(cs.zip ps).map λx=>((Sum.inl x.1.n:bK),V.ref x.2)
structure hV (CB CP:Addr) (H:Hp) (b pw sh d:Addr) (sp ev le nn nt mo:Int) (ps:List Addr) (cs:List Pc):Prop where
 ob:∃dx,H b=some (.ins CB dx (bf pw sh d sp ev le nn nt mo))
 dc:H d=some (.dK (fF ps cs))
 pc:Paired (fR CP H) ps cs
def cL (e:eQ H H') (h:Paired (fR C H) ps cs):Paired (fR C H') ps cs:=aV (λ_ _ x=>x.sameT e) h
def hV.sameT (e:eQ H H') (h:hV a g H b pw sh d sp f i nn nt mo ps cs):hV a g H' b pw sh d sp f i nn nt mo ps cs:=by
 let ((l,k),j,m):=h;exact {{l,e.at k},e.at j,cL e m}
def Qm (h:Paired (fR C H) ps cs):(fF ps cs).map (·.2)=ps.map V.ref:=by
 unfold fF;rw [A0];let e:(cs.zip ps).map (·.2)=ps:=G4 (D6 h.length)
 conv=>rhs;rw [<- e]
 rw [A0];rfl
def jB {C:Addr} {H:Hp} {ps:List Addr} {cs:List Pc} (h:Paired (fR C H) ps cs):(fF ps cs).length=cs.length:=by
 unfold fF;rw [i6,A4,h.length];omega
def lZ {ps:List Addr} {cs:List Pc} {i:Nat} {e:bK × V} (h:(fF ps cs)[i]?=some e):∃c p,cs[i]?=some c/\ps[i]?=some p/\e=(Sum.inl c.n,.ref p):=by
 unfold fF at h;rw [j7] at h;cases hz:(cs.zip ps)[i]? with
 | none=>rw [hz] at h;cases h
 | some x=>
  rw [hz] at h;cases h;let (a,b):=z8.mp hz;exact {_,_,a,b,rfl}
def cI {α β:Type} {F:α->β->Prop} {xs:List α} {b:List β} (p:Paired F xs b) (z:β × α) (a:z ∈ b.zip xs):F z.2 z.1:=by
 induction p with
 | nil=>cases a
 | cons r _ t=>
  cases a with
  | head=>exact r
  | tail _ h=>exact t h
theorem gD:∀{L:List (β × α)},(∀z ∈ L,F z.2 z.1)->Paired F (L.map (·.2)) (L.map (·.1))
 | [],_=>.nil
 | z::L,h=>.cons (h z (j1 ..)) (gD λq a=>h q (i4 _ a))
def HR {C:Addr} {H:Hp} {ps:List Addr} {cs:List Pc} {f:List V} (h:Paired (fR C H) ps cs) (b:Sa (cs.map Pc.l) (ps.map V.ref) f):∃(a:List Addr) (cs':List Pc),f=a.map V.ref/\cs'.Perm cs/\cs'.Pairwise (λx y=>x.l<=y.l)/\∀d,Paired (fR C d) ps cs->Paired (fR C d) a cs':=by
 let (L,g,rfl,i):=b;let k:(cs.map Pc.l).zip (ps.map V.ref)=(cs.zip ps).map λx=>(x.1.l,V.ref x.2):=by
  rw [List.zip_map];rfl
 rw [k] at g;let (M,e,rfl):=rW _ g;refine {M.map (·.2),M.map (·.1),by rw [A0,A0];rfl,?_,?_,λd m=>gD λz j=>cI m z (e.mem_iff.mp j)}
 ·have:=e.map (·.1);rwa [List.map_fst_zip (D6 h.length.symm)] at this
 ·rw [List.pairwise_map] at i ⊢;exact i
def JP:Expr:=match bG mQ with
 | [.Return (some (.ListComp _ [⟨_,.Call _ _ [⟨_,e,_⟩] _,_,_⟩] _ _)) _]=>e
 | _=>.Constant .none 0 ⟨0,0,0,0⟩
def Hj:Pos:=JP.pos
abbrev rX:Str:="Book.pieces.<locals>.<lambda>"
def pH (H:Hp) (v:V) (c:Pc):Prop:=∃t lv,v=.ref t/\H t=some (.tup [.int c.n,.int c.l,.int c.h,.int c.m,lv])/\kH H lv c.o
def kH.move (f:∀q b,H q=some (.tup b)->H' q=some (.tup b)) (x:kH H a o):kH H' a o:=by
 cases a <;> cases o <;> first|exact x|exact f _ _ x
def pH.same {H H':Hp} {v:V} {c:Pc} (e:aJ H H') (h:pH H v c):pH H' v c:=by
 let (t,b,a,d,f):=h;exact {t,b,a,e _ _ d,f.sameT (aJ.toT e)}
def eQ.free (e:eQ H H') {a:Addr} (h:H' a=none) (d:∀b,H a≠some (.tbl b)):H a=none:=by
 cases q:H a with
 | none=>rfl
 | some o=>
  rcases e a o q with ⟨b,rfl⟩|z
  ·exact absurd q (d b)
  ·rw [h] at z;cases z
inductive Jf (CB CP T:Addr) (vs:List V) (H:Hp) (Q:VK) (E0_:XK):Prop|mk (b pw sh d:Addr) (sp ev le nn nt mo:Int) (ps:List Addr) (cs:List Pc) (_:vs=[.ref b]) (_:9#0) (_:cs.length<64) (_:pG H T Hj rX) (_:∀(r:Addr) (H':Hp) (rs:List V) (cs':List Pc),dG T H H'->H r=none->pG H' T Hj rX->H' r=some (.lst rs)->cs'.Perm cs->cs'.Pairwise (λx y=>x.l<=y.l)->Paired (pH H') rs cs'->Q (.ref r) H')
def Ki (CB CP T:Addr):Sp:=Jf CB CP T
def Kz:aK ["self"] ["self"] (aG mQ):=2#0
def oK (W:3#0):eH P w K mg base dI N.CB "pieces" 4 (Ki N.CB N.CP N.T2):=W.d50.of λ{f _ c} F hT=>by
 refine F.ok Kz 11#0 (λA outer s H vs Q E hr h=>?_)
 ·let (b,pw,sh,d,sp,ev,le,nn,nt,mo,ps,cs,rfl,_):=h
  rfl
 ·let (b,pw,sh,d,sp,ev,le,nn,nt,mo,ps,cs,rfl,hb,lc,tb,t):=h
  let hr1:Room 1 (A.deeper (PyProof.Rows.envOfC "Book.pieces" (aG mQ) s.heap.objs.size f (.ref c))):=hr.mono 7#0
  refine {_,aH (aU (dL (NB:=["piece"]) (n:=1) (js:=[]) (g:=cS 0) (cl:=[]) rfl ⋯ ⋯ rfl (pP.all {(rfl),rfl,rfl,rfl}).2.2.2.1
   (eZ (Nf rfl (by rfl) W.G.sorted kD (aA (mX (aQ (pv 0) rfl)) aC) (pW (Ng (q:=rX) (clos:=[]) rfl hT W.M rfl rfl rfl trivial) wN)))
   (λ_ s H fp pn=>aM (i:=0) BT rfl (j9 rfl) (.inr rfl)) (λ_ s H fp pn=>dZ) (λ_ s H fp pn=>bX (pv 0) W.P.cl (Nx W) hr1 aO))),?_}
  let sl:sizeLine=16777216:=sizeLine_eq
  let ((dx,hbo),hdc,hpc):=id hb
  refine {_,rfl,b,N.CB,dx,_,_,rfl,hbo,W.B.cl,W.B.nB,rfl,.inr (.inr (.inl {rfl,.inl {_,hdc}})),d,_,rfl,rfl,hdc,λv nv=>?_}
  let s1:aJ H (upd H v (dY v d)):=aI nv
  let e1:(upd H v (dY v d)) v=some (dY v d):=aB
  generalize upd H v (dY v d)=H1 at s1 e1 ⊢
  let tb1:=tb.same s1
  refine {tb1,λg c' ctv H2 kt nf tb2 hc2 hf2=>?_}
  let s2:eQ H1 H2:=by
   let (qs,e,_):=tb1;exact kt.toT e
  let t2:eQ H H2:=(aJ.toT s1).trans s2;let nT:∀a,H2 a=none->H a=none:=λa h=>by
   refine eQ.free t2 h λqs z=>?_;let (rs,e,_):=tb2;by_cases y:a=N.T2
   ·rw [y,e] at h;cases h
   ·have:=kt _ _ y (s1 _ _ z);rw [h] at this;cases this
  let hp2:=cL t2 hpc;refine {v,d,g,fF ps cs,cs.map Pc.l,λH'=>aJ H2 H',rfl,rfl,s2.at e1,s2.at (s1 _ _ hdc),aJ.refl _,by rw [jB hpc,i6],by rw [jB hpc];exact lc,λi e k he hk=>?_,λl ys H3 (j:aJ H2 H3) nl bk=>?_}
  ·let (pc,p,h1,h2,rfl):=lZ he;let (pc',h1',lv,(dp,hat),hld):=aN hp2 h2;rw [h1] at h1';cases h1';rw [j7,h1] at hk;cases hk;refine Fm (k:=0) (N:=["piece"]) (p:="piece") (J:=λH'=>aJ H2 H') (tb:=Sm K (iU 0) "low") (λH' j=>j _ _ hf2) (λH' j=>j _ _ hc2) id (hr.in1).in1 ?S ?B ?body ?J
   case S=>exact 2#0
   case B=>exact λu=>rfl
   case body=>exact λs' H' hr'=>aQ (pv 0) rfl
   intro H' (j:aJ H2 H');exact {_,rfl,p,N.CP,dp,_,_,rfl,j _ _ hat,W.P.cl,W.P.nL,rfl,rfl,j}
  ·rw [Qm hpc] at bk;let (ps',cs',rfl,pm,so,mv):=HR hpc bk;let lp:ps'.length=cs'.length:=(mv H hpc).length;let lc':cs'.length=cs.length:=pm.length_eq;refine {l,rfl,{_,cM.of aB},λacc hacc=>?_};let s4:aJ H3 (upd H3 l (.lst (ps'.map V.ref))):=aI nl;let e4:(upd H3 l (.lst (ps'.map V.ref))) l=some (.lst (ps'.map V.ref)):=aB;generalize upd H3 l (.lst (ps'.map V.ref))=H4 at s4 e4 hacc ⊢;let j4:aJ H2 H4:=j.trans s4;let hp4:=mv H4 (cL (t2.trans (aJ.toT j4)) hpc);refine {λi m zs H'=>m=ps'.length-i/\i<=ps'.length/\aJ H4 H'/\H' acc=some (.lst zs)/\Paired (pH H') zs (cs'.take i),{_,rfl,l7 _,aI hacc,aB,.nil},?_};rintro i m zs H' ⟨rfl,hi,sm,hA,rows⟩;refine {hA,?_};by_cases hlt:i<ps'.length
   ·refine .inr {{_,_,cM.of (sm _ _ e4),i3 (by rw [i6];exact hlt)},?_};rintro y H'' ⟨rfl,hy⟩;let ey:=hy _ (cM.of (sm _ _ e4));rw [j7,i3 hlt] at ey;cases ey;let (pc,hpc',lv,(dp,hat),hld):=aN hp4 (i3 hlt);refine {rfl,?_};refine fH ?_;refine dD ?_;refine {_,rfl,_,dp,_,rfl,sm _ _ hat,rfl,_,_,_,_,_,lv,rfl,{dp,sm _ _ hat},λq nq=>?_};let s5:aJ H'' (upd H'' q (.tup [.int pc.n,.int pc.l,.int pc.h,.int pc.m,lv])):=aI nq;let e5:(upd H'' q (.tup [.int pc.n,.int pc.l,.int pc.h,.int pc.m,lv])) q=some (.tup [.int pc.n,.int pc.l,.int pc.h,.int pc.m,lv]):=aB;generalize upd H'' q (.tup [.int pc.n,.int pc.l,.int pc.h,.int pc.m,lv])=H5 at s5 e5 ⊢;let hA5:=s5 _ _ hA;let lz:zs.length=i:=by
     have:=rows.length;rw [t9] at this;omega
    refine {hA5,∎,_,?_,rfl,hlt,?_,aB,?_}
    ·omega
    ·intro b o z;rw [aE (aF z hacc)];exact s5 _ _ (sm _ _ z)
    ·let kp:∀v c,pH H'' v c->pH (upd H5 acc (.lst (zs++[.ref q]))) v c:=λv c ⟨t',lv',h1,h2,h3⟩=>by
      let nt:t'≠acc:=aL (s5 _ _ h2) hA5 1#0;exact {t',lv',h1,by rw [aE nt];exact s5 _ _ h2,h3.move λq' ys h=>by rw [aE (aL (s5 _ _ h) hA5 1#0)];exact s5 _ _ h}
     rw [A6,hpc'];refine cY (aV (λv c=>kp v c) rows) ?_;let nq':q≠acc:=aL e5 hA5 1#0;exact {q,lv,rfl,by rw [aE nq'];exact e5,hld.move λq' ys h=>by rw [aE (aF h hacc)];exact s5 _ _ (sm _ _ h)}
   ·refine .inl {{_,cM.of (sm _ _ e4),by rw [i6];omega},?_};let ei:cs'.take i=cs':=w5 ∎;rw [ei] at rows;refine t acc H' zs cs' ((dG.pre s1 kt).same (j4.trans sm)) (nT _ (j4.free hacc)) (tb2.same (j4.trans sm)) hA pm so rows
inductive zX (vs:List V) (H:Hp) (Q:VK) (E0_:XK):Prop|mk (a b c:Int) (_:vs=[.int a,.int b,.int c]) (_:1<=a) (_:1<=b) (_:1<=c) (_:b<=c) (_:∀H',aJ H H'->Q .non H')
def Au:Sp:=zX
def Wm:cW "next_number" (.int a) (bf pw sh d sp b e nn nt mo)=bf pw sh d sp b e a nt mo:=rfl
def Qn {C:Addr} {H:Hp} {ps:List Addr} {cs:List Pc} {p:Addr} {c:Pc} (h:Paired (fR C H) ps cs):fF (ps++[p]) (cs++[c])=fF ps cs++[(Sum.inl c.n,.ref p)]:=by
 unfold fF;rw [List.zip_append h.length.symm,u7];rfl
inductive DP (CB CP:Addr) (vs:List V) (H:Hp) (Q:VK) (E0_:XK):Prop|mk (b pw sh d:Addr) (sp ev le nn nt mo l h:Int) (ps:List Addr) (cs:List Pc) (_:vs=[.ref b,.int l,.int h]) (_:9#0) (_:(∀c ∈ cs,c.n<nn)) (_:cs.length<1000) (_:∀(p:Addr) (H':Hp),(∀a o,H a=some o->a≠b->a≠d->H' a=some o)->H p=none->hV CB CP H' b pw sh d sp ev le (nn+1) nt mo (ps++[p]) (cs++[⟨nn,l,h,l,none⟩])->Q (.ref p) H')
def FT (CB CP:Addr):Sp:=DP CB CP
def xW:aK ["span","every","least","bound"] ["span","every","least"] (aG El):=2#0
def yR (W:3#0):kI P w K mg base dI "check_bounds" 2 Au:=W.d9.of λF=>by
 refine F.ok xW (λm H Q E h=>?_) (λx A f s H m Q E k h=>?_)
 ·let (a,b,c,rfl,_):=h
  rfl
 ·let (a,b,c,rfl,B,q,j,C,t):=h
  refine {_,aD (eC v7 rfl (lU (bL (aA (pv 0) (aA (pv 1) (aA (pv 2) aC))))) (aM (i:=3) xW.nd rfl (j9 rfl))
   (aH (bV (PW.pt (fW (cQ (cK (aX (dP W) k aO (aA (pv 3) aC)))) (eL (bS jG (pv 3) aR (bE _))))) cR aZ)))
   (aH (bV (bS jG (pv 2) (pv 1) (bE _)) cR aZ)),?_}
  refine {_,rfl,_,rfl,_,rfl,by show 3<=sizeLine;decide,λr o=>?_}
  have g:aJ H (upd H r (.tup [.int a,.int b,.int c])):=aI o
  have d:(upd H r (.tup [.int a,.int b,.int c])) r=some (.tup [.int a,.int b,.int c]):=aB
  generalize upd H r (.tup [.int a,.int b,.int c])=n at g d ⊢
  have p:∀v ∈ [V.int a,.int b,.int c],∃i,v=.int i/\1<=i:=all_cons {_,rfl,B} (all_cons {_,rfl,q} (all_cons {_,rfl,j} bJ))
  refine {r,rfl,{_,cG.of d},nQ (K:=K) (a:=r) (xs:=[V.int a,.int b,.int c]) (λi σ G=>G=n/\∃u,σ=[some (.int a),some (.int b),some (.int c),u]) {rfl,_,rfl} (λi σ G _ h=>by rw [h.1];exact cG.of d) ?_ ?_}
  ·rintro i y σ G l ⟨rfl,u,rfl⟩
   let (z,rfl,D):=p y (j8 l)
   refine nP ?_
   refine {_,rfl,_,rfl,.kn (.int z),_,rfl,dE ?_}
   refine {_,rfl,_,_,rfl,rfl,_,rfl,?_}
   exact fE (λe=>absurd e (by simp;omega)) λ_=>{rfl,_,rfl}
  ·rintro σ G ⟨rfl,u,rfl⟩
   refine {_,rfl,_,rfl,_,_,rfl,rfl,_,rfl,?_}
   exact fE (λe=>absurd e (by simp;omega)) λ_=>t _ g
def Xz:aK ["self","low","high","piece"] ["self","low","high"] (aG Mb):=2#0
def Oa (W:3#0):eH P w K mg base dI N.CB "new_piece" 3 (FT N.CB N.CP):=W.d61.of λ{f _} F=>by
 let (_,_,_,GI,bI,MK):=(Ny W).mk' W.iP 1
 refine F.ok Xz 11#0 (λL A T s H vs Q E hr h=>?_)
 ·let (b,pw,Y,d,sp,ev,le,m,nt,Z,l,D,ps,cs,rfl,_):=h
  rfl
 ·let (b,pw,Y,d,sp,ev,le,m,nt,Z,l,D,ps,cs,rfl,hb,lt,ln,t):=h
  let hu:(A.deeper (PyProof.Rows.envOfC "Book.new_piece" (aG Mb) s.heap.objs.size f L)).units+1<cLine:=by have:=hr.un;omega
  refine {_,aD (bT (i:=3) Xz.nd rfl (j9 rfl) (wO MK GI hr rfl W.P.mgC bI .nil aO (aA (aQ (pv 0) rfl) (aA (pv 1) (aA (pv 2) aC)))))
   (aD (kU hu (aQ (pv 0) rfl) (aQ (pv 3) rfl) (pv 3) rfl)
   (aD (uU (pv 0) aR Pt) (aH (aU (pv 3))))),?_}
  let sl:sizeLine=16777216:=sizeLine_eq
  let ((C,g),j,v):=id hb
  refine {_,rfl,b,N.CB,C,_,_,rfl,g,W.B.cl,W.B.nN,rfl,_,rfl,_,rfl,λx r G ny ne=>{x,r,m,l,D,rfl,aB,rfl,?_}}
  rw [eR]
  let u:∀a o,H a=some o->(upd (upd H r (.own x)) x (.ins N.CP r (pf m l D l .non))) a=some o:=λa o e=>by
   rw [aE (aF e G),aE (aF e ny)]
   exact e
  let S:(upd (upd H r (.own x)) x (.ins N.CP r (pf m l D l .non))) x=some (.ins N.CP r (pf m l D l .non)):=aB
  generalize upd (upd H r (.own x)) x (.ins N.CP r (pf m l D l .non))=H2 at u S ⊢
  refine {_,rfl,_,rfl,b,N.CB,C,_,_,rfl,u _ _ g,W.B.cl,W.B.nB,rfl,_,rfl,x,N.CP,r,_,_,rfl,S,W.P.cl,W.P.nN,rfl,d,_,rfl,pO.k (k:=(Sum.inl m:bK)) (u _ _ j) (by rw [jB v];omega),?_}
  rw [rR _ (iA.mpr λe he=>?_)]
  rotate_left
  ·let (i,hi):=y6.mp he
   let (c,p,h1,_,rfl):=lZ hi
   have:=lt c (j8 h1)
   intro z
   let z:(Sum.inl c.n:bK)=Sum.inl m:=z
   cases z
   omega
  let y:b≠d:=aL g j 1#0
  let O:b≠x:=aF g G
  let X:d≠x:=aF j G
  refine {_,rfl,b,N.CB,C,_,_,rfl,(by rw [aE y];exact u _ _ g),W.B.cl,W.B.nN,rfl,_,_,rfl,rfl,C,_,(by rw [aE y];exact u _ _ g),(by show 9<1000;decide),?_}
  let I:∀a o,H2 a=some o->a≠b->a≠d->(upd (upd H2 d (.dK (fF ps cs++[((Sum.inl m:bK),V.ref x)]))) b (.ins N.CB C (cW "next_number" (.int (m+1)) (bf pw Y d sp ev le m nt Z)))) a=some o:=λa o e M U=>by
   rw [aE M,aE U]
   exact e
  refine {_,rfl,t x _ (λa o e M U=>I a o (u a o e) M U) G {{C,by rw [aB,Wm]},by rw [aE y.symm,aB,Qn v],?_}}
  refine cY (aV (λp c ⟨lv,⟨dp,ha⟩,hl⟩=>?_) v) {.non,{r,I _ _ S O.symm X.symm},trivial}
  let J:p≠b:=λz=>by
   subst z
   rw [g] at ha
   have:=Option.some.inj ha
   injection this with _ _ e
   exact absurd e (by intro z;cases z)
  exact {lv,{dp,I _ _ (u _ _ ha) J (aL ha j 1#0)},hl.move λq ys h=>I _ _ (u _ _ h) (aL h g 1#0) (aL h j 1#0)}
def qA:Nat->Lm.Ps->List Pc
 | _,[]=>[]
 | k,q::t=>⟨k,q.1,q.2,q.1,none⟩::qA (k+1) t
theorem yJ:∀(t:Lm.Ps) (k:Nat) (q:Int × Int),qA k (t++[q])=qA k t++[{((k+t.length:Nat):Int),q.1,q.2,q.1,none}]
 | [],k,q=>rfl
 | p::t,k,q=>by
  show _::qA (k+1) (t++[q])=_::(qA (k+1) t++_)
  rw [yJ t (k+1) q]
  let e:k+1+t.length=k+(p::t).length:=by rw [t7];omega
  rw [e]
theorem nA:∀(t:Lm.Ps) (k:Nat),(qA k t).length=t.length
 | [],_=>rfl
 | p::t,k=>by
  show (qA (k+1) t).length+1=t.length+1
  rw [nA t]
theorem Nn:∀(t:Lm.Ps) (k:Nat),∀c ∈ qA k t,c.n<((k+t.length:Nat):Int)
 | [],_,c,hc=>absurd hc (by simp [qA])
 | p::t,k,c,hc=>by
  rcases i9.mp hc with rfl|hc
  ·show (k:Int)<_
   rw [t7]
   omega
  ·have:=Nn t (k+1) c hc
   rw [t7]
   omega
inductive Ro (CB CS CP:Addr) (vs:List V) (H:Hp) (Q:VK) (E0_:XK):Prop|mk (p dx q:Addr) (a:Lm.Ps) (sp ev le:Int) (_:vs=[.ref p,.ref q,.int sp,.int ev,.int le]) (_:H p=some (.ins CB dx [])) (_:cJ H q a) (_:Lm.Wk a) (_:a.length<=900) (_:1<=sp) (_:1<=ev) (_:1<=le) (_:ev<=le) (_:∀(sh spw sd d:Addr) (ws:Lm.Ps) (ps:List Addr) (H':Hp),(∀b o,H b=some o->b≠p->H' b=some o)->H d=none->H sd=none->sd≠d->cN CS H' sh spw sd ws []->Lm.Sh ws->(∀x,Lm.mem ws x↔Lm.mem a x)->ws.length<=a.length ->
  hV CB CP H' p q sh d sp ev le a.length 0 0 ps (qA 0 a)->Q .non H')
def Sy (CB CS CP:Addr):Sp:=Ro CB CS CP
abbrev w4 (q:Addr) (sp ev le:Int):List (Str × V):=[("work",.ref q),("span",.int sp),("every",.int ev),("least",.int le)]
def f4:cW "least" (.int b) (cW "every" (.int a) (cW "span" (.int sp) (cW "work" (.ref q) [])))=(w4 q sp a b):=rfl
def f9:cW "moment" (.int 0) (cW "next_token" (.int 0) (cW "next_number" (.int 0) (cW "by_number" (.ref d) (cW "sheet" (.ref sh) (w4 q sp a b)))))=bf q sh d sp a b 0 0 0:=rfl
def wE:aK ["self","work","span","every","least","low","high"] ["self","work","span","every","least"] (aG rO):=2#0
def Of (W:3#0):eH P w K mg base dI N.CB "__init__" 8 (Sy N.CB N.CS N.CP):=W.d43.of λ{f _} F=>by
 let (_,_,_,GI,bI,MK):=(Va W).mk' W.iS 6
 refine F.ok wE 11#0 (λM A ad s H vs Q E hr h=>?_)
 ·let (p,g,q,a,j,k,l,rfl,_):=h
  rfl
 ·let (p,g,q,a,j,k,l,rfl,hp,hw,wa,la,b1,b2,b3,b4,t):=h
  let a9:Room 2 (A.deeper (PyProof.Rows.envOfC "Book.__init__" (aG rO) s.heap.objs.size f M)):=hr.mono 7#0
  let ac:Room 3 (A.deeper (PyProof.Rows.envOfC "Book.__init__" (aG rO) s.heap.objs.size f M)):=hr.mono 7#0
  let ae:Room 4 (A.deeper (PyProof.Rows.envOfC "Book.__init__" (aG rO) s.heap.objs.size f M)):=hr.mono 7#0
  refine {_,aD (eI (aX (yQ W) ae aO (aA (pv 1) aC)))
   (aD (eI (aX (yR W) a9 aO (aA (pv 2) (aA (pv 3) (aA (pv 4) aC)))))
   (aD (cX (pv 0) (pv 1) rfl) (aD (cX (pv 0) (pv 2) rfl) (aD (cX (pv 0) (pv 3) rfl) (aD (cX (pv 0) (pv 4) rfl)
   (aD (cX (pv 0) (wO MK GI hr rfl W.S.mgC bI .nil aO (aA (pv 1) aC)) rfl)
   (aD (cX (pv 0) mZ rfl) (aD (cX (pv 0) aR rfl) (aD (cX (pv 0) aR rfl) (aD (cX (pv 0) aR rfl)
   (aH (eC v7 rfl (lU (pv 1)) (fU (n:=2) rfl (bA (aM (i:=5) wE.nd rfl (j9 rfl)) (bA (aM (i:=6) wE.nd rfl (j9 rfl)) dO)))
    (aH (eI (bP (pv 0) W.B.cl (Oa W) ac aO (aA (pv 5) (aA (pv 6) aC))))))))))))))))),?_}
  let sl:sizeLine=16777216:=sizeLine_eq
  refine {_,rfl,q,a,rfl,hw,wa,∎,?_}
  refine {_,rfl,_,rfl,_,rfl,j,k,l,rfl,b1,b2,b3,b4,λH1 s1=>?_}
  refine {_,rfl,_,rfl,p,N.CB,g,_,rfl,s1 _ _ hp,W.B.cl,W.B.nW,(by show 0<1000;decide),?_}
  refine {_,rfl,_,rfl,p,N.CB,g,_,rfl,aB,W.B.cl,W.B.nS,(by show 1<1000;decide),?_}
  refine {_,rfl,_,rfl,p,N.CB,g,_,rfl,aB,W.B.cl,W.B.nE,(by show 2<1000;decide),?_}
  refine {_,rfl,_,rfl,p,N.CB,g,_,rfl,aB,W.B.cl,W.B.nL,(by show 3<1000;decide),?_}
  rw [eR,eR,eR,f4]
  let k2:∀b o,H b=some o->b≠p->(upd H1 p (.ins N.CB g (w4 q j k l))) b=some o:=λb o e n=>by rw [aE n];exact s1 _ _ e
  let e2:(upd H1 p (.ins N.CB g (w4 q j k l))) p=some (.ins N.CB g (w4 q j k l)):=aB
  let n2:∀b,(upd H1 p (.ins N.CB g (w4 q j k l))) b=none->H b=none:=λb e=>by
   cases z:H b with
   | none=>rfl
   | some o=>
    by_cases y:b=p
    ·rw [y,aB] at e
     cases e
    ·rw [k2 b o z y] at e
     cases e
  generalize upd H1 p (.ins N.CB g (w4 q j k l))=Y at k2 e2 n2 ⊢
  let a0:cJ Y q a:=by
   let (xs,D,x2):=hw;refine {xs,k2 _ _ D (aL D hp 1#0),aV (λv r ⟨b,z1,z2⟩=>{b,z1,k2 _ _ z2 (aL z2 hp 1#0)}) x2}
  refine {_,rfl,λx dy X ny ne=>{x,dy,q,a,rfl,aB,?_,wa,∎,λa4 sd ws J a5 S sh mm ll kp=>{rfl,?_}}}
  ·exact a0.same λb o e=>by rw [aE (aF e X),aE (aF e ny)];exact e
  let k3:∀b o,Y b=some o->J b=some o:=λb o e=>kp b o (by rw [aE (aF e X),aE (aF e ny)];exact e) (aF e X);let a1:Y sd=none:=by
   cases z:Y sd with
   | none=>rfl
   | some o=>
    rw [aE (aF z X),aE (aF z ny),z] at a5;cases a5
  let a3:=a0.same k3;refine {_,rfl,p,N.CB,g,_,rfl,k3 _ _ e2,W.B.cl,W.B.nH,(by show 4<1000;decide),?_};intro d nd;let T:p≠d:=λz=>by
   rw [<- z,aB] at nd;cases nd
  let m:J d=none:=by rw [aE T.symm] at nd;exact nd
  let a2:Y d=none:=by
   cases z:Y d with
   | none=>rfl
   | some o=>rw [k3 _ _ z] at m;cases m
  refine {_,rfl,p,N.CB,g,_,rfl,(by rw [aE T];exact aB),W.B.cl,W.B.nB,(by show 5<1000;decide),?_};refine {_,rfl,p,N.CB,g,_,rfl,aB,W.B.cl,W.B.nN,(by show 6<1000;decide),?_};refine {_,rfl,p,N.CB,g,_,rfl,aB,W.B.cl,W.B.nT,(by show 7<1000;decide),?_};refine {_,rfl,p,N.CB,g,_,rfl,aB,W.B.cl,W.B.nM,(by show 8<1000;decide),?_};rw [eR,eR,eR,f9];let k5:∀b o,J b=some o->b≠p->(upd (upd (upd J p (.ins N.CB g (cW "sheet" (.ref x) (w4 q j k l)))) d (.dK [])) p (.ins N.CB g (bf q x d j k l 0 0 0))) b=some o:=λb o e n=>by
   rw [aE n,aE (aF e m),aE n];exact e
  let e5:(upd (upd (upd J p (.ins N.CB g (cW "sheet" (.ref x) (w4 q j k l)))) d (.dK [])) p (.ins N.CB g (bf q x d j k l 0 0 0))) p=some (.ins N.CB g (bf q x d j k l 0 0 0)):=aB;let d5:(upd (upd (upd J p (.ins N.CB g (cW "sheet" (.ref x) (w4 q j k l)))) d (.dK [])) p (.ins N.CB g (bf q x d j k l 0 0 0))) d=some (.dK []):=by rw [aE T.symm,aB]
  generalize upd (upd (upd J p (.ins N.CB g (cW "sheet" (.ref x) (w4 q j k l)))) d (.dK [])) p (.ins N.CB g (bf q x d j k l 0 0 0))=H5 at k5 e5 d5 ⊢;let C:J p=some (.ins N.CB g (w4 q j k l)):=k3 _ _ e2;let L:sd≠d:=λz=>by
   have:=S.dc;rw [z,m] at this;cases this
  let mv:∀G:Hp,(∀b o,J b=some o->b≠p->b≠d->G b=some o)->cJ G q a/\cN N.CS G x a4 sd ws []:=λG I=>by
   let wm:∀r U,cJ J r U->cJ G r U:=λr U ⟨xs,D,x2⟩=>{xs,I _ _ D (aL D C 1#0) (aF D m),aV (λv r ⟨b,z1,z2⟩=>{b,z1,I _ _ z2 (aL z2 C 1#0) (aF z2 m)}) x2};let ((dz,a6),af,a7):=S;let ag:x≠p:=λz=>by
    rw [z,e2] at X;cases X
   exact {wm _ _ a3,{dz,I _ _ a6 ag (aF a6 m)},wm _ _ af,I _ _ a7 (aL a7 C 1#0) L}
  let (xs,D,x2):=id a3;let lx:xs.length=a.length:=x2.length;refine {_,rfl,q,rfl,{_,cG.of (k5 _ _ D (aL D C 1#0))},nQ (K:=K) (a:=q) (xs:=xs) (λi σ G=>(∃Z,hV N.CB N.CP G p q x d j k l i 0 0 Z (qA 0 (a.take i)))/\(∀b o,J b=some o->b≠p->b≠d->G b=some o)/\∃u v,σ=[some (.ref p),some (.ref q),some (.int j),some (.int k),some (.int l),u,v])
   {{[],{(g),e5},d5,.nil},λb o e n _=>k5 b o e n,_,_,rfl} (λi σ G _ ⟨_,I,_⟩=>cG.of (I _ _ D (aL D C 1#0) (aF D m))) ?_ ?_}
  ·rintro i y σ G hi ⟨⟨Z,hb⟩,I,u,v,rfl⟩;let (c,hc,r,rfl,O):=aN x2 hi;let il:i<a.length:=(i5.mp hc).1;let lt:(a.take i).length=i:=by rw [t9];omega
   refine {r,_,rfl,cG.of (I _ _ O (aL O C 1#0) (aF O m)),rfl,_,_,rfl,_,_,rfl,rfl,?_};let (dz,ah):=hb.ob;refine {_,rfl,p,dz,_,rfl,ah,rfl,_,rfl,_,rfl,p,q,x,d,j,k,l,_,0,0,c.1,c.2,Z,_,rfl,hb,λc' aa=>?_,?_,λp' G' kf ai a8=>?_}
   ·have:=Nn _ _ c' aa;rw [lt] at this;omega
   ·rw [nA,lt];omega
   ·refine {{Z++[p'],?_},λb o e n1 n2=>kf b o (I b o e n1 n2) n1 n2,_,_,rfl};let e:qA 0 (a.take (i+1))=qA 0 (a.take i)++[{(i:Int),c.1,c.2,c.1,none}]:=by
     rw [A6,hc];show qA 0 (a.take i++[c])=_;rw [yJ,lt];simp
    rw [e];exact a8
  ·rintro σ G ⟨⟨Z,hb⟩,I,u,v,rfl⟩;rw [lx,w5 (i7 _)] at hb;have:=mv G I;exact t x a4 sd d ws Z G (λb o e n=>I b o (k3 _ _ (k2 b o e n)) n (aF (k2 b o e n) a2)) (n2 _ a2) (n2 _ a1) L this.2 sh mm ll hb
def Jl (CB:Addr) (H:Hp) (b pw sh d:Addr) (sp ev le nn nt mo:Int):Prop:=∃dx,H b=some (.ins CB dx (bf pw sh d sp ev le nn nt mo))
inductive DO (CB:Addr) (vs:List V) (H:Hp) (Q:VK) (E0_:XK):Prop|mk (b pw sh d:Addr) (sp ev le nn nt mo:Int) (_:vs=[.ref b]) (_:Jl CB H b pw sh d sp ev le nn nt mo) (_:Q (.int mo) H)
def FS (CB:Addr):Sp:=DO CB
inductive DL (CB CS:Addr) (sp':Sp) (vs:List V) (H:Hp) (Q:VK) (E:XK):Prop|mk (b pw sh d pw' d':Addr) (sp ev le nn nt mo:Int) (ws:Lm.Ps) (kvs:List (bK × V)) (_:vs=[.ref b]) (_:Jl CB H b pw sh d sp ev le nn nt mo) (_:cN CS H sh pw' d' ws kvs) (_:sp' [.ref sh] H Q E)
def Dq (CB CS:Addr) (sp':Sp):Sp:=DL CB CS sp'
inductive Rj (CB:Addr) (vs:List V) (H:Hp) (Q:VK) (E0_:XK):Prop|mk (b pw sh d:Addr) (sp ev le nn nt mo i:Int) (_:vs=[.ref b,.int i]) (_:Jl CB H b pw sh d sp ev le nn nt mo) (_:mo<=i) (_:Q .non H)
def vY (CB:Addr):Sp:=Rj CB
def FZ:aK ["self"] ["self"] (aG Yg):=2#0
def Nz (W:3#0):eH P w K mg base dI N.CB "moment_now" 1 (FS N.CB):=W.d51.of λF=>by
 refine F.ok FZ (λk H Q E h=>?_) (λl A a s H k Q E r h=>?_)
 ·let (b,o,i,d,p,n,q,f,m,j,rfl,_):=h
  rfl
 ·let (b,o,i,d,p,n,q,f,m,j,rfl,(e,g),t):=h
  exact {_,aH (aU (aQ (pv 0) rfl)),_,rfl,b,N.CB,e,_,_,rfl,g,W.B.cl,W.B.nM,rfl,t}
def AQ:aK ["self"] ["self"] (aG Mn):=2#0
def Uy {f:Addr} {l:FuncData} {sp':Sp} {k:Nat} (F:qW K "all_results" "Book.all_results" Mn f l) (J:eH P w K mg base dI N.CS "all_results" k (λa H Q _=>sp' a H Q E0)) (W:3#0):bH P w K mg base dI (k+1) f l ["self"] (Dq N.CB N.CS λa H Q _=>sp' a H Q E0):=by
 refine F.ok AQ (λa H Q E h=>?_) (λp A i s H a Q E D h=>?_)
 ·let (b,z,j,d,e,v,C,L,o,r,I,m,x,g,rfl,_):=h;rfl
 ·let (b,z,j,d,e,v,C,L,o,r,I,m,x,g,rfl,(q,y),n,t):=h;let (u,G):=n.ob;refine {_,aH (aU (bX (aQ (pv 0) rfl) W.S.cl J D aO)),?_};exact {_,rfl,b,N.CB,q,_,_,rfl,y,W.B.cl,W.B.nH,rfl,j,u,_,rfl,G,gW _ _ ⋯ ⋯,t}
def Ts:aK ["self"] ["self"] (aG Me):=2#0
def Oe {sp':Sp} {k:Nat} (G:eH P w K mg base dI N.CS "left_work" k (λa H Q _=>sp' a H Q E0)) (W:3#0):eH P w K mg base dI N.CB "left_work" (k+1) (Dq N.CB N.CS λa H Q _=>sp' a H Q E0):=W.d53.of λF=>by
 refine F.ok Ts (λa H Q E h=>?_) (λn A g s H a Q E z h=>?_)
 ·let (b,x,i,d,e,r,y,I,m,p,D,j,u,f,rfl,_):=h
  rfl
 ·let (b,x,i,d,e,r,y,I,m,p,D,j,u,f,rfl,(o,v),l,t):=h
  let (q,C):=l.ob
  refine {_,aH (aU (bX (aQ (pv 0) rfl) W.S.cl G z aO)),?_}
  exact {_,rfl,b,N.CB,o,_,_,rfl,v,W.B.cl,W.B.nH,rfl,i,q,_,rfl,C,gW _ _ ⋯ ⋯,t}
def GA:aK ["self","moment"] ["self","moment"] (aG yB):=2#0
section
variable (W:Wd P w K mg base N c)
include W
def Hr:eH P w K mg base dI N.CB "left_work" 8 (Dq N.CB N.CS λa H Q _=>Ar N.CS a H Q E0):=Oe (sp':=Ar N.CS) (Uw W) W
end
def iC (e:H a=some u) (s:aJ (upd H a (.frz o u)) H1):aJ H (upd H1 a u):=λb v h=>by
 by_cases z:b=a
 ·subst z
  rw [e] at h
  cases h
  exact aB
 ·rw [aE z]
  exact s b v (by rw [aE z];exact h)
def zA (e:H a=some u) (n:(upd H a o) b=none):H b=none/\b≠a:=by
 let d:b≠a:=λz=>by
  rw [z,aB] at n;cases n
 rw [aE d] at n;exact {(n),d}
def Pc.free (c:Pc):Bool:=c.o.isNone && !decide (c.m=c.h)
def iI:aK ["self","moment","piece","free","lent","late"] ["self","moment"] (aG iJ):=2#0
def lF (x:Str):Prop:=1<=x.length/\x.length<=8/\x.cps.all (·<128)=true/\∀(i:Nat) c,x.cps[i]?=some c->(!decide ((⟨#[c]⟩:Str).cps.toList<("a":Str).cps.toList))=true/\(!decide (("z":Str).cps.toList<(⟨#[c]⟩:Str).cps.toList))=true
def Ap:Sp:=λvs H Q _=>∃x,vs=[.str x]/\lF x/\∀H',aJ H H'->Q (.bl true) H'
def At:Sp:=λvs H Q _=>∃x,vs=[.str x]/\lF x/\∀H',aJ H H'->Q .non H'
def BS:(["sign"]:List Str).Nodup:=⋯
def Qv:bootBuiltins "str"=some (.type "str"):=⋯
def dX {b:Bool} {A B:Prop} (h:b=true) (x:A):if b=true then A else B:=by rw [if_pos h];exact x
def dH {b:Bool} {A B:Prop} (h:b=false) (x:B):if b=true then A else B:=by rw [if_neg (by rw [h];simp)];exact x
def Kx:aK ["thing"] ["thing"] (aG Ed):=2#0
def yL (W:3#0):kI P w K mg base dI "is_worker" 1 Ap:=W.d10.of λF=>by
 refine F.ok Kx (λM H Q E h=>?_) (λC A l s H M Q E Y h=>?_)
 ·let (x,rfl,_):=h
  rfl
 ·let (x,rfl,(S,X,J,w4),t):=h
  refine {_,aD (bV (PW.pt (fW (cQ (cK (aY cA (by rfl) W.G.isi dF (aA (pv 0) (aA (kX (v:=.ty "str") (by rfl) W.z Qv rfl) aC))))) (eL (cQ (jQ lM lM aR (aY xA (by rfl) W.G.len PySem.boot_len (aA (pv 0) aC)) aR))))) (aH (aU uV)) aZ)
   (aH (aU (aY (tK rfl) (by rfl) W.G.all tL (aA (dL (NB:=["sign"]) (n:=1) (js:=[]) (g:=cS 0) (cl:=[]) rfl ⋯ ⋯ rfl (pP.all {(rfl),rfl,rfl,rfl}).2.2.2.1
     (BD (pv 0)) (λ_ s H p u=>aM (i:=0) BS rfl (j9 rfl) (.inr rfl)) (λ_ s H p u=>dZ) (λ_ s H p u=>Nj uW uW bC (pv 0) bC)) aC)))),?_}
  let U:sizeLine=16777216:=sizeLine_eq
  refine {_,rfl,_,_,_,true,rfl,.ty "str",.inl {_,.str x,rfl},_,rfl,?_}
  refine dE ?_
  refine {_,rfl,_,rfl,∎,_,_,rfl,rfl,_,rfl,dX (decide_eq_true ∎) {_,_,rfl,rfl,_,rfl,dH (by rw [decide_eq_true ∎];rfl) ?_}}
  refine {_,rfl,_,rfl,J,λe a=>?_}
  refine {λj q m k=>q=x.length-j/\j<=x.length/\m=(List.replicate j true).map V.bl/\aJ H k/\k e=some (.lst m),{_,rfl,l7 _,rfl,aI a,aB},?_}
  rintro j q m k ⟨rfl,T,rfl,r,f⟩
  refine {f,?_}
  by_cases d:j<x.length
  ·refine .inr {d,?_}
   rintro y L ⟨rfl,c,B,rfl⟩
   let (D,I):=w4 j c B
   refine {rfl,?_}
   refine fH ?_
   refine dD ?_
   refine {_,rfl,_,_,rfl,rfl,_,rfl,dX D {_,_,rfl,rfl,f,by rw [i6,D5];omega,_,?_,rfl,d,?_,λb o z=>?_,aB}}
   ·omega
   ·rw [List.replicate_succ',u7,I]
    rfl
   ·rw [aE (aF z a)]
    exact r _ _ z
  ·refine .inl {by show _<=j;omega,?_}
   refine {e,_,rfl,cM.of f,?_}
   let O:(List.replicate j true).all id=true:=by simp
   rw [O]
   exact t _ r
def Ld:aK ["worker"] ["worker"] (aG mS):=2#0
def yP (W:3#0):kI P w K mg base dI "check_worker" 2 At:=W.d11.of λF=>by
 refine F.ok Ld (λe H Q E h=>?_) (λi A a s H e Q E d h=>?_)
 ·let (x,rfl,_):=h
  rfl
 ·let (x,rfl,b,t):=h
  refine {_,aH (bV (cQ (cK (aX (yL W) d aO (aA (pv 0) aC)))) cR aZ),?_}
  exact {_,rfl,x,rfl,b,λf g=>{_,rfl,dE (t f g)}}
inductive Wt (CB CP:Addr) (vs:List V) (H:Hp) (Q:VK) (E0_:XK):Prop|mk (b pw sh d:Addr) (sp ev le nn nt mo:Int) (ps:List Addr) (cs:List Pc) (i:Nat) (p:Addr) (c:Pc) (_:vs=[.ref b,.int c.n]) (_:9#0) (_:ps[i]?=some p) (_:cs[i]?=some c) (_:(cs.map Pc.n).Nodup) (_:Q (.ref p) H)
def Zu (CB CP:Addr):Sp:=Wt CB CP
theorem qH:∀{ps:List Addr} {cs:List Pc} {i:Nat} {p:Addr} {c:Pc},ps[i]?=some p->cs[i]?=some c->(cs.map Pc.n).Nodup->cH (fF ps cs) (Sum.inl c.n:bK)=some (.ref p)
 | [],_,_,_,_,h,_,_=>by simp at h
 | _::_,[],_,_,_,_,h,_=>by simp at h
 | p::ps,c::cs,0,_,_,h1,h2,_=>by
  cases h1
  cases h2
  exact fL rfl
 | q::ps,e::cs,i+1,p,c,h1,h2,nd=>by
  let (d,b):=A9.mp nd
  have a:c.n ∈ cs.map Pc.n:=List.mem_map_of_mem (j8 (by simpa using h2))
  show cH ((Sum.inl e.n,V.ref q)::fF ps cs) _=_
  rw [fM (λz=>d (by have z:e.n=c.n:=Sum.inl.inj z;rw [z];exact a))]
  exact qH (by simpa using h1) (by simpa using h2) b
def Ky:aK ["self","number"] ["self","number"] (aG wF):=2#0
def Uu (W:3#0):eH P w K mg base dI N.CB "piece_with" 2 (Zu N.CB N.CP):=W.d59.of λ{f _} F=>by
 refine F.ok Ky (λO H Q E h=>?_) (λj A l s H O Q E q h=>?_)
 ·let (b,L,u,d,M,x,z,C,S,v,T,D,i,p,c,rfl,_):=h
  rfl
 ·let (b,L,u,d,M,x,z,C,S,v,T,D,i,p,c,rfl,J,I,r,G,t):=h
  let o:(A.deeper (PyProof.Rows.envOfC "Book.piece_with" (aG wF) s.heap.objs.size f j)).units+1<cLine:=by have:=q.un;omega
  let ((m,a),e,y):=id J
  refine {_,aD (bV (PW.pt (fW (cQ (cK (aX (dP W) q aO (aA (pv 1) aC)))) (eL (rT (kY o (pv 1) (aQ (pv 0) rfl)))))) cR aZ) (aH (aU (gQ o (aQ (pv 0) rfl) (pv 1) 12#0))),?_}
  let g:=eK.k (k:=(Sum.inl c.n:bK)) e
  rw [qH I r G] at g
  refine {_,rfl,_,rfl,.kn (.int _),_,rfl,dE ?_}
  refine {_,rfl,_,rfl,b,N.CB,m,_,_,rfl,a,W.B.cl,W.B.nB,rfl,d,_,rfl,g,_,rfl,dE ?_}
  exact {_,rfl,b,N.CB,m,_,_,rfl,a,W.B.cl,W.B.nB,rfl,_,rfl,d,_,rfl,g,t}
def Qy:cW "next_token" (.int nt') (bf pw sh d sp a b nn nt mo)=bf pw sh d sp a b nn nt' mo:=rfl
def oT:cW "moment" (.int mo') (bf pw sh d sp a b nn nt mo)=bf pw sh d sp a b nn nt mo':=rfl
def BI {C:Addr} {H:Hp} {p:Addr} {c e:Pc} (g:fR C H p c) (h2:fR C H p e):c.n=e.n:=by
 let (i,(h,a),_):=g;let (d,(f,b),_):=h2;rw [a] at b;have:=Option.some.inj b;injection this with _ _ z;injection z with z _;injection z with _ z;injection z
def gL {C:Addr} {H H':Hp} {ps:List Addr} {cs:List Pc} {k:Nat} {p:Addr} {c c':Pc} (h:Paired (fR C H) ps cs) (s:(cs.map Pc.n).Nodup) (l:ps[k]?=some p) (i:cs[k]?=some c) (B:∀q e,q≠p->fR C H q e->fR C H' q e) (g:fR C H' p c'):Paired (fR C H') ps (cs.set k c'):=by
 refine hD (by rw [R9];exact h.length) λj q e f a=>?_;rw [Q1] at a;by_cases z:k=j
 ·subst z;rw [if_pos rfl] at a;rw [l] at f;cases f;split at a
  ·cases a;exact g
  ·cases a
 ·rw [if_neg z] at a;let (D,d,x):=aN h f;rw [a] at d;cases d;refine B q e (λy=>z ?_) x;subst y;let (u,b,r):=aN h l;rw [i] at b;cases b;let t:=BI r x;let o:(cs.map Pc.n)[k]?=some c.n:=by rw [j7,i];rfl
  let m:(cs.map Pc.n)[j]?=some c.n:=by rw [j7,a,t];rfl
  let (F,v):=i5.mp o;let (E,A):=i5.mp m;exact(List.getElem_inj s).mp (v.trans A.symm)
def nX {ps:List Addr} {cs:List Pc} {k:Nat} {c c':Pc} (g:cs[k]?=some c) (i:c'.n=c.n):fF ps (cs.set k c')=fF ps cs:=by
 unfold fF;refine L9 λj=>?_;rw [j7,j7];by_cases z:k=j
 ·subst z;let h:=(i5.mp g).1;cases hp:ps[k]? with
  | none=>
   let d:((cs.set k c').zip ps)[k]?=none:=A3 (by rw [A4];have:=O7.mp hp;omega);let f:(cs.zip ps)[k]?=none:=A3 (by rw [A4];have:=O7.mp hp;omega);rw [d,f]
  | some p=>
   let d:((cs.set k c').zip ps)[k]?=some (c',p):=z8.mpr {by rw [Q1,if_pos rfl,if_pos h],hp};let f:(cs.zip ps)[k]?=some (c,p):=z8.mpr {(g),hp};rw [d,f];show some ((Sum.inl c'.n:bK),V.ref p)=some (Sum.inl c.n,V.ref p);rw [i]
 ·let e:((cs.set k c').zip ps)[j]?=(cs.zip ps)[j]?:=by
   let l:(cs.set k c')[j]?=cs[j]?:=by rw [Q1,if_neg z]
   cases q:(cs.zip ps)[j]? with
   | none=>
    have:=O7.mp q;exact A3 (by rw [A4,R9] at *;exact this)
   | some x=>
    let (a,b):=z8.mp q;exact z8.mpr {l.trans a,b}
  rw [e]
def oC:aK ["self","worker","moment","chosen","piece","token","until"] ["self","worker","moment"] (aG wH):=2#0
def Pc.has (c:Pc) (tk:Int):Bool:=c.o.any λt=>decide (t.1=tk)
inductive Xf (CB CP:Addr) (vs:List V) (H:Hp) (Q:VK) (E0_:XK):Prop|mk (b pw sh d:Addr) (sp ev le nn nt mo tk i:Int) (ps:List Addr) (cs:List Pc) (k:Nat) (p:Addr) (c:Pc) (_:vs=[.ref b,.int tk,.int i]) (_:9#0) (_:mo<=i) (_:0<=tk) (_:tk<nt) (_:ps[k]?=some p) (_:cs[k]?=some c) (_:c.has tk=true) (_:(∀j e,cs[j]?=some e->j<k->e.has tk=false)) (_:∀H',aJ H H'->Q (.ref p) H')
def As (CB CP:Addr):Sp:=Xf CB CP
def Lb:aK ["self","token","moment","piece"] ["self","token","moment"] (aG Mi):=2#0
inductive Jc (CB CS CP:Addr) (vs:List V) (H:Hp) (Q:VK) (E0_:XK):Prop|mk (b pw sh d pw' d' nr:Addr) (sp ev le nn nt mo tk i pl:Int) (ps:List Addr) (cs:List Pc) (k:Nat) (p:Addr) (c:Pc) (ws:Lm.Ps) (kvs:List (bK × V)) (ns:List Int) (_:vs=[.ref b,.int tk,.int pl,.ref nr,.int i]) (_:9#0) (_:cN CS H sh pw' d' ws kvs) (_:mo<=i) (_:0<=tk) (_:tk<nt) (_:ps[k]?=some p) (_:cs[k]?=some c) (_:c.has tk=true) (_:(∀j e,cs[j]?=some e->j<k->e.has tk=false)) (_:H nr=some (.tup (ns.map V.int))) (_:ns.length<=1000) (_:c.l<=pl) (_:pl<=c.m) (_:pl+ns.length<=c.m+ev) (_:-(2 ^ 61)<=pl) (_:pl<=2 ^ 61) (_:(∀(j:Nat) n,ns[j]?=some n->pl+(j:Int)<c.m->cH kvs (Sum.inl (pl+(j:Int)):bK)=some (.int n))) (_:∀H',aJ H H'->Q (.ref p) H')
def xQ (CB CS CP:Addr):Sp:=Jc CB CS CP
def iH:aK ["self","token","place","numbers","moment","piece","at","number"] ["self","token","place","numbers","moment"] (aG rN):=2#0
def Yn {P:Program} {w:World} {X:Cx}:eV (fS P w) X E0:=λ_ _ _ _ _ _ _ h=>by
 let (_,_,_,_,_,_,_,_,_,z):=h
 exact z.elim
def fB (ns:List Int) (lo hi:Option Int):List Int:=(ns.drop (HT.sIx ns.length 0 lo)).take (HT.sIx ns.length ns.length hi-HT.sIx ns.length 0 lo)
def Ck (ns:List Int) (lo hi:Option Int):oR (ns.map V.int) lo hi=(fB ns lo hi).map V.int:=by
 unfold oR fB;rw [i6,List.map_take,List.map_drop]
def CQ (ns:List Int) (lo hi:Option Int):(fB ns lo hi).length<=ns.length:=by
 unfold fB;rw [t9,D0];omega
def Pc.told (c:Pc) (n:Int) (u:Int):Pc:={ c with m:=c.m+n,o:=if c.m+n=c.h then none else c.o.map λt=>(t.1,t.2.1,u) }
inductive Wu (CB CS CP:Addr) (vs:List V) (H:Hp) (Q:VK) (E0_:XK):Prop|mk (b pw sh d pw' d' nr:Addr) (sp ev le nn nt mo tk i pl:Int) (ps:List Addr) (cs:List Pc) (k:Nat) (p:Addr) (c:Pc) (ws:Lm.Ps) (kvs:List (bK × V)) (ns:List Int) (_:vs=[.ref b,.int tk,.int pl,.ref nr,.int i]) (_:9#0) (_:cN CS H sh pw' d' ws kvs) (_:mo<=i) (_:0<=tk) (_:tk<nt) (_:ps[k]?=some p) (_:cs[k]?=some c) (_:c.has tk=true) (_:(∀j e,cs[j]?=some e->j<k->e.has tk=false)) (_:H nr=some (.tup (ns.map V.int))) (_:ns.length<=1000) (_:c.l<=pl) (_:pl<=c.m) (_:pl+ns.length<=c.m+ev) (_:-(2 ^ 61)<=pl) (_:pl<=2 ^ 61) (_:(∀(j:Nat) n,ns[j]?=some n->pl+(j:Int)<c.m->cH kvs (Sum.inl (pl+(j:Int)):bK)=some (.int n))) (_:(cs.map Pc.n).Nodup) (_:d≠d') (_:ws.length<=1000) (_:kvs.length<=1000) (_:(-(2 ^ 61)<=c.m/\c.m+(fB ns (some (c.m-pl)) (some (c.h-pl))).length<=2 ^ 61/\(∃q ∈ ws,q.1<=c.m/\c.m+(fB ns (some (c.m-pl)) (some (c.h-pl))).length<=q.2)/\∀j:Nat,j<(fB ns (some (c.m-pl)) (some (c.h-pl))).length->cH kvs (Sum.inl (c.m+(j:Int)):bK)=none)) (_:∀(r:Addr) (H':Hp),(∀a o,H a=some o->a≠b->a≠p->a≠d'->H' a=some o)->hV CB CP H' b pw sh d sp ev le nn nt i ps (cs.set k (c.told (fB ns (some (c.m-pl)) (some (c.h-pl))).length (i+sp))) ->
  cN CS H' sh pw' d' ws (kvs++lG c.m (fB ns (some (c.m-pl)) (some (c.h-pl))) (fB ns (some (c.m-pl)) (some (c.h-pl))).length) ->
  H' r=some (.tup [.int (c.m+(fB ns (some (c.m-pl)) (some (c.h-pl))).length),.int c.h,if c.m+(fB ns (some (c.m-pl)) (some (c.h-pl))).length=c.h then .non else .int (i+sp)])->Q (.ref r) H')
def vX (CB CS CP:Addr):Sp:=Wu CB CS CP
def wD:aK ["self","token","place","numbers","moment","piece","fresh","until"] ["self","token","place","numbers","moment"] (aG oD):=2#0
def Ey (F:qW K "tell" "Book.tell" oD f fd) (GT:eH P w K mg base dI N.CB "piece_to_tell" 4 (xQ N.CB N.CS N.CP)) (W:3#0):bH P w K mg base dI 5 f fd ["self","token","place","numbers","moment"] (vX N.CB N.CS N.CP):=by
 refine F.ok wD 11#0 (λau A ag s H vs Q E hr h=>?_)
 ·let (b,pw,I,d,a4,d',C,x,ev,le,nn,nt,mo,tk,i,Y,ps,cs,k,p,c,ws,T,ns,rfl,_):=h;rfl
 ·let (b,pw,I,d,a4,d',C,x,ev,le,nn,nt,mo,tk,i,Y,ps,cs,k,p,c,ws,T,ns,rfl,hb,L,hi,t0,t1,hp,hc,ht,an,hn,ln,p1,p2,p3,p4,p5,ok,nd,ah,lw,lk,(m1,m2,m3,m4),t):=h;let ad:=wD.nd;let cB:=W.B.cl;let cP:=W.P.cl;let nM:=W.P.nM;let nH:=W.P.nH;let nD:=W.P.nD;let nS:=W.B.nS;let av:=W.B.nH;let sl:sizeLine=16777216:=sizeLine_eq;let ((dx,u),Z,a7):=id hb;let (c',a8,lv,(y,g),a6):=aN a7 hp;rw [hc] at a8;cases a8;refine Wp.ex (cU (n:=5) ad rfl (nU (vs:=[.int tk,.int Y,.ref C,.int i]) 15#0 u W.B.cl GT hr aO 15#0 {b,pw,I,d,a4,d',C,x,ev,le,nn,nt,mo,tk,i,Y,ps,cs,k,p,c,ws,T,ns,rfl,hb,L,hi,t0,t1,hp,hc,ht,an,hn,ln,p1,p2,p3,p4,p5,ok,λH1 s1=>?_}));let ap:=s1 _ _ g;refine cU (n:=6) ad rfl {_,mY Kr (pv 3) (iX aP) (iX aP),{_,rfl,Vl.to (v:=.int (c.m-Y)) 15#0 _ {_,rfl,Vl.to (v:=.int (c.h-Y)) 15#0 _ {_,rfl,C,_,rfl,s1 _ _ hn,λq H2 s2 e2=>?_}}}};rw [Ck] at e2;let lf:=CQ ns (some (c.m-Y)) (some (c.h-Y));generalize fB ns (some (c.m-Y)) (some (c.h-Y))=fr at e2 lf m2 m3 m4 t;let t2:=s1.trans s2;let a2:=L.same t2;let (dz,hz):=a2.ob;let aq:=t2 _ _ u;let ar:=t2 _ _ g;refine Sd (nU (vs:=[.int c.m,.ref q]) 15#0 hz W.S.cl (BN W) hr Yn 15#0 {I,a4,d',q,ws,T,c.m,fr,rfl,a2,e2,lw,∎,lk,m1,m2,m3,λ_ H3 e3 k3=>?_,λ⟨j,hj,z⟩=>absurd (m4 j hj) z} (gW _ _ ⋯ ⋯));let D:p≠d':=aL g L.dc 1#0;let a1:b≠d':=aL u L.dc 1#0;let a5:p≠b:=aL g u (by intro z;injection z with _ _ z;injection z with z;injection z with z;exact absurd z ⋯);let a0:=k3 _ _ (t2 _ _ g) D;let ac:=k3 _ _ (t2 _ _ u) a1;let al:H3 q=some (.tup (fr.map V.int)):=k3 _ _ e2 (aL e2 a2.dc 1#0);refine {_,aD (uU (pv 5) (aY cF (by rfl) W.G.len PySem.boot_len (aA (pv 6) aC)) Pt) aS,?_};refine {_,rfl,p,N.CP,y,_,_,rfl,a0,W.P.cl,W.P.nM,rfl,_,rfl,q,_,rfl,.inr (cG.of al),_,_,rfl,rfl,y,_,a0,(by show 5<1000;decide),?_};rw [Uk,i6];refine Jp (p:=b) (v:=.int i) 15#0 15#0 (by rw [aE a5.symm];exact ac) W.B.cl W.B.nM (by show 9<1000;decide) ?_;rw [oT];generalize hM:c.m+(fr.length:Int)=M at *;let k5:∀a o,H3 a=some o->a≠p->a≠b->(upd (upd H3 p (.ins N.CP y (pf c.n c.l c.h M lv))) b (.ins N.CB dx (bf pw I d x ev le nn nt i))) a=some o:=λa o e n1 n2=>by
   rw [aE n2,aE n1];exact e
  let p5:(upd (upd H3 p (.ins N.CP y (pf c.n c.l c.h M lv))) b (.ins N.CB dx (bf pw I d x ev le nn nt i))) p=some (.ins N.CP y (pf c.n c.l c.h M lv)):=by rw [aE a5,aB]
  let b5:(upd (upd H3 p (.ins N.CP y (pf c.n c.l c.h M lv))) b (.ins N.CB dx (bf pw I d x ev le nn nt i))) b=some (.ins N.CB dx (bf pw I d x ev le nn nt i)):=aB;generalize upd (upd H3 p (.ins N.CP y (pf c.n c.l c.h M lv))) b (.ins N.CB dx (bf pw I d x ev le nn nt i))=X at k5 p5 b5 ⊢;let f5:∀a o,H a=some o->a≠b->a≠p->a≠d'->X a=some o:=λa o e n1 n2 n3=>k5 _ _ (k3 _ _ (t2 _ _ e) n3) n2 n1;let J:∀a ys,H a=some (.tup ys)->X a=some (.tup ys):=λa ys e=>f5 _ _ e (aL e u 1#0) (aL e g 1#0) (aL e L.dc 1#0);let d5:X d'=some (.dK (T++lG c.m fr fr.length)):=k5 _ _ e3 D.symm a1.symm;let a9:∀(r:Addr) (H':Hp) (O:V),(∀a o,X a=some o->a≠p->H' a=some o)->H' p=some (.ins N.CP y (pf c.n c.l c.h M O))->kH H' O (if M=c.h then none else c.o.map λt=>(t.1,t.2.1,i+x))->H' r=some (.tup [.int M,.int c.h,if M=c.h then .non else .int (i+x)])->Q (.ref r) H':=λr H' O fk af ai ak=>by
   refine t r H' (λa o e n1 n2 n3=>fk _ _ (f5 a o e n1 n2 n3) n2) {{dx,fk _ _ b5 a5.symm},?_,?_} {?_,?_,?_} ak
   ·rw [nX (c':=c.told fr.length (i+x)) hc rfl];exact fk _ _ (f5 _ _ Z (aL Z u 1#0) (aL Z g 1#0) ah) (aL Z g 1#0)
   ·refine gL a7 nd hp hc (λq' e' ae ⟨aj,⟨dz2,ha'⟩,hl2⟩=>{aj,{dz2,fk _ _ (f5 _ _ ha' ?_ ae (aL ha' L.dc 1#0)) ae},hl2.move λa ys e=>fk _ _ (J a ys e) (aL e g 1#0)}) ?_
    ·exact aL ha' u (by intro z;injection z with _ _ z;injection z with z;injection z with z;exact absurd z ⋯)
    ·unfold Pc.told fR;rw [hM];exact {O,{(y),af},ai}
   ·let (dy,hy):=L.ob;let n1:I≠b:=aL hy u (by intro z;injection z with _ _ z;exact absurd (congrArg List.length z) (by show ¬ 2=9;decide));let n2:I≠p:=aL hy g (by intro z;injection z with _ _ z;exact absurd (congrArg List.length z) (by show ¬ 2=5;decide));exact {dy,fk _ _ (f5 _ _ hy n1 n2 (aL hy L.dc 1#0)) n2}
   ·let (xs,x1,x2):=L.wk;exact {xs,fk _ _ (J _ _ x1) (aL x1 g 1#0),aV (λv r ⟨b',z1,z2⟩=>{b',z1,fk _ _ (J _ _ z2) (aL z2 g 1#0)}) x2}
   ·exact fk _ _ d5 D.symm
  refine {_,aD (bV (cK aP) aS aS) aS,iR 15#0 p5 W.P.cl (Fd W) hr aO {p,_,_,_,_,lv,rfl,{(y),p5},_,rfl,?_}};refine fE (λU=>?_) (λU=>cD ?_)
  ·let U:M=c.h:=by simpa using U
   refine Jp (p:=p) (v:=.non) 15#0 Dn p5 W.P.cl W.P.nD (by show 5<1000;decide) ?_;rw [pZ];let p6:(upd X p (.ins N.CP y (pf c.n c.l c.h M .non))) p=_:=aB;refine fD {_,bL eO,Av.to (vs:=[.int M,.int c.h,.non]) 15#0 _ {by show 3<=sizeLine;decide,λr C=>?_}};refine a9 r _ .non (λa o e n=>aI C _ _ (by rw [aE n];exact e)) (aI C _ _ aB) ?_ ?_
   ·rw [if_pos U];trivial
   ·rw [if_pos U];exact aB
  ·let U:¬ M=c.h:=by simpa using U
   obtain⟨z,a3⟩:∃z,c.o=some z:=by
    cases q':c.o with
    | none=>unfold Pc.has at ht;rw [q'] at ht;cases ht
    | some z=>exact {(z),rfl}
   let am:z.1=tk:=by
    unfold Pc.has at ht;rw [a3] at ht;simpa using ht
   rw [a3] at a6;obtain⟨lq,rfl⟩:∃lq,lv=.ref lq:=by
    cases lv with
    | ref lq=>exact {(lq),rfl}
    | _=>exact a6.elim
   let ao:H lq=some (.tup [.int z.1,.str z.2.1,.int z.2.2]):=a6;let tl:=J _ _ ao;show 7;refine {_,aD (cX (pv 5) (bL eO) rfl) aS,Av.to (vs:=[.int tk,.str z.2.1,.int (i+x)]) 15#0 _ {by show 3<=sizeLine;decide,λq2 aa=>{_,rfl,p,N.CP,y,_,rfl,aI aa _ _ p5,W.P.cl,W.P.nD,(by show 5<1000;decide),?_}}};rw [pZ];let s6:aJ X (upd X q2 (.tup [.int tk,.str z.2.1,.int (i+x)])):=aI aa;let e6:(upd X q2 (.tup [.int tk,.str z.2.1,.int (i+x)])) q2=some (.tup [.int tk,.str z.2.1,.int (i+x)]):=aB;generalize upd X q2 (.tup [.int tk,.str z.2.1,.int (i+x)])=H6 at s6 e6 ⊢;let p6:(upd H6 p (.ins N.CP y (pf c.n c.l c.h M (.ref q2)))) p=_:=aB;refine fD {_,bL eO,Av.to (vs:=[.int M,.int c.h,.int (i+x)]) 15#0 _ {by show 3<=sizeLine;decide,λr C=>?_}};refine a9 r _ (.ref q2) (λa o e n=>aI C _ _ (by rw [aE n];exact s6 _ _ e)) (aI C _ _ aB) ?_ ?_
   ·rw [if_neg U,a3];rw [<- am] at e6;exact aI C _ _ (by rw [aE (aL e6 (s6 _ _ p5) 1#0)];exact e6)
   ·rw [if_neg U];exact aB
end
end Ls
namespace L2
open PySem PySem.Spec PyProof.Rows PySem.W
def Ga (js:List Nat) (tc:TT) (σ:St) (Q:VK):It->Hp->Prop:=λJ H1=>∀acc,H1 acc=none ->
 ∃W:Nat->Nat->List V->Hp->Prop,(∃m,W 0 m [] (upd H1 acc (.lst [])))/\∀i m ys H,W i m ys H->H acc=some (.lst ys) /\
  ((J.stop i H/\Q (.ref acc) H)\/(J.go i H/\∀x H',J.yld i H x H'->cS 0 x (dQ 1 js σ) H' λσ2 H2=>σ2.drop 1=(dQ 1 js σ).drop 1/\tc σ2 H2 λb H3=>
   if b=true then iU 0 σ2 H3 λy H4=>H4 acc=some (.lst ys)/\ys.length<sizeLine/\∃m',m'<m/\W (i+1) m' (ys++[y]) (upd H4 acc (.lst (ys++[y])))
   else ∃m',m'<m/\W (i+1) m' ys H3))
def Yz (xs:List α) (val:α->V) (pm:α->Bool) (A:xs.length<=4000)
  (w:∀G i,aJ H1 G->i<xs.length->J.go i G) (f:∀G,aJ H1 G->J.stop xs.length G) (l:∀G i x h,aJ H1 G->J.yld i G x h->h=G/\∃z,xs[i]?=some z/\x=val z)
  (g:∀G z q,aJ H1 G->z ∈ xs->q (pm z) G->tc (some (val z)::(js.map λj=>(σ[j]?).join)) G q)
  (k:∀s G,H1 s=none->aJ H1 G->G s=some (.lst ((xs.filter pm).map val))->Q (.ref s) G):Ga js tc σ Q J H1:=by
 intro t n;let C:sizeLine=16777216:=sizeLine_eq;refine {λi m p G=>m=xs.length-i/\i<=xs.length/\p=((xs.take i).filter pm).map val/\aJ H1 G/\G t=some (.lst p),{_,rfl,l7 _,rfl,aI n,aB},?_};rintro i m p G ⟨rfl,B,rfl,a,d⟩;refine {d,?_};by_cases c:i<xs.length
 ·refine .inr {w G i a c,λx h y=>?_};let (rfl,z,v,rfl):=l _ _ _ _ a y;let u:xs.take (i+1)=xs.take i++[z]:=by rw [A6,v];rfl
  let D:(((xs.take i).filter pm).map val).length<=i:=by
   rw [i6];exact u8 (C1 _ _) (by rw [t9];omega)
  refine {rfl,g _ z _ a (j8 v) ?_};refine fE (λr=>?_) (λr=>?_)
  ·refine {_,rfl,d,∎,_,?_,rfl,c,?_,λb o e=>?_,aB}
   ·omega
   ·rw [u,J0,u7];simp [r]
   ·rw [aE (aF e n)];exact a _ _ e
  ·refine {xs.length-(i+1),∎,rfl,c,?_,a,d};rw [u,J0,u7];simp [r]
 let e:i=xs.length:=∎;subst e;rw [List.take_length] at d;exact .inl {f _ a,k _ _ n a d}
end L2
namespace Ls
open PySem L2 PySem.W
def Pc.lent (c:Pc):Bool:=c.o.isSome
def Pc.late (i:Int) (c:Pc):Bool:=c.o.any λt=>decide (t.2.2<i)
def tU (S:Pc->Bool) (cs:List Pc) (c:Pc):Prop:=c ∈ cs/\S c=true/\∀c' ∈ cs,S c'=true->¬ lN c'.k c.k
inductive IT (cs:List Pc) (le i:Int) (H:Hp):V->Prop where
 | pc {c:Pc} {r:Addr}:(tU Pc.free cs c\/(∀c ∈ cs,c.free=false)/\tU (Pc.late i) cs c)->H r=some (.tup [.str "piece",.int c.n])->IT cs le i H (.ref r)
 | cut {c:Pc} {r:Addr}:(∀c ∈ cs,c.free=false)->(∀c ∈ cs,c.late i=false)->tU Pc.lent cs c->2 * le<=c.h-c.m->H r=some (.tup [.str "cut",.int c.n,.int (c.h-(c.h-c.m) / 2)])->IT cs le i H (.ref r)
 | non:(∀c ∈ cs,c.free=false)->(∀c ∈ cs,c.late i=false)->(∀c,tU Pc.lent cs c->c.h-c.m<2 * le)->IT cs le i H .non
def dG.trans (a:dG T H H1) (b:dG T H1 d):dG T H d:=λc o n e=>b c o n (a c o n e)
def dG.t (tb:pG H T p q) (k:dG T H H'):eQ H H':=by
 let (a,e,_):=tb;exact k.toT e
def vP {H:Hp} {a:Addr} {zs:List (Pc × Addr)} (b:H a=some (.lst (zs.map λx=>V.ref x.2))):H a=some (.lst ((zs.map (·.2)).map V.ref)):=by rw [b,A0];rfl
def Dh {zs:List (Pc × Addr)} (h:(!zs.isEmpty)=true):zs.map (·.2)≠[]:=λz=>by rw [List.map_eq_nil_iff.mp z] at h;cases h
def iZ {zs:List (Pc × Addr)} {i:Nat} {p:Addr} {c:Pc} (b:(zs.map (·.2))[i]?=some p) (d:(zs.map (·.1))[i]?=some c) (a:∀j e,(zs.map (·.1))[j]?=some e->¬ lN e.k c.k/\(j<i->lN c.k e.k)):
  (c,p) ∈ zs/\∀f ∈ zs,¬ lN f.1.k c.k:=by
 rw [j7] at b d;cases hz:zs[i]? with
 | none=>rw [hz] at b;cases b
 | some z=>
  rw [hz] at b d;cases b;cases d;refine {j8 hz,λf g=>?_};let (j,h):=y6.mp g;exact(a j f.1 (by rw [j7,h];rfl)).1
def Qf {α:Type} {xs:List α} {p:α->Bool} (h:xs.filter p=[]):∀x ∈ xs,p x=false:=λx a=>by
 cases e:p x with
 | false=>rfl
 | true=>
  have:=u6.mpr {(a),e}
  rw [h] at this
  cases this
def pQ {ps:List Addr} {cs:List Pc} (l:ps.length=cs.length) {c:Pc} (h:c ∈ cs):∃p,(c,p) ∈ cs.zip ps:=by
 let (k,a):=y6.mp h;let b:k<ps.length:=by have:=(i5.mp a).1;omega
 exact {ps[k],j8 (i:=k) (z8.mpr {a,i3 b})}
def qL {ps:List Addr} {cs:List Pc} {S:Pc->Bool} (l:ps.length=cs.length) {z:Pc × Addr} {zs:List (Pc × Addr)} (a:∀z,z ∈ zs↔z ∈ cs.zip ps/\S z.1=true) (f:z ∈ zs) (b:∀i ∈ zs,¬ lN i.1.k z.1.k):tU S cs z.1:=by
 let (j,h):=(a z).mp f;refine {(C8 j).1,h,λc d e=>?_};let (p,g):=pQ l d;exact b (c,p) ((a _).mpr {(g),e})
def Gf {S:Pc->Bool} {cs:List Pc} {c c':Pc} (a:tU S cs c) (b:tU S cs c'):c.h-c.m=c'.h-c'.m:=by
 let e:=a.2.2 _ b.1 b.2.1;let d:=b.2.2 _ a.1 a.2.1;unfold lN Pc.k at e d;simp only [not_or,not_and] at e d;omega
inductive Jh (CB CP T:Addr) (vs:List V) (H:Hp) (Q:VK) (E0_:XK):Prop|mk (b pw sh d:Addr) (sp ev le nn nt mo i:Int) (ps:List Addr) (cs:List Pc) (_:vs=[.ref b,.int i]) (_:9#0) (_:cs.length<=1000) (_:mo<=i) (_:pG H T sU jH) (_:∀(v:V) (H':Hp),dG T H H'->pG H' T sU jH->IT cs le i H' v->Q v H')
def xR (CB CP T:Addr):Sp:=Jh CB CP T
def uJ (f:H1 d=some (.dK (fF ps cs))) (b:Paired (fR B H1) ps cs) (T:cs.length<=1000) (pm:Pc->Bool)
  (s:∀(G:Hp) (c:Pc) (p y:Addr) (r:V) (q:Bool->Hp->Prop),G p=some (.ins B y (pf c.n c.l c.h c.m r))->kH G r c.o->q (pm c) G->tc (some (.ref p)::(js.map λj=>(σ[j]?).join)) G q)
  (u:∀k G,H1 k=none->G d=some (.frz o (.dK (fF ps cs)))->aJ H1 (upd G d (.dK (fF ps cs)))->(upd G d (.dK (fF ps cs))) k=some (.lst (((cs.zip ps).filter λx=>pm x.1).map λx=>V.ref x.2))->Q (.ref k) G):
  Ga js tc σ Q (EF d o (fF ps cs)) (upd H1 d (.frz o (.dK (fF ps cs)))):=by
 let W:ps.length=cs.length:=b.length;let M:(cs.zip ps).length=cs.length:=by rw [A4];omega
 refine Yz (cs.zip ps) (λx=>V.ref x.2) (λx=>pm x.1) ∎ (λG i a O=>{a _ _ aB,by rw [jB b];omega}) (λG a=>{a _ _ aB,by rw [jB b];omega}) (λG i x S a H=>?_) (λG z q a L F=>?_) λk G J a C=>?_
 ·let (rfl,e,E,rfl):=H;let (c,p,D,I,rfl):=lZ E;exact {rfl,(c,p),z8.mpr {(D),I},rfl}
 ·let (r,(y,g),A):=cI b z L;refine s G z.1 z.2 y r q (a _ _ (by rw [aE (aL g f 1#0)];exact g)) (A.move λq U e=>a _ _ (by rw [aE (aL e f 1#0)];exact e)) F
 ·let (v,t):=zA f J;exact u k _ v (a _ _ aB) (iC f a) (by rw [aE t];exact C)
def xT (h:d σ H (Ga js tc σ (λx f=>∃a o b,f a=some (.frz o (.dK b))/\(∀o v,e a≠some (.frz o v))/\r D (σ.set ix (some x)) (upd f a (.dK b))))):Kb (Yb e (Gw (vU 1 js d (cS 0) tc (iU 0)) (cS ix))) r D σ H:=h
def Kw {H:Hp} {js:List Nat} {a:TI} {tc:TT} {ix:Nat} {r:TS} {D:eM} {σ:St} (h:a σ H (Ga js tc σ (λx b=>r D (σ.set ix (some x)) b))):Kb (Gw (vU 1 js a (cS 0) tc (iU 0)) (cS ix)) r D σ H:=h
def Am {K:Frag} {H:Hp} {a:Addr} {zs:List (Pc × Addr)} (e:H a=some (.lst (zs.map λx=>V.ref x.2))):DJ K (.ref a) H (!zs.isEmpty):=.inl {_,cM.of e,by cases zs <;> rfl}
def Bu (h:¬ (!zs.isEmpty)=true):zs=[]:=by
 cases zs with
 | nil=>rfl
 | cons a l=>exact absurd rfl h
section
variable {P:Program} {w:World} {K:Frag} {mg:Str->Option Value} {base:Heap} {N:Cn} {c:Nat->Addr}
def JS:(["piece","moment"]:List Str).Nodup:=⋯
def Hs {f:Addr} {fd:FuncData} (F:qW K "choice" "Book.choice" iJ f fd) (GM:eH P w K mg base dI N.CB "check_moment" 2 (vY N.CB)) (W:3#0):bH P w K mg base dI 5 f fd ["self","moment"] (xR N.CB N.CP N.T1):=by
 refine F.ok iI 11#0 (λag A ap s H vs Q E hr h=>?_)
 ·let (b,pw,sh,d,sp,ev,le,nn,nt,mo,i,I,y,rfl,_):=h;rfl
 ·let (b,pw,sh,d,sp,ev,le,nn,nt,mo,i₀,I,y,rfl,hb,lc,aq,tb,t):=h;let a5:Room 2 (A.deeper (PyProof.Rows.envOfC "Book.choice" (aG iJ) s.heap.objs.size f ag)):=hr.mono 7#0;let a9:Room 1 (A.deeper (PyProof.Rows.envOfC "Book.choice" (aG iJ) s.heap.objs.size f ag)):=hr.mono 7#0;refine {_,aD (eI (bP (pv 0) W.B.cl GM a5 aO (aA (pv 1) aC)))
   (aD (wL (kR (ix:=3) iI.nd rfl (j9 rfl) (NB:=["piece"]) (n:=1) (js:=[]) (g:=cS 0) (cl:=[]) rfl ⋯ ⋯ rfl
     (fA.of rfl bJ (all_cons 13#0 (all_cons 13#0 bJ)) rfl (λk j h=>absurd h 6#0) bJ)
     (pX (mX (aQ (pv 0) rfl))) (λ_ s H fp pn=>aM (i:=0) BT rfl (j9 rfl) (.inr rfl)) (λ_ s H fp pn=>kQ (cK (bX (pv 0) W.P.cl (Fc W) a5 aO))) (λ_ s H fp pn=>pv 0)))
   (aD (bV (jP (pv 3) (λ_=>rfl)) (aH (aU (bL (aA bC (aA (aQ (aX (gR W) hr aO (aA (pv 3) aC)) rfl) aC))))) aZ)
   (aD (wL (kR (ix:=4) iI.nd rfl (j9 rfl) (NB:=["piece"]) (n:=1) (js:=[]) (g:=cS 0) (cl:=[]) rfl ⋯ ⋯ rfl
     (fA.of rfl bJ (all_cons 13#0 (all_cons 13#0 bJ)) rfl (λk j h=>absurd h 6#0) bJ)
     (pX (mX (aQ (pv 0) rfl))) (λ_ s H fp pn=>aM (i:=0) BT rfl (j9 rfl) (.inr rfl)) (λ_ s H fp pn=>kQ (cK (bX (pv 0) W.P.cl (nF W) a9 aO))) (λ_ s H fp pn=>pv 0)))
   (aD (kR (ix:=5) iI.nd rfl (j9 rfl) (NB:=["piece","moment"]) (n:=1) (js:=[1]) (g:=cS 0) (cl:=[("moment",s.heap.objs.size+1)]) rfl ⋯ ⋯ rfl
     (fA.of rfl (all_cons rfl bJ) (all_cons 13#0 (all_cons 13#0 (all_cons (λ_=>rfl) bJ))) rfl
      (λk j h=>match k,j,h with|0,_,rfl=>rfl|k+1,_,h=>absurd h 6#0) (all_cons {.inl rfl,.inl rfl,rfl} bJ))
     (eZ (pv 4)) (λ_ s H fp pn=>aM (i:=0) JS rfl (j9 rfl) (.inr rfl)) (λ_ s H fp pn=>kQ (cK (bP (pv 0) W.P.cl (Ux W) a5 aO (aA (pv 1) aC)))) (λ_ s H fp pn=>pv 0))
   (aD (bV (jP (pv 5) (λ_=>rfl)) (aH (aU (bL (aA bC (aA (aQ (aX (gR W) hr aO (aA (pv 5) aC)) rfl) aC))))) aZ)
   (aD (bV (PW.pt (lT (jP (pv 4) (λ_=>rfl)) (iW (bS Yo (bX (aX (gR W) hr aO (aA (pv 4) aC)) W.P.cl (wR W) a9 aO) (bO Bj aR (aQ (pv 0) rfl)) (bE _)))))
    (aD (bT (i:=2) iI.nd rfl (j9 rfl) (aX (gR W) hr aO (aA (pv 4) aC)))
    (aH (aU (bL (aA bC (aA (aQ (pv 2) rfl) (aA (bO jR (aQ (pv 2) rfl) (bO Ur (bX (pv 2) W.P.cl (wR W) a9 aO) aR)) aC))))))) aZ)
   (aH (aU eU)))))))),?_};let sl:sizeLine=16777216:=sizeLine_eq;let ((dx,T),C,X):=id hb;let nf:∀{H:Hp},H d=some (.dK (fF I y))->∀(o:Obj) (v:HO),H d≠some (.frz o v):=λe o v z=>by rw [e] at z;cases z
  let lp:I.length=y.length:=X.length;refine {_,rfl,b,dx,_,rfl,T,rfl,_,rfl,b,pw,sh,d,sp,ev,le,nn,nt,mo,i₀,rfl,{(dx),T},aq,?_};dsimp only [Dp];refine xT ?_;refine {_,rfl,b,N.CB,dx,_,_,rfl,T,W.B.cl,W.B.nB,rfl,.inr (.inr (.inl {rfl,.inl {_,C}})),d,_,rfl,rfl,C,λv nv=>?_};let S:aJ H (upd H v (dY v d)):=aI nv;let e1:(upd H v (dY v d)) v=some (dY v d):=aB;generalize upd H v (dY v d)=H1 at S e1 ⊢;refine {v,d,fF I y,rfl,e1,S _ _ C,λo=>?_};refine uJ (S _ _ C) (cL (aJ.toT S) X) lc Pc.free (λG c p D lv q l hl Y=>?_) λla G0 na fz m hA=>?_
  ·refine {_,rfl,p,D,_,rfl,l,rfl,p,_,_,_,_,lv,rfl,{(D),l},_,rfl,?_};rw [hl.non];exact Y
  refine {d,o,_,fz,nf C,?_};generalize upd G0 d (.dK (fF I y))=G at m hA ⊢;let s2:=S.trans m;clear S m na e1 fz;let al:=s2 _ _ T;let Z:=s2 _ _ C;let a7:=cL (aJ.toT s2) X;let ae:=tb.same s2;let a8:∀z ∈ y.zip I,fR N.CP G z.2 z.1:=cI a7;refine {_,rfl,_,Am hA,fE (λU=>?_) (λU=>?_)}
  ·refine {_,rfl,la,_,_,rfl,vP hA,gD λz a=>a8 z (u6.mp a).1,Dh U,ae,λj p c H3 kt a0 l hc u=>?_};let (a,bz):=iZ l hc u;let (lv,(D,M),_):=(a8 _ (u6.mp a).1).sameT (dG.t ae kt);refine {p,N.CP,D,_,_,rfl,M,W.P.cl,W.P.nN,rfl,by show 2<=sizeLine;decide,λr nr=>?_};exact t _ _ ((dG.pre s2 kt).same (aI nr)) (a0.same (aI nr)) (.pc (.inl (qL lp (λz=>u6) a bz)) aB)
  let a3:∀c ∈ y,c.free=false:=λc hc=>by
   let (p,l):=pQ lp hc;exact Qf (Bu U) _ l
  clear hA;dsimp only [Dp];refine xT ?_;refine {_,rfl,b,N.CB,dx,_,_,rfl,al,W.B.cl,W.B.nB,rfl,.inr (.inr (.inl {rfl,.inl {_,Z}})),d,_,rfl,rfl,Z,λv nv=>?_};let S:aJ G (upd G v (dY v d)):=aI nv;let e1:(upd G v (dY v d)) v=some (dY v d):=aB;generalize upd G v (dY v d)=H1 at S e1 ⊢;refine {v,d,fF I y,rfl,e1,S _ _ Z,λo=>?_};refine uJ (S _ _ Z) (cL (aJ.toT S) a7) lc Pc.lent (λG c p D lv q l hl Y=>?_) λll G0 na fz m hL=>?_
  ·refine {_,rfl,p,D,_,rfl,l,rfl,p,_,_,_,_,lv,rfl,{(D),l},_,rfl,?_};rw [hl.non];let e:(!c.o.isNone)=c.lent:=by unfold Pc.lent;cases c.o <;> rfl
   rw [e];exact Y
  refine {d,o,_,fz,nf C,?_};generalize upd G0 d (.dK (fF I y))=H2 at m hL ⊢;let s3:=s2.trans (S.trans m);clear S m na e1 fz al Z a7 ae a8 s2;let ar:=s3 _ _ T;let ai:=cL (aJ.toT s3) X;let a0:=tb.same s3;let ak:∀z ∈ y.zip I,fR N.CP H2 z.2 z.1:=cI ai;refine Kw ?_;refine {_,rfl,ll,rfl,{_,cM.of hL},?_};refine Yz ((y.zip I).filter λx=>Pc.lent x.1) (λx=>V.ref x.2) (λx=>Pc.late i₀ x.1) (u8 (C1 _ _) (by rw [A4];omega)) (λG i m hi=>?_) (λG m=>?_) (λG i x G' m hy=>?_) (λG z q m a Y=>?_) λlt G na m hT=>?_
  ·exact {_,_,cM.of (m _ _ hL),by rw [j7,i3 hi];rfl}
  ·exact {_,cM.of (m _ _ hL),by rw [i6];exact i7 _}
  ·let (rfl,hx):=hy;let hx:=hx _ (cM.of (m _ _ hL));rw [j7] at hx;cases a:((y.zip I).filter λx=>Pc.lent x.1)[i]? with
   | none=>rw [a] at hx;cases hx
   | some z=>
    rw [a] at hx;cases hx;exact {(rfl),z,rfl,rfl}
  ·let (lv,(D,l),hl):=(ak z (u6.mp a).1).sameT (aJ.toT m);exact {_,rfl,z.2,D,_,rfl,l,rfl,_,rfl,z.2,_,_,_,_,i₀,lv,_,rfl,{(D),l},hl,_,rfl,Y}
  let s4:=s3.trans m;let a6:=m _ _ hL;clear hL m na ak a0 ai ar s3;let am:=s4 _ _ T;let a2:=tb.same s4;let O:∀z ∈ y.zip I,fR N.CP G z.2 z.1:=cI (cL (aJ.toT s4) X);let el:∀z,z ∈ ((y.zip I).filter λx=>Pc.lent x.1).filter (λx=>Pc.late i₀ x.1)↔z ∈ y.zip I/\Pc.late i₀ z.1=true:=λz=>by
   rw [u6,u6];refine {λh=>{(h.1.1),h.2},λh=>{{h.1,?_},h.2}};let h2:=h.2;unfold Pc.late at h2;unfold Pc.lent;cases e:z.1.o with
   | none=>rw [e] at h2;cases h2
   | some _=>rfl
  refine {_,rfl,_,Am hT,fE (λU=>?_) (λU=>?_)}
  ·refine {_,rfl,lt,_,_,rfl,vP hT,gD λz a=>O z ((el z).mp a).1,Dh U,a2,λj p c H3 kt a0 l hc u=>?_};let (a,bz):=iZ l hc u;let (lv,(D,M),_):=(O _ ((el _).mp a).1).sameT (dG.t a2 kt);refine {p,N.CP,D,_,_,rfl,M,W.P.cl,W.P.nN,rfl,by show 2<=sizeLine;decide,λr nr=>?_};exact t _ _ ((dG.pre s4 kt).same (aI nr)) (a0.same (aI nr)) (.pc (.inr {a3,qL lp el a bz}) aB)
  let ad:∀c ∈ y,c.late i₀=false:=λc hc=>by
   let (p,l):=pQ lp hc;cases e:c.late i₀ with
   | false=>rfl
   | true=>have:=(el (c,p)).mpr {(l),e};rw [Bu U] at this;cases this
  clear hT el;refine {_,rfl,_,Am a6,fE (λU=>?_) (λU=>?_)}
  ·refine {_,rfl,ll,_,_,rfl,vP a6,gD λz a=>O z (u6.mp a).1,Dh U,a2,λj p c H3 kt ac l hc u=>?_};let (a,bz):=iZ l hc u;let bc:=qL lp (λz=>u6) a bz;let a1:=dG.t a2 kt;let (lv,(D,M),_):=(O _ (u6.mp a).1).sameT a1;refine {p,D,_,rfl,M,rfl,p,_,_,_,_,lv,rfl,{(D),M},_,rfl,b,N.CB,dx,_,_,rfl,a1.at am,W.B.cl,W.B.nL,rfl,_,_,rfl,rfl,.inl {by decide,by decide},_,_,rfl,rfl,?_};refine {_,rfl,fE (λY=>?_) (λY=>?_)}
   ·refine {_,rfl,ll,_,_,rfl,vP (a1.at a6),gD λz a=>(O z (u6.mp a).1).sameT a1,Dh U,ac,λj' p' c' H6 af au ao L aa=>?_};let (ah,av):=iZ ao L aa;let aj:=qL lp (λz=>u6) ah av;let (an,(a4,J),_):=((O _ (u6.mp ah).1).sameT a1).sameT (dG.t ac af);refine {_,rfl,p',N.CP,a4,_,_,rfl,J,W.P.cl,W.P.nN,rfl,_,rfl,p',N.CP,a4,_,_,rfl,J,W.P.cl,W.P.nH,rfl,_,rfl,p',a4,_,rfl,J,rfl,p',_,_,_,_,an,rfl,{(a4),J},_,_,rfl,rfl,{by decide,by decide},_,_,rfl,rfl,by show 3<=sizeLine;decide,λr nr=>?_};let Y:=of_decide_eq_true Y;have:=Gf bc aj;exact t _ _ ((dG.trans (dG.pre s4 kt) af).same (aI nr)) (au.same (aI nr)) (.cut a3 ad aj ∎ aB)
   ·refine t _ _ (dG.pre s4 kt) ac (.non a3 ad λc' L=>?_);have:=Gf bc L;let Y:=of_decide_eq_false (F4.mpr Y);omega
  ·refine dE ?_;refine t _ _ (λb o _ e=>s4 _ _ e) a2 (.non a3 ad λc' L=>?_);let (p,l):=pQ lp L.1;have:=u6 (p:=λx:Pc × Addr=>Pc.lent x.1).mpr {(l),L.2.1};rw [Bu U] at this;cases this
def IL (cs:List Pc) (i:Int) (c:Pc):Prop:=tU Pc.free cs c\/(∀c ∈ cs,c.free=false)/\tU (Pc.late i) cs c
def IL.mem {cs:List Pc} {i:Int} {c:Pc} (h:IL cs i c):c ∈ cs:=by
 rcases h with h|⟨_,h⟩
 ·exact h.1
 ·exact h.1
inductive Cw (CB CP:Addr) (vs:List V) (H:Hp) (Q:VK) (E0_:XK):Prop|mk (b pw sh d:Addr) (sp ev le nn nt mo pl:Int) (ps:List Addr) (cs:List Pc) (k:Nat) (p:Addr) (c:Pc) (_:vs=[.ref b,.ref p,.int pl]) (_:9#0) (_:ps[k]?=some p) (_:cs[k]?=some c) (_:(cs.map Pc.n).Nodup) (_:(∀c ∈ cs,c.n<nn)) (_:cs.length<1000) (_:∀(q:Addr) (H':Hp),H q=none->(∀a o,H a=some o->a≠b->a≠d->a≠p->H' a=some o)->hV CB CP H' b pw sh d sp ev le (nn+1) nt mo (ps++[q]) (cs.set k { c with h:=pl }++[⟨nn,pl,c.h,pl,none⟩])->Q (.ref q) H')
def Gy (CB CP:Addr):Sp:=Cw CB CP
def Dy:aK ["self","number","place","piece"] ["self","number","place"] (aG wG):=2#0
def xV:aK ["self","piece","place","other"] ["self","piece","place"] (aG rP):=2#0
def sH (W:3#0):eH P w K mg base dI N.CB "cut_off" 4 (Gy N.CB N.CP):=W.d62.of λ{f _} F=>by
 refine F.ok xV 11#0 (λa3 A a7 s H vs Q E hr h=>?_)
 ·let (b,pw,sh,d,sp,ev,le,y,nt,mo,g,ps,C,k,p,c,rfl,_):=h
  rfl
 ·let (b,pw,sh,d,sp,ev,le,y,nt,mo,g,ps,C,k,p,c,rfl,Z,hp,hc,nd,lt,ln,t):=h
  let a6:Room 3 (A.deeper (PyProof.Rows.envOfC "Book.cut_off" (aG rP) s.heap.objs.size f a3)):=hr.mono 7#0
  refine {_,aD (bT (i:=3) xV.nd rfl (j9 rfl) (bP (pv 0) W.B.cl (Oa W) a6 aO (aA (pv 2) (aA (aQ (pv 1) rfl) aC))))
   (aD (cX (pv 1) (pv 2) rfl) (aH (aU (pv 3)))),?_}
  let ((dx,T),a0,a2):=id Z
  let (c',J,lv,(O,r),ad):=aN a2 hp
  rw [hc] at J
  cases J
  refine {_,rfl,b,dx,_,rfl,T,rfl,_,rfl,_,rfl,p,N.CP,O,_,_,rfl,r,W.P.cl,W.P.nH,rfl,b,pw,sh,d,sp,ev,le,y,nt,mo,g,c.h,ps,C,rfl,Z,lt,ln,λq Y k1 nq a5=>?_}
  let G:p≠b:=aL r T (by intro z;injection z with _ _ z;injection z with z;injection z with z;exact absurd z ⋯)
  let U:p≠d:=aL r a0 1#0
  let j:=k1 _ _ r G U
  refine {_,rfl,_,rfl,p,N.CP,O,_,rfl,j,W.P.cl,W.P.nH,(by show 5<1000;decide),?_}
  rw [Eu]
  let ((a9,D),S,v):=id a5
  let lk:=(i5.mp hc).1
  let EB:=(i5.mp hp).1
  let M:(ps++[q])[k]?=some p:=by rw [B7 EB];exact hp
  let x:(C++[{(y),g,c.h,g,none}])[k]?=some c:=by rw [B7 lk];exact hc
  let es:(C++[({(y),g,c.h,g,none}:Pc)]).set k { c with h:=g }=C.set k { c with h:=g }++[{(y),g,c.h,g,none}]:=List.set_append_left _ _ lk
  let a1:((C++[({(y),g,c.h,g,none}:Pc)]).map Pc.n).Nodup:=by
   rw [u7,K1];refine {nd,by simp,λa ha b Z z=>?_};let (e,he,rfl):=y0.mp ha;simp only [x9,O9,C5] at Z;have:=lt e he;omega
  let I:∀a o,a≠p->Y a=some o->(upd Y p (.ins N.CP O (pf c.n c.l g c.m lv))) a=some o:=λa o n e=>by rw [aE n];exact e
  let tp:∀a ys,Y a=some (.tup ys)->(upd Y p (.ins N.CP O (pf c.n c.l g c.m lv))) a=some (.tup ys):=λa ys e=>I _ _ (aL e j 1#0) e;let (c2,L,aa,(ac,u),X):=aN v M;rw [x] at L;cases L;rw [j] at u;cases u;let pn:=gL v a1 M x (c':={ c with h:=g }) (λq' e' a8 ⟨a4,⟨dz,ha'⟩,hl'⟩=>{a4,{dz,I _ _ a8 ha'},hl'.move tp}) {lv,{(O),aB},X.move tp};refine {_,rfl,t q _ nq (λa o e n1 n2 n3=>I _ _ n3 (k1 _ _ e n1 n2)) {{a9,I _ _ G.symm D},?_,es ▸ pn}};rw [<- es,nX (c':={ c with h:=g }) x rfl];exact I _ _ U.symm S
def GB:aK ["self","number","place"] ["self","number","place"] (aG Ml):=2#0
def qB (p:Int->Prop) [DecidablePred p]:V->Bool
 | .int i=>decide (p i)
 | _=>false
def Ff [DecidablePred p] {v:V} (h:qB p v=true):∃i,v=.int i/\p i:=by
 cases v with
 | int i=>exact {i,rfl,of_decide_eq_true h}
 | _=>cases h
def hZ (h:eY v=true):∃i,v=.int i:=by
 cases v with
 | int i=>exact {(i),rfl}
 | _=>cases h
def Bs [DecidablePred p] {v:V} (h:eY v=false):qB p v=false:=by
 cases v with
 | int i=>cases h
 | _=>rfl
inductive Wy (CB CM:Addr) (vs:List V) (H:Hp) (Q:VK) (E:XK):Prop|mk (b pw sh d:Addr) (sp ev le nn nt mo:Int) (v:V) (_:vs=[.ref b,v]) (_:Jl CB H b pw sh d sp ev le nn nt mo) (_:oA H v) (_:(qB (mo<=·) v=true->Q .non H)) (_:(qB (mo<=·) v=false->E (.ref CM) none H))
def Kj (CB CM:Addr):Sp:=Wy CB CM
inductive Re (CB CP CN:Addr) (vs:List V) (H:Hp) (Q:VK) (E:XK):Prop|mk (b pw sh d:Addr) (sp ev le nn nt mo:Int) (ps:List Addr) (cs:List Pc) (v:V) (_:vs=[.ref b,v]) (_:9#0) (_:oA H v) (_:(cs.map Pc.n).Nodup) (_:(∀(k:Nat) (p:Addr) (c:Pc),ps[k]?=some p->cs[k]?=some c->v=.int c.n->Q (.ref p) H)) (_:((∀c ∈ cs,v≠.int c.n)->E (.ref CN) none H))
def Sq (CB CP CN:Addr):Sp:=Re CB CP CN
inductive Je (CB CP CN CC:Addr) (vs:List V) (H:Hp) (Q:VK) (E:XK):Prop|mk (b pw sh d:Addr) (sp ev le nn nt mo:Int) (ps:List Addr) (cs:List Pc) (v u:V) (_:vs=[.ref b,v,u]) (_:9#0) (_:oA H v) (_:oA H u) (_:(cs.map Pc.n).Nodup) (_:((∀c ∈ cs,v≠.int c.n)->E (.ref CN) none H)) (_:(∀(k:Nat) (p:Addr) (c:Pc),ps[k]?=some p->cs[k]?=some c->v=.int c.n->(qB (λx=>c.m<x/\x<c.h/\(c.lent=true->c.m+ev<=x)) u=true->Q (.ref p) H)/\(qB (λx=>c.m<x/\x<c.h/\(c.lent=true->c.m+ev<=x)) u=false->E (.ref CC) none H)))
def Kg (CB CP CN CC:Addr):Sp:=Je CB CP CN CC
def wS (W:3#0):eH P w K mg base (fS P w) N.CB "check_moment" 2 (Kj N.CB (c 1)):=W.d54.of λF=>by
 refine F.okE GA (λr H Q E h=>?_) (λz A e s H r Q E m h=>?_)
 ·let (b,x,o,d,y,u,k,l,t,q,v,rfl,_):=h
  rfl
 ·let (b,x,o,d,y,u,k,l,t,q,v,rfl,(g,n),j,p,f):=h
  refine {_,aH (bV (PW.pt (fW (cQ (cK (aX (dP W) m aO (aA (pv 1) aC)))) (eL (bS jG (pv 1) (aQ (pv 0) rfl) (bE _))))) (aH (eB rfl W.x1.ex rfl W.x1.mB cO (aA bC aC))) aZ),?_}
  refine {_,rfl,_,rfl,j,_,rfl,?_}
  cases hv:eY v with
  | false=>exact dD (dD {by show 1<=sizeLine;decide,f (Bs hv)})
  | true=>
   let (i,rfl):=hZ hv
   refine dE {_,rfl,_,rfl,b,N.CB,g,_,_,rfl,n,W.B.cl,W.B.nM,rfl,_,_,rfl,rfl,_,rfl,?_}
   refine fE (λa=>{by show 1<=sizeLine;decide,f (decide_eq_false ?_)}) λa=>p (decide_eq_true ?_)
   ·have:=of_decide_eq_true a
    omega
   ·have:=of_decide_eq_false (F4.mpr a)
    omega
def yM (W:3#0):eH P w K mg base (fS P w) N.CB "piece_with" 2 (Sq N.CB N.CP (c 6)):=W.d59.of λ{f _} F=>by
 refine F.okE Ky 11#0 (λq A x s H vs Q E I h=>?_)
 ·let (b,pw,M,d,sp,U,X,nn,nt,O,C,t,v,rfl,_):=h
  rfl
 ·let (b,pw,M,d,sp,U,X,nn,nt,O,C,t,v,rfl,hb,L,nd,T,J):=h
  let G:(A.deeper (PyProof.Rows.envOfC "Book.piece_with" (aG wF) s.heap.objs.size f q)).units+1<cLine:=by have:=I.un;omega
  let ((r,a),l,o):=id hb
  refine {_,aD (bV (PW.pt (fW (cQ (cK (aX (dP W) I aO (aA (pv 1) aC)))) (eL (rT (kY G (pv 1) (aQ (pv 0) rfl)))))) (aH (eB rfl W.x6.ex rfl W.x6.mB cO (aA bC aC))) aZ) (aH (aU (gQ G (aQ (pv 0) rfl) (pv 1) 12#0))),?_}
  refine {_,rfl,_,rfl,L,_,rfl,?_}
  cases hv:eY v with
  | false=>exact dD (dD {by show 1<=sizeLine;decide,J λc _ z=>by rw [z] at hv;cases hv})
  | true=>
   let (i,rfl):=hZ hv
   refine dE ?_
   by_cases z:∃c ∈ t,c.n=i
   ·let (c,m,rfl):=z
    let (k,u):=y6.mp m
    obtain⟨p,D⟩:∃p,C[k]?=some p:={_,i3 (by have:=o.length;have:=(i5.mp u).1;omega)}
    let g:=eK.k (k:=(Sum.inl c.n:bK)) l
    rw [qH D u nd] at g
    refine {_,rfl,_,rfl,b,N.CB,r,_,_,rfl,a,W.B.cl,W.B.nB,rfl,d,_,rfl,g,_,rfl,dE ?_}
    exact {_,rfl,b,N.CB,r,_,_,rfl,a,W.B.cl,W.B.nB,rfl,_,rfl,d,_,rfl,g,T k p c D u rfl}
   ·let g:=eK.k (k:=(Sum.inl i:bK)) l
    let nv:cH (fF C t) (Sum.inl i:bK)=none:=iA.mpr λe S y=>z (by
     let (j,Z):=y6.mp S
     let (c,p,Y,_,rfl):=lZ Z
     let y:(Sum.inl c.n:bK)=Sum.inl i:=y
     exact {c,j8 Y,Sum.inl.inj y})
    rw [nv] at g
    refine {_,rfl,_,rfl,b,N.CB,r,_,_,rfl,a,W.B.cl,W.B.nB,rfl,d,_,rfl,g,_,rfl,dD {by show 1<=sizeLine;decide,J λc m y=>z {c,m,?_}}}
    injection y with y
    exact y.symm
inductive Rq (CB CP CM CN CL:Addr) (vs:List V) (H:Hp) (Q:VK) (E:XK):Prop|mk (b pw sh d:Addr) (sp ev le nn nt mo:Int) (ps:List Addr) (cs:List Pc) (v u:V) (_:vs=[.ref b,v,u]) (_:9#0) (_:oA H v) (_:oA H u) (_:(qB (mo<=·) u=false->E (.ref CM) none H)) (_:(qB (mo<=·) u=true->qB (λx=>0<=x/\x<nt) v=false->E (.ref CN) none H)) (_:(qB (mo<=·) u=true->∀tk,v=.int tk->0<=tk->tk<nt->(∀c ∈ cs,c.has tk=false)->∀H',aJ H H'->E (.ref CL) none H')) (_:(qB (mo<=·) u=true->∀tk,v=.int tk->0<=tk->tk<nt->∀(k:Nat) (p:Addr) (c:Pc),ps[k]?=some p->cs[k]?=some c->c.has tk=true->(∀j e,cs[j]?=some e->j<k->e.has tk=false)->∀H',aJ H H'->Q (.ref p) H'))
def Dt (CB CP CM CN CL:Addr):Sp:=Rq CB CP CM CN CL
theorem zG (p:α->Bool):∀l:List α,(∀x ∈ l,p x=false)\/∃(k:Nat) (x:α),l[k]?=some x/\p x=true/\∀j e,l[j]?=some e->j<k->p e=false
 | []=>.inl λx h=>by cases h
 | a::l=>by
  cases e:p a with
  | true=>exact .inr {0,a,rfl,e,λj _ _ h=>absurd h (L4 _)}
  | false=>
   rcases zG p l with h|⟨k,x,i,g,f⟩
   ·exact .inl λx d=>(i9.mp d).elim (λz=>by rw [z];exact e) (h x)
   ·refine .inr {k+1,x,i,g,λj y b m=>?_}
    cases j with
    | zero=>cases b;exact e
    | succ j=>exact f j y b ∎
def sF (W:3#0):eH P w K mg base (fS P w) N.CB "held_piece" 3 (Dt N.CB N.CP (c 1) (c 2) (c 3)):=W.d55.of λF=>by
 refine F.okE Lb 11#0 (λa5 A a3 s H vs Q E hr h=>?_)
 ·let (b,pw,sh,d,sp,ev,le,nn,nt,mo,t,l,v,u,rfl,_):=h
  rfl
 ·let (b,pw,sh,d,sp,ev,le,nn,nt,mo,t,l,v,u,rfl,hb,kv,ku,q1,q2,q3,q4):=h
  refine {_,aD (eI (bP (pv 0) W.B.cl (wS W) hr (dS (E':=E) λ_ _ _ z=>z) (aA (pv 2) aC)))
   (aD (bV (PW.pt (fW (cQ (cK (aX (dP W) hr aO (aA (pv 1) aC)))) (eL (cQ (jQ lM jG aR (pv 1) (aQ (pv 0) rfl)))))) (aH (eB rfl W.x2.ex rfl W.x2.mB cO (aA bC aC))) aZ)
   (aD (yG (eC Q0 rfl (pX (mX (aQ (pv 0) rfl))) (aM (i:=3) Lb.nd rfl (j9 rfl))
    (aH (bV (cK (bP (pv 3) W.P.cl (Vb W) hr aO (aA (pv 1) aC))) (aH (aU (pv 3))) aZ)))) (aH (eB rfl W.x3.ex rfl W.x3.mB cO (aA bC aC))))),?_}
  let ((dx,y),p,S):=id hb
  let nf:∀(o:Obj) (v:HO),H d≠some (.frz o v):=λo v z=>by rw [p] at z;cases z
  refine {_,rfl,b,dx,_,rfl,y,rfl,_,rfl,b,pw,sh,d,sp,ev,le,nn,nt,mo,u,rfl,{(dx),y},ku,λY=>?_,q1}
  refine {_,rfl,_,rfl,kv,_,rfl,?_}
  let f:1<=sizeLine:=by decide
  cases hv:eY v with
  | false=>exact dD (dD {f,q2 Y (Bs hv)})
  | true=>
  let (r,rfl):=hZ hv
  refine dE ?_
  by_cases Z:0<=r
  rotate_left
  ·refine {_,rfl,_,_,rfl,rfl,_,rfl,dH (decide_eq_false Z) {_,rfl,dD {f,q2 Y (decide_eq_false λz=>Z z.1)}}}
  refine {_,rfl,_,_,rfl,rfl,_,rfl,dX (decide_eq_true Z) {_,rfl,b,N.CB,dx,_,_,rfl,y,W.B.cl,W.B.nT,rfl,_,_,rfl,rfl,_,rfl,?_}}
  by_cases T:r<nt
  rotate_left
  ·rw [decide_eq_false T]
   exact dD {f,q2 Y (decide_eq_false λz=>T z.2)}
  rw [decide_eq_true T]
  refine dE ?_
  refine {_,rfl,b,N.CB,dx,_,_,rfl,y,W.B.cl,W.B.nB,rfl,.inr (.inr (.inl {rfl,.inl {_,p}})),d,_,rfl,rfl,p,λv nv=>?_}
  let s1:aJ H (upd H v (dY v d)):=aI nv
  let e1:(upd H v (dY v d)) v=some (dY v d):=aB
  generalize upd H v (dY v d)=U at s1 e1 ⊢
  let C:=s1 _ _ p
  let a2:=cL (aJ.toT s1) S
  refine {v,d,fF t l,rfl,e1,C,λo=>?_}
  let fz:(upd U d (.frz o (.dK (fF t l)))) d=some (.frz o (.dK (fF t l))):=aB
  let kp:∀a u,U a=some u->a≠d->(upd U d (.frz o (.dK (fF t l)))) a=some u:=λa u e n=>by rw [aE n];exact e
  let bk:aJ H (upd (upd U d (.frz o (.dK (fF t l)))) d (.dK (fF t l))):=s1.trans (iC C (aJ.refl _))
  generalize upd U d (.frz o (.dK (fF t l)))=H2 at fz kp bk ⊢
  obtain⟨m,hm,g,X⟩:∃m,m<=l.length/\(∀j e,l[j]?=some e->j<m->e.has r=false)/\∀c,l[m]?=some c->c.has r=true:=by
   rcases zG (λc:Pc=>c.has r) l with h|⟨k,c,I,h2,h3⟩
   ·exact⟨l.length,i7 _,λj e he _=>h e (j8 he),λc L=>by have:=(i5.mp L).1;omega⟩
   ·exact {k,E5 (i5.mp I).1,h3,λJ L=>by rw [I] at L;cases L;exact h2}
  refine zB (a:=d) (o:=o) (kvs:=fF t l) (λi σ G=>i<=m/\G=H2/\∃x,σ=[some (.ref b),some (.int r),some u,x]) {l7 _,rfl,_,rfl} (λi σ G _ h=>by rw [h.2.1];exact fz) ?_ ?_
  ·rintro i e σ G he ⟨a0,rfl,x,rfl⟩;let (J,p',I,h2,rfl):=lZ he;let (a6,O,lv,(dp,M),a4):=aN a2 h2;rw [I] at O;cases O;let D:=kp _ _ M (aL M C 1#0);let a1:kH G lv J.o:=a4.move λq ys h=>kp _ _ h (aL h C 1#0);refine nP ?_;refine {_,rfl,p',dp,_,rfl,D,rfl,_,rfl,p',_,_,_,_,r,lv,J.o,rfl,{(dp),D},a1,_,rfl,?_};by_cases z:i=m
   ·subst z;exact dX (X J I) {_,rfl,d,o,_,fz,nf,q4 Y r rfl Z T i p' J h2 I (X J I) g _ bk}
   ·exact dH (g i J I ∎) { ∎,rfl,_,rfl}
  ·rintro σ G ⟨a0,rfl,x,rfl⟩;rw [jB S] at a0;refine {d,o,_,fz,nf,f,q3 Y r rfl Z T (λc L=>?_) _ bk};let (j,hj):=y6.mp L;exact g j c hj (by have:=(i5.mp hj).1;omega)
def Pd {q r:Addr} {H:Hp} {b pw sh d p v:Addr} {sp s j nn nt mo:Int} {ps:List Addr} {cs:List Pc} {k:Nat} {c:Pc} {G:V} {u:Addr} (h:hV q r H b pw sh d sp s j nn nt mo ps cs) (E:(cs.map Pc.n).Nodup) (F:ps[k]?=some p) (B:cs[k]?=some c)
  (g:H p=some (.ins r v (pf c.n c.l c.h c.m G))) (f:H b=some (.ins q u (bf pw sh d sp s j nn nt mo))) (i:Int):
  p≠b/\hV q r (upd (upd H p (.ins r v (pf c.n c.l c.h c.m .non))) b (.ins q u (bf pw sh d sp s j nn nt i))) b pw sh d sp s j nn nt i ps (cs.set k { c with o:=none }):=by
 let t:p≠b:=aL g f (by intro z;injection z with _ _ z;injection z with z;injection z with z;exact absurd z ⋯);refine {t,{(u),aB},?_,?_}
 ·rw [nX (c':={ c with o:=none }) B rfl,aE (aL h.dc f 1#0),aE (aL h.dc g 1#0)];exact h.dc
 ·let C:∀a o,H a=some o->a≠p->a≠b->(upd (upd H p (.ins r v (pf c.n c.l c.h c.m .non))) b (.ins q u (bf pw sh d sp s j nn nt i))) a=some o:=λa o e D J=>by rw [aE J,aE D];exact e
  let I:∀a A,H a=some (.tup A)->(upd (upd H p (.ins r v (pf c.n c.l c.h c.m .non))) b (.ins q u (bf pw sh d sp s j nn nt i))) a=some (.tup A):=λa A e=>C _ _ e (aL e g 1#0) (aL e f 1#0);refine gL h.pc E F B (λM L y ⟨x,⟨dz,ha'⟩,hl'⟩=>{x,{dz,C _ _ ha' y ?_},hl'.move I}) {.non,{v,by rw [aE t,aB]},trivial};exact aL ha' f (by intro z;injection z with _ _ z;injection z with z;injection z with z;exact absurd z ⋯)
inductive Rw (CB CP CM CN CL:Addr) (vs:List V) (H:Hp) (Q:VK) (E:XK):Prop|mk (b pw sh d:Addr) (sp ev le nn nt mo:Int) (ps:List Addr) (cs:List Pc) (v u:V) (_:vs=[.ref b,v,u]) (_:9#0) (_:oA H v) (_:oA H u) (_:(cs.map Pc.n).Nodup) (_:(qB (mo<=·) u=false->E (.ref CM) none H)) (_:(qB (mo<=·) u=true->qB (λx=>0<=x/\x<nt) v=false->E (.ref CN) none H)) (_:(qB (mo<=·) u=true->∀tk,v=.int tk->0<=tk->tk<nt->(∀c ∈ cs,c.has tk=false)->∀H',aJ H H'->E (.ref CL) none H')) (_:(∀i tk,u=.int i->mo<=i->v=.int tk->0<=tk->tk<nt->∀(k:Nat) (p:Addr) (c:Pc),ps[k]?=some p->cs[k]?=some c->c.has tk=true->(∀j e,cs[j]?=some e->j<k->e.has tk=false) ->
  ∀H',(∀a o,H a=some o->a≠b->a≠p->H' a=some o)->hV CB CP H' b pw sh d sp ev le nn nt i ps (cs.set k { c with o:=none })->Q .non H'))
def Du (CB CP CM CN CL:Addr):Sp:=Rw CB CP CM CN CL
def Lg:aK ["self","token","moment","piece"] ["self","token","moment"] (aG Mm):=2#0
def Op (W:3#0):eH P w K mg base (fS P w) N.CB "give_back" 4 (Du N.CB N.CP (c 1) (c 2) (c 3)):=W.d47.of λF=>by
 refine F.okE Lg 11#0 (λa0 A y s H vs Q E hr h=>?_)
 ·let (b,O,C,d,S,G,I,L,T,D,U,M,v,u,rfl,_):=h
  rfl
 ·let (b,O,C,d,S,G,I,L,T,D,U,M,v,u,rfl,x,X,ku,nd,Z,q2,Y,q4):=h
  refine {_,aD (bT (i:=3) Lg.nd rfl (j9 rfl) (bP (pv 0) W.B.cl (sF W) hr (dS (E':=E) λ_ _ _ z=>z) (aA (pv 1) (aA (pv 2) aC))))
   (aD (cX (pv 3) eU rfl) (aH (cX (pv 0) (pv 2) rfl))),?_}
  let (J,m):=x.ob
  refine {_,rfl,b,J,_,rfl,m,rfl,_,rfl,_,rfl,b,O,C,d,S,G,I,L,T,D,U,M,v,u,rfl,x,X,ku,Z,q2,Y,λhu tk hv t0 t1 k p c t q hh hf H1 r=>?_}
  let (i,rfl,hi):=Ff hu
  have l:=x.sameT (aJ.toT r)
  have f:=r _ _ m
  let (c',j,lv,(dp,g),_):=aN l.pc t
  rw [q] at j
  cases j
  let (n,bk):=Pd l nd t q g f i
  refine {_,rfl,p,N.CP,dp,_,rfl,g,W.P.cl,W.P.nD,(by show 5<1000;decide),?_}
  rw [pZ]
  refine {_,rfl,_,rfl,b,N.CB,J,_,rfl,(by rw [aE n.symm];exact f),W.B.cl,W.B.nM,(by show 9<1000;decide),?_}
  rw [oT]
  exact q4 i tk rfl hi hv t0 t1 k p c t q hh hf _ (λa o e n1 n2=>by rw [aE n1,aE n2];exact r _ _ e) bk
def Hn (W:3#0):eH P w K mg base (fS P w) N.CB "piece_to_cut" 3 (Kg N.CB N.CP (c 6) (c 7)):=W.d57.of λ{f _} F=>by
 refine F.okE Dy 11#0 (λI A L s H vs Q E hr h=>?_)
 ·let (b,pw,S,d,sp,U,X,Z,nt,T,ps,cs,v,u,rfl,_):=h
  rfl
 ·let (b,pw,S,d,sp,U,X,Z,nt,T,ps,cs,v,u,rfl,hb,kv,ku,nd,q1,q2):=h
  let r:Room 1 (A.deeper (PyProof.Rows.envOfC "Book.piece_to_cut" (aG wG) s.heap.objs.size f I)):=hr.mono 7#0
  refine {_,aD (bT (i:=3) Dy.nd rfl (j9 rfl) (bP (pv 0) W.B.cl (yM W) hr (dS (E':=E) λ_ _ _ z=>z) (aA (pv 1) aC)))
   (aD (bV (PW.pt (fW (cQ (cK (aX (dP W) r aO (aA (pv 2) aC)))) (eL (cQ (jQ jG jG (aQ (pv 3) rfl) (pv 2) (aQ (pv 3) rfl)))))) (aH (eB rfl W.x7.ex rfl W.x7.mB cO (aA bC aC))) aZ)
   (aD (bV (PW.pt (lT (cK (bX (pv 3) W.P.cl (nF W) r aO)) (iW (bS jG (pv 2) (bO dW (aQ (pv 3) rfl) (aQ (pv 0) rfl)) (bE _))))) (aH (eB rfl W.x7.ex rfl W.x7.mB cO (aA bC aC))) aZ)
   (aH (aU (pv 3))))),?_}
  let ((Y,t),a0,G):=id hb
  let a:1<=sizeLine:=by decide
  refine {_,rfl,b,Y,_,rfl,t,rfl,_,rfl,b,pw,S,d,sp,U,X,Z,nt,T,ps,cs,v,rfl,hb,kv,nd,λk p c hp O D=>?_,q1}
  let (qa,C):=q2 k p c hp O D
  let (c',n,lv,(j,g),M):=aN G hp
  rw [O] at n
  cases n
  refine {_,rfl,_,rfl,ku,_,rfl,?_}
  cases hv:eY u with
  | false=>exact dD (dD {a,C (Bs hv)})
  | true=>
  let (x,rfl):=hZ hv
  refine dE ?_
  by_cases q:c.m<x
  rotate_left
  ·exact {_,rfl,p,N.CP,j,_,_,rfl,g,W.P.cl,W.P.nM,rfl,_,rfl,_,_,rfl,rfl,_,rfl,dH (decide_eq_false q) {_,rfl,dD {a,C (decide_eq_false λz=>q z.1)}}}
  refine {_,rfl,p,N.CP,j,_,_,rfl,g,W.P.cl,W.P.nM,rfl,_,rfl,_,_,rfl,rfl,_,rfl,dX (decide_eq_true q) {_,rfl,p,N.CP,j,_,_,rfl,g,W.P.cl,W.P.nH,rfl,_,_,rfl,rfl,_,rfl,?_}}
  by_cases l:x<c.h
  rotate_left
  ·rw [decide_eq_false l]
   exact dD {a,C (decide_eq_false λz=>l z.2.1)}
  rw [decide_eq_true l]
  refine dE ?_
  refine {_,rfl,p,j,_,rfl,g,rfl,p,_,_,_,_,lv,rfl,{(j),g},_,rfl,?_}
  let e:(!decide (lv=.non))=c.lent:=by
   rw [M.non];unfold Pc.lent;cases c.o <;> rfl
  rw [e];refine fE (λJ=>?_) λJ=>dE {_,rfl,qa (decide_eq_true {q,l,λz=>absurd z J})};refine {_,rfl,_,rfl,p,N.CP,j,_,_,rfl,g,W.P.cl,W.P.nM,rfl,_,rfl,b,N.CB,Y,_,_,rfl,t,W.B.cl,W.B.nE,rfl,_,_,rfl,rfl,_,_,rfl,rfl,_,rfl,?_};refine fE (λz=>{a,C (decide_eq_false λy=>?_)}) λz=>{_,rfl,qa (decide_eq_true {q,l,λ_=>?_})}
  ·have:=of_decide_eq_true z;have:=y.2.2 J;omega
  ·have:=of_decide_eq_false (F4.mpr z);omega
def Pc.unt (c:Pc):Bool:=c.free && decide (c.m=c.l)
inductive DM (C:Addr) (vs:List V) (H:Hp) (Q:VK) (E0_:XK):Prop|mk (p:Addr) (c:Pc) (_:vs=[.ref p]) (_:fR C H p c) (_:Q (.bl c.unt) H)
def FP (C:Addr):Sp:=DM C
inductive Xh (CB CP:Addr) (vs:List V) (H:Hp) (Q:VK) (E0_:XK):Prop|mk (b pw sh d:Addr) (sp ev le nn nt mo l:Int) (ps:List Addr) (cs:List Pc) (_:vs=[.ref b,.int l]) (_:9#0) (_:(∀(k:Nat) (p:Addr) (c:Pc),ps[k]?=some p->cs[k]?=some c->c.l=l->∀H',aJ H H'->Q (.ref p) H')) (_:((∀c ∈ cs,c.l≠l)->∀H',aJ H H'->Q .non H'))
def AD (CB CP:Addr):Sp:=Xh CB CP
def FX:aK ["self"] ["self"] (aG oX):=2#0
def BL (W:3#0):eH P w K mg base dI N.CP "is_untouched" 3 (FP N.CP):=W.d32.of λF=>by
 refine F.ok FX (λi H Q E h=>?_) (λk A d s H i Q E g h=>?_)
 ·let (p,c,rfl,_):=h
  rfl
 ·let (p,c,rfl,(f,(a,b),j),q):=h
  refine {_,aH (aU (gK (bX (pv 0) W.P.cl (Fc W) g aO) (gZ (eA iL (aQ (pv 0) rfl) (aQ (pv 0) rfl) (bE _))))),?_}
  refine {_,rfl,p,a,_,rfl,b,rfl,p,_,_,_,_,f,rfl,{(a),b},_,rfl,?_}
  let e:(decide (f=.non) && !decide (c.m=c.h))=c.free:=by rw [j.non];rfl
  rw [e]
  unfold Pc.unt at q
  refine fE (λh=>?_) (λh=>?_)
  ·refine {_,rfl,p,N.CP,a,_,_,rfl,b,W.P.cl,W.P.nM,rfl,_,rfl,p,N.CP,a,_,_,rfl,b,W.P.cl,W.P.nL,rfl,rfl,?_}
   rw [h,Bool.true_and] at q
   let z:decide (V.int c.m=V.int c.l)=decide (c.m=c.l):=by
    by_cases y:c.m=c.l
    ·rw [y,decide_eq_true rfl,decide_eq_true rfl]
    ·rw [decide_eq_false y,decide_eq_false λx=>y (by injection x)]
   rw [z];exact q
  ·let h:=F4.mpr h;rw [h] at q;exact q
def Lc:aK ["self","low","piece"] ["self","low"] (aG Mj):=2#0
def Fb (W:3#0):eH P w K mg base dI N.CB "piece_from" 1 (AD N.CB N.CP):=W.d60.of λF=>by
 refine F.ok Lc 11#0 (λa0 A X s H vs Q E hr h=>?_)
 ·let (b,pw,sh,d,sp,ev,le,nn,nt,mo,l,m,f,rfl,_):=h
  rfl
 ·let (b,pw,sh,d,sp,ev,le,nn,nt,mo,l,m,f,rfl,hb,q1,q2):=h
  refine {_,aD (yG (eC v7 rfl (pX (mX (aQ (pv 0) rfl))) (aM (i:=2) Lc.nd rfl (j9 rfl))
    (aH (bV (bS iL (aQ (pv 2) rfl) (pv 1) (bE _)) (aH (aU (pv 2))) aZ)))) (aH (aU eU)),?_}
  let ((dx,Y),k,I):=id hb
  have nf:∀(o:Obj) (v:HO),H d≠some (.frz o v):=λo v z=>by rw [k] at z;cases z
  refine {_,rfl,b,N.CB,dx,_,_,rfl,Y,W.B.cl,W.B.nB,rfl,.inr (.inr (.inl {rfl,.inl {_,k}})),d,_,rfl,rfl,k,λv nv=>?_}
  have L:aJ H (upd H v (dY v d)):=aI nv
  have e1:(upd H v (dY v d)) v=some (dY v d):=aB
  generalize upd H v (dY v d)=J at L e1 ⊢
  have r:=L _ _ k
  have U:=cL (aJ.toT L) I
  refine {v,d,fF m f,rfl,e1,r,λo=>?_}
  have M:(upd J d (.frz o (.dK (fF m f)))) d=some (.frz o (.dK (fF m f))):=aB
  have kp:∀a u,J a=some u->a≠d->(upd J d (.frz o (.dK (fF m f)))) a=some u:=λa u e n=>by rw [aE n];exact e
  have O:aJ H (upd (upd J d (.frz o (.dK (fF m f)))) d (.dK (fF m f))):=L.trans (iC r (aJ.refl _))
  generalize upd J d (.frz o (.dK (fF m f)))=H2 at M kp O ⊢
  refine zB (a:=d) (o:=o) (kvs:=fF m f) (λi σ G=>(∀j e,f[j]?=some e->j<i->e.l≠l)/\G=H2/\∃x,σ=[some (.ref b),some (.int l),x]) {λ_ _ _ h=>absurd h (L4 _),rfl,_,rfl} (λi σ G _ h=>by rw [h.2.1];exact M) ?_ ?_
  ·rintro i e σ G he ⟨p,rfl,x,rfl⟩
   let (c',Z,S,h2,rfl):=lZ he
   let (a1,C,lv,(dp,t),a2):=aN U h2
   rw [S] at C
   cases C
   have D:=kp _ _ t (aL t r 1#0)
   refine nP ?_
   refine {_,rfl,Z,N.CP,dp,_,_,rfl,D,W.P.cl,W.P.nL,rfl,_,rfl,rfl,_,rfl,?_}
   refine fE (λg=>?_) (λg=>?_)
   ·have g:=of_decide_eq_true g
    injection g with g
    exact {_,rfl,d,o,_,M,nf,q1 i Z c' h2 S g _ O}
   ·refine {λj e' q T=>?_,rfl,_,rfl}
    by_cases z:j=i
    ·subst z
     rw [S] at q
     cases q
     exact λy=>g (decide_eq_true (by rw [y]))
    ·exact p j e' q ∎
  ·rintro σ G ⟨p,rfl,x,rfl⟩
   refine {d,o,_,M,nf,q2 (λc g=>?_) _ O}
   let (j,T):=y6.mp g
   exact p j c T (by rw [jB I];exact(i5.mp T).1)
inductive Jd (CB CP CN CJ:Addr) (vs:List V) (H:Hp) (Q:VK) (E:XK):Prop|mk (b pw sh d:Addr) (sp ev le nn nt mo:Int) (ps:List Addr) (cs:List Pc) (v:V) (_:vs=[.ref b,v]) (_:9#0) (_:oA H v) (_:(cs.map Pc.n).Nodup) (_:((∀c ∈ cs,v≠.int c.n)->E (.ref CN) none H)) (_:(∀(k:Nat) (p:Addr) (c:Pc),ps[k]?=some p->cs[k]?=some c->v=.int c.n->∀H',aJ H H' ->
  ((∀e ∈ cs,e.l≠c.h)->E (.ref CJ) none H')/\(∀(j:Nat) (e:Pc),cs[j]?=some e->e.l=c.h->(e.unt=true->Q (.ref p) H')/\(e.unt=false->E (.ref CJ) none H'))))
def Kf (CB CP CN CJ:Addr):Sp:=Jd CB CP CN CJ
def rM:aK ["self","number","piece","other"] ["self","number"] (aG mP):=2#0
def Hm (W:3#0):eH P w K mg base (fS P w) N.CB "piece_to_join" 4 (Kf N.CB N.CP (c 6) (c 8)):=W.d58.of λ{f _} F=>by
 refine F.okE rM 11#0 (λn A a0 s H vs Q E hr h=>?_)
 ·let (b,pw,D,d,sp,J,M,S,nt,G,ps,T,v,rfl,_):=h
  rfl
 ·let (b,pw,D,d,sp,J,M,S,nt,G,ps,T,v,rfl,x,kv,nd,q1,q2):=h
  let I:Room 2 (A.deeper (PyProof.Rows.envOfC "Book.piece_to_join" (aG mP) s.heap.objs.size f n)):=hr.mono 7#0
  let Y:Room 1 (A.deeper (PyProof.Rows.envOfC "Book.piece_to_join" (aG mP) s.heap.objs.size f n)):=hr.mono 7#0
  refine {_,aD (bT (i:=2) rM.nd rfl (j9 rfl) (bP (pv 0) W.B.cl (yM W) I (dS (E':=E) λ_ _ _ z=>z) (aA (pv 1) aC)))
   (aD (bT (i:=3) rM.nd rfl (j9 rfl) (bP (pv 0) W.B.cl (Fb W) Y aO (aA (aQ (pv 2) rfl) aC)))
   (aD (bV (PW.pt (fW (bS oJ (pv 3) eU (bE _)) (eL (cQ (cK (bX (pv 3) W.P.cl (BL W) hr aO)))))) (aH (eB rfl W.x8.ex rfl W.x8.mB cO (aA bC aC))) aZ)
   (aH (aU (pv 2))))),?_}
  let ((dx,r),a1,L):=id x
  let a:1<=sizeLine:=by decide
  refine {_,rfl,b,dx,_,rfl,r,rfl,_,rfl,b,pw,D,d,sp,J,M,S,nt,G,ps,T,v,rfl,x,kv,nd,λk p c U C l=>?_,q1}
  let (c',m,lv,(dp,y),a2):=aN L U
  rw [C] at m
  cases m
  refine {_,rfl,b,dx,_,rfl,r,rfl,_,rfl,p,N.CP,dp,_,_,rfl,y,W.P.cl,W.P.nH,rfl,b,pw,D,d,sp,J,M,S,nt,G,c.h,ps,T,rfl,x,λj o e ho he el O u=>?_,λno O u=>?_}
  ·let (qa,qb):=(q2 k p c U C l O u).2 j e he el
   let X:=x.sameT (aJ.toT u)
   let (e',q,lo,(t,g),Z):=aN X.pc ho
   rw [he] at q
   cases q
   refine {_,rfl,rfl,_,rfl,dH rfl {_,rfl,o,t,_,rfl,g,rfl,o,e,rfl,{lo,{(t),g},Z},_,rfl,?_}}
   cases hu:e.unt with
   | false=>exact dD {a,qb hu}
   | true=>exact dE {_,rfl,qa hu}
  ·exact {_,rfl,rfl,_,rfl,dD (dD {a,(q2 k p c U C l O u).1 no})}
def Iu {κ:Type} [DecidableEq κ] {kvs:List (κ × V)} {k:κ} (h:∀e ∈ kvs,e.1≠k):iT kvs k=kvs:=F6.mpr λe a=>decide_eq_true (h e a)
def We (h:e ∈ fF ps cs):∃c ∈ cs,e.1=Sum.inl c.n:=by
 let (i,a):=y6.mp h;let (c,p,b,_,rfl):=lZ a;exact {c,y6.mpr {(i),b},rfl}
theorem zM:∀{ps:List Addr} {cs:List Pc} {j:Nat} {p:Addr} {c:Pc},ps[j]?=some p->cs[j]?=some c->(cs.map Pc.n).Nodup->iT (fF ps cs) (Sum.inl c.n:bK)=fF (ps.eraseIdx j) (cs.eraseIdx j)
 | [],_,_,_,_,h,_,_=>by simp at h
 | _::_,[],_,_,_,_,h,_=>by simp at h
 | p::ps,c::cs,0,_,_,h1,h2,nd=>by
  cases h1
  cases h2
  rw [x9,A9] at nd
  show iT ((Sum.inl c.n,V.ref p)::fF ps cs) _=fF ps cs
  unfold iT
  rw [Q7,if_neg 6#0]
  exact Iu λe f z=>by
   let (d,a,y):=We f
   rw [y] at z
   injection z with z
   exact nd.1 (y0.mpr {(d),a,z})
 | p::ps,c::cs,j+1,q,e,h1,h2,nd=>by
  rw [x9,A9] at nd
  have g:c.n≠e.n:=λz=>nd.1 (y0.mpr {e,y6.mpr {(j),h2},z.symm})
  show iT ((Sum.inl c.n,V.ref p)::fF ps cs) _=(Sum.inl c.n,V.ref p)::fF (ps.eraseIdx j) (cs.eraseIdx j)
  have b:iT (fF ps cs) (Sum.inl e.n:bK)=fF (ps.eraseIdx j) (cs.eraseIdx j):=zM (j:=j) (p:=q) h1 h2 nd.2
  rw [<- b]
  unfold iT
  rw [Q7,if_pos (by simp [g])]
theorem nC:∀{xs:List α} {ys:List β} (j:Nat),Paired F xs ys->Paired F (xs.eraseIdx j) (ys.eraseIdx j)
 | _,_,_,.nil=>.nil
 | _,_,0,.cons _ t=>t
 | _,_,j+1,.cons r t=>.cons r (nC j t)
inductive Xd (CB CP CN CJ:Addr) (vs:List V) (H:Hp) (Q:VK) (E:XK):Prop|mk (b pw sh d:Addr) (sp ev le nn nt mo:Int) (ps:List Addr) (cs:List Pc) (v:V) (_:vs=[.ref b,v]) (_:9#0) (_:oA H v) (_:(cs.map Pc.n).Nodup) (_:(∀(i j:Nat) (x y:Pc),cs[i]?=some x->cs[j]?=some y->x.l=y.l->i=j)) (_:((∀c ∈ cs,v≠.int c.n)->E (.ref CN) none H)) (_:(∀(k:Nat) (p:Addr) (c:Pc),ps[k]?=some p->cs[k]?=some c->v=.int c.n ->
  ((∀e ∈ cs,e.l≠c.h)->∀H',aJ H H'->E (.ref CJ) none H')/\(∀(j:Nat) (e:Pc),cs[j]?=some e->e.l=c.h->(e.unt=false->∀H',aJ H H'->E (.ref CJ) none H') /\
   (e.unt=true->∀H',(∀a o,H a=some o->a≠d->a≠p->H' a=some o)->hV CB CP H' b pw sh d sp ev le nn nt mo (ps.eraseIdx j) ((cs.set k { c with h:=e.h }).eraseIdx j)->Q .non H'))))
def Kl (CB CP CN CJ:Addr):Sp:=Xd CB CP CN CJ
def Ba:aK ["self","number","piece","other"] ["self","number"] (aG Bc):=2#0
def Uz (W:3#0):eH P w K mg base (fS P w) N.CB "join" 5 (Kl N.CB N.CP (c 6) (c 8)):=W.d49.of λ{f _} F=>by
 refine F.okE Ba 11#0 (λa6 A a8 s H vs Q E hr h=>?_)
 ·let (b,pw,sh,d,sp,ev,le,nn,nt,mo,ps,U,v,rfl,_):=h
  rfl
 ·let (b,pw,sh,d,sp,ev,le,nn,nt,mo,ps,U,v,rfl,hb,kv,nd,ul,q1,q2):=h
  let ac:Room 1 (A.deeper (PyProof.Rows.envOfC "Book.join" (aG Bc) s.heap.objs.size f a6)):=hr.mono 7#0
  refine {_,aD (bT (i:=2) Ba.nd rfl (j9 rfl) (bP (pv 0) W.B.cl (Hm W) hr (dS (E':=E) λ_ _ _ z=>z) (aA (pv 1) aC)))
   (aD (bT (i:=3) Ba.nd rfl (j9 rfl) (bP (pv 0) W.B.cl (Fb W) ac aO (aA (aQ (pv 2) rfl) aC)))
   (aD (cX (pv 2) (aQ (pv 3) rfl) rfl)
   (aH (eI (Nh (aQ (pv 0) rfl) (aQ (pv 3) rfl) {(rfl),rfl,rfl,rfl}))))),?_}
  let ((dx,a5),ai,ag):=id hb
  refine {_,rfl,b,dx,_,rfl,a5,rfl,_,rfl,b,pw,sh,d,sp,ev,le,nn,nt,mo,ps,U,v,rfl,hb,kv,nd,q1,λk p c hp G ae H1 s1=>?_}
  let (qa,qb):=q2 k p c hp G ae
  refine {λno=>qa no H1 s1,λj e C el=>{λY=>?_,λY=>(qb j e C el).1 Y H1 s1}}
  let q:=(qb j e C el).2 Y
  let S:=hb.sameT (aJ.toT s1)
  let D:=s1 _ _ a5
  let (c',X,lv,(O,a4),af):=aN S.pc hp
  rw [G] at X
  cases X
  refine {_,rfl,b,dx,_,rfl,D,rfl,_,rfl,p,N.CP,O,_,_,rfl,a4,W.P.cl,W.P.nH,rfl,b,pw,sh,d,sp,ev,le,nn,nt,mo,c.h,ps,U,rfl,S,λj' o e' ho M ad H2 s2=>?_,λno=>absurd el (no e (y6.mpr {(j),C}))}
  cases ul j j' e e' C M (el.trans ad.symm)
  rw [C] at M
  cases M
  let T:=S.sameT (aJ.toT s2)
  let u:=s2 _ _ D
  let t:=s2 _ _ a4
  let r:=T.dc
  let (aj,J,lo,(a1,g),ah):=aN T.pc ho
  rw [C] at J
  cases J
  let a2:p≠b:=aL t u (by intro z;injection z with _ _ z;injection z with z;injection z with z;exact absurd z ⋯)
  let a9:b≠d:=aL u r 1#0
  let a3:p≠d:=aL t r 1#0
  let a0:k≠j:=λz=>by
   subst z
   rw [G] at C
   cases C
   unfold Pc.unt Pc.free at Y
   simp at Y
   omega
  let aa:o≠p:=λz=>by
   subst z
   rw [t] at g
   injection g with g
   injection g with _ _ z
   unfold pf at z
   simp at z
   exact a0 (ul k j c e G C z.2.1)
  refine {_,rfl,o,N.CP,a1,_,_,rfl,g,W.P.cl,W.P.nH,rfl,_,rfl,p,N.CP,O,_,rfl,t,W.P.cl,W.P.nH,(by show 5<1000;decide),?_}
  rw [Eu]
  let up:(upd H2 p (.ins N.CP O (pf c.n c.l e.h c.m lv))) p=some (.ins N.CP O (pf c.n c.l e.h c.m lv)):=aB
  let L:∀a x,H2 a=some x->a≠p->(upd H2 p (.ins N.CP O (pf c.n c.l e.h c.m lv))) a=some x:=λa x z n=>by rw [aE n];exact z
  generalize upd H2 p (.ins N.CP O (pf c.n c.l e.h c.m lv))=H3 at up L ⊢
  let I:=L _ _ r a3.symm
  refine {_,rfl,b,N.CB,dx,_,_,rfl,L _ _ u a2.symm,W.B.cl,W.B.nB,rfl,d,rfl,?_,?_}
  ·exact .inl {_,.inl I}
  refine {_,rfl,o,N.CP,a1,_,_,rfl,L _ _ g aa,W.P.cl,W.P.nN,rfl,_,Sum.inl e.n,.ref o,I,rfl,qH ho C nd,?_}
  refine q _ (λa x z n1 n2=>by rw [aE n1];exact L _ _ (s2 _ _ (s1 _ _ z)) n2) {{dx,by rw [aE a9];exact L _ _ u a2.symm},?_,?_}
  ·rw [aB,<- zM (j:=j) (p:=o) (c:=e) ho ?_ ?_,nX (c':={ c with h:=e.h }) G rfl]
   ·rw [E9 a0]
    exact C
   ·let en:(U.set k { c with h:=e.h }).map Pc.n=U.map Pc.n:=by
     rw [List.map_set];refine L9 λi=>?_;by_cases z:k=i
     ·subst z;rw [E6 (by rw [i6];exact(i5.mp G).1),j7,G];rfl
     ·rw [E9 z]
    rw [en];exact nd
  ·let tp:∀a Z,H2 a=some (.tup Z)->(upd H3 d (.dK (iT (fF ps U) (Sum.inl e.n)))) a=some (.tup Z):=λa Z z=>by
    rw [aE (aL z r (by intro y;cases y))];exact L _ _ z (aL z t (by intro y;cases y))
   refine nC j (gL T.pc nd hp G (λq' x nq ⟨a7,⟨dz,ha'⟩,hl'⟩=>{a7,{dz,?_},hl'.move tp}) {lv,{O,by rw [aE a3];exact up},af.move λa Z z=>tp a Z (s2 _ _ z)});rw [aE (aL ha' r 1#0)];exact L _ _ ha' nq
inductive Xm (CB CP CN CC:Addr) (vs:List V) (H:Hp) (Q:VK) (E:XK):Prop|mk (b pw sh d:Addr) (sp ev le nn nt mo:Int) (ps:List Addr) (cs:List Pc) (v u:V) (_:vs=[.ref b,v,u]) (_:9#0) (_:oA H v) (_:oA H u) (_:(cs.map Pc.n).Nodup) (_:(∀c ∈ cs,c.n<nn)) (_:cs.length<1000) (_:((∀c ∈ cs,v≠.int c.n)->E (.ref CN) none H)) (_:(∀(k:Nat) (p:Addr) (c:Pc),ps[k]?=some p->cs[k]?=some c->v=.int c.n ->
  (∀pl,u=.int pl->c.m<pl->pl<c.h->(c.lent=true->c.m+ev<=pl)->∀(q:Addr) (H':Hp),(∀a o,H a=some o->a≠b->a≠d->a≠p->H' a=some o)->hV CB CP H' b pw sh d sp ev le (nn+1) nt mo (ps++[q]) (cs.set k { c with h:=pl }++[⟨nn,pl,c.h,pl,none⟩])->Q .non H') /\
  (qB (λx=>c.m<x/\x<c.h/\(c.lent=true->c.m+ev<=x)) u=false->E (.ref CC) none H)))
def Ko (CB CP CN CC:Addr):Sp:=Xm CB CP CN CC
def Ve (W:3#0):eH P w K mg base (fS P w) N.CB "cut" 5 (Ko N.CB N.CP (c 6) (c 7)):=W.d48.of λ{f _} F=>by
 refine F.okE GB 11#0 (λm A y s H vs Q E T h=>?_)
 ·let (b,C,g,d,D,j,l,n,G,i,I,o,v,u,rfl,_):=h
  rfl
 ·let (b,C,g,d,D,j,l,n,G,i,I,o,v,u,rfl,x,X,ku,M,lt,ln,Y,q2):=h
  have t:Room 3 (A.deeper (PyProof.Rows.envOfC "Book.cut" (aG Ml) s.heap.objs.size f m)):=T.mono 7#0
  refine {_,aH (eI (bP (pv 0) W.B.cl (sH W) T aO (aA (bP (pv 0) W.B.cl (Hn W) t (dS (E':=E) λ_ _ _ z=>z) (aA (pv 1) (aA (pv 2) aC))) (aA (pv 2) aC)))),?_}
  let (L,a):=x.ob
  refine {_,rfl,b,L,_,rfl,a,rfl,_,rfl,b,L,_,rfl,a,rfl,_,rfl,_,rfl,b,C,g,d,D,j,l,n,G,i,I,o,v,u,rfl,x,X,ku,M,Y,λk p c O J e=>?_}
  let (qa,U):=q2 k p c O J e
  refine {λhu=>?_,U}
  let (S,rfl,h1,h2,h3):=Ff hu
  exact {_,rfl,b,C,g,d,D,j,l,n,G,i,S,I,o,k,p,c,rfl,x,O,J,M,lt,ln,λq Z _ k1 r=>qa S rfl h1 h2 h3 q Z k1 r}
end
end Ls
namespace L2
open PySem PySem.W
section
variable {P:Program} {w:World} {K:Frag} {mg:Str->Option Value} {base:Heap} {N:Cn} {c:Nat->Addr} {CX:pK} {k:Nat} {f:Addr} {fd:FuncData} {ps:List Str} {sp sp':Sp}
def bH.lift (F:bH P w K mg base dI k f fd ps sp):bH P w K mg base CX k f fd ps sp:=
 ⟨F.len,λA a s H b l j Q E d g i r h=>G9 (F.run A a s H b l j Q E d g i r h) λx m q=>by
  cases x with
  | ok fl=>cases fl <;> exact q
  | error e=>exact q.elim⟩
def bH.both (a:bH P w K mg base CX k f fd ps sp) (b:bH P w K mg base CX k f fd ps sp'):bH P w K mg base CX k f fd ps (λe H Q E=>sp e H Q E\/sp' e H Q E):=
 {λe H Q E h=>h.elim (a.len e H Q E) (b.len e H Q E),λA d s H g m e Q E i j l r h=>h.elim (a.run A d s H g m e Q E i j l r) (b.run A d s H g m e Q E i j l r)}
end
end L2
namespace Ls
open PySem L2 PySem.W
inductive Cy (CB CM:Addr) (vs:List V) (H:Hp) (Q0_:VK) (E:XK):Prop|mk (b pw sh d:Addr) (sp ev le nn nt mo:Int) (v:V) (_:vs=[.ref b,v]) (_:Jl CB H b pw sh d sp ev le nn nt mo) (_:oA H v) (_:qB (mo<=·) v=false) (_:E (.ref CM) none H)
def uP (CB CM:Addr):Sp:=Cy CB CM
section
variable {P:Program} {w:World} {K:Frag} {mg:Str->Option Value} {base:Heap} {N:Cn} {c:Nat->Addr}
def Bq (F:qW K "choice" "Book.choice" iJ f fd) (W:3#0):bH P w K mg base (fS P w) 3 f fd ["self","moment"] (uP N.CB (c 1)):=by
 refine F.okE iI (λx H Q E h=>?_) (λy A e s H x Q E u h=>?_)
 ·let (b,o,l,d,sp,p,g,i,n,m,v,rfl,_):=h;rfl
 ·let (b,o,l,d,sp,p,g,i,n,m,v,rfl,j,t,C,q):=h;refine {_,aD (eI (bP (pv 0) W.B.cl (wS W) u (dS (E':=E) λ_ _ _ z=>z) (aA (pv 1) aC))) cR,?_};let (r,a):=id j;exact {_,rfl,b,r,_,rfl,a,rfl,_,rfl,b,o,l,d,sp,p,g,i,n,m,v,rfl,j,t,λz=>absurd (C.symm.trans z) 7#0,λ_=>q}
def jO (t:pG H T pos q) (k1:∀b,H T=some (.tbl b)->H' T=some (.tbl b)) (k2:∀a f,H a=some (.ext f)->H' a=some (.ext f)):pG H' T pos q:=by
 let (b,e,d,h):=t;refine {b,k1 _ e,d,?_};rcases h with z|⟨i,z,g⟩
 ·exact .inl z
 ·exact .inr {i,z,k2 _ _ g}
def HB (c:Nat):Bool:=(!decide ((⟨#[c]⟩:Str).cps.toList<("a":Str).cps.toList)) && !decide (("z":Str).cps.toList<(⟨#[c]⟩:Str).cps.toList)
def LF (x:Str):Bool:=decide (1<=x.length) && decide (x.length<=8) && x.cps.toList.all HB
def Xt (h:LF x=true) (a:x.cps.all (·<128)=true):lF x:=by
 unfold LF at h;simp only [C6,decide_eq_true_eq,N3] at h;refine {h.1.1,h.1.2,a,λi c b=>?_};let z:=h.2 c (by
  have:x.cps.toList[i]?=some c:=by simpa using b
  exact y6.mpr {(i),this});unfold HB at z;rw [C6] at z;exact z
def KU (cs:List Pc) (le i:Int):Prop:=(∀c ∈ cs,c.free=false)/\(∀c ∈ cs,c.late i=false)/\∀c,tU Pc.lent cs c->c.h-c.m<2 * le
inductive Rl (CB CP CM T:Addr) (vs:List V) (H:Hp) (Q:VK) (E:XK):Prop|mk (b pw sh d:Addr) (sp ev le nn nt mo i:Int) (x:Str) (ps:List Addr) (cs:List Pc) (_:vs=[.ref b,.str x,.int i]) (_:9#0) (_:cs.length<1000) (_:(cs.map Pc.n).Nodup) (_:∀c ∈ cs,c.n<nn) (_:lF x) (_:pG H T sU jH)
 (_:i<mo->∀H',aJ H H'->E (.ref CM) none H')
 (_:mo<=i->KU cs le i->∀H',dG T H H'->pG H' T sU jH->Q .non H')
 (_:mo<=i->∀(k:Nat) (p:Addr) (c:Pc) (r:Addr) (H':Hp),ps[k]?=some p->cs[k]?=some c->IL cs i c->(∀a o,H a=some o->a≠b->a≠p->a≠T->H' a=some o)->pG H' T sU jH ->
   hV CB CP H' b pw sh d sp ev le nn (nt+1) i ps (cs.set k { c with o:=some (nt,x,i+sp) })->H' r=some (.tup [.int nt,.int c.n,.int c.m,.int c.h,.int (i+sp)])->Q (.ref r) H')
 (_:mo<=i->∀(k:Nat) (p:Addr) (c:Pc) (q r:Addr) (pl:Int) (H':Hp),(∀c ∈ cs,c.free=false)->(∀c ∈ cs,c.late i=false)->ps[k]?=some p->cs[k]?=some c->tU Pc.lent cs c->2 * le<=c.h-c.m->pl=c.h-(c.h-c.m) / 2->(∀a o,H a=some o->a≠b->a≠d->a≠p->a≠T->H' a=some o)->pG H' T sU jH ->
   hV CB CP H' b pw sh d sp ev le (nn+1) (nt+1) i (ps++[q]) (cs.set k { c with h:=pl }++[⟨nn,pl,c.h,pl,some (nt,x,i+sp)⟩])->H' r=some (.tup [.int nt,.int nn,.int pl,.int c.h,.int (i+sp)])->Q (.ref r) H')
def vZ (CB CP CM T:Addr):Sp:=Rl CB CP CM T
def Vi {cs:List Pc} {k:Nat} {c:Pc} {pl:Int} (a:cs[k]?=some c):(cs.set k { c with h:=pl }).map Pc.n=cs.map Pc.n:=by
 rw [List.map_set];refine L9 λi=>?_;by_cases z:k=i
 ·subst z;rw [E6 (by rw [i6];exact(i5.mp a).1),j7,a];rfl
 ·rw [E9 z]
def GN:¬ (pf n l h m e).length=(bf pw sh d sp a b nn nt mo).length:=by show ¬ 5=9;decide
def Hz {f g j:Addr} {cdv:Value} {A:Around} {outer:List Env} {s:Shared} {H:Hp} {E:XK} (I:Bl K mg g) (TP:Pl K mg j):
  ∃t,pJ (hU (fS P w) P w K mg base ["self","worker","moment","chosen","piece","token","until"] "Book.lend" (aG wH) f cdv A outer s H E) ((bG wH).drop 5) t /\
   ∀(D:eM) (b pw sh d p:Addr) (sp L F nn nt mo i:Int) (x:Str) (ps:List Addr) (cs:List Pc) (k:Nat) (c:Pc) (o3 o5 o6:Option V) (B:Hp),hV g j B b pw sh d sp L F nn nt mo ps cs->ps[k]?=some p->cs[k]?=some c->(cs.map Pc.n).Nodup ->
    (∀r H',(∀a o,B a=some o->a≠b->a≠p->H' a=some o)->hV g j H' b pw sh d sp L F nn (nt+1) i ps (cs.set k { c with o:=some (nt,x,i+sp) })->H' r=some (.tup [.int nt,.int c.n,.int c.m,.int c.h,.int (i+sp)])->D.rt (.ref r) H') ->
    t D [some (.ref b),some (.str x),some (.int i),o3,some (.ref p),o5,o6] B:=by
 refine {_,aD (bT (i:=5) oC.nd rfl (j9 rfl) (aQ (pv 0) rfl))
   (aD (bT (i:=6) oC.nd rfl (j9 rfl) (bO dW (pv 2) (aQ (pv 0) rfl)))
   (aD (cX (pv 4) (bL (aA (pv 5) (aA (pv 1) (aA (pv 6) aC)))) rfl)
   (aD (cX (pv 0) (bO dW (pv 5) aR) rfl)
   (aD (cX (pv 0) (pv 2) rfl)
   (aH (aU (bL (aA (pv 5) (aA (aQ (pv 4) rfl) (aA (aQ (pv 4) rfl) (aA (aQ (pv 4) rfl) (aA (pv 6) aC)))))))))))),?_};intro D b pw sh d p sp L F nn nt mo i x ps cs k c o3 o5 o6 B hb a0 hk nd t;let ((v,u),O,U):=id hb;let (c',W,lv,(y,M),a4):=aN U a0;rw [hk] at W;cases W;refine {_,rfl,b,g,v,_,_,rfl,u,I.cl,I.nT,rfl,_,rfl,_,rfl,b,g,v,_,_,rfl,u,I.cl,I.nS,rfl,_,_,rfl,rfl,_,rfl,_,rfl,_,rfl,by show 3<=sizeLine;decide,λq nq=>?_};let S:aJ B (upd B q (.tup [.int nt,.str x,.int (i+sp)])):=aI nq;let e3:(upd B q (.tup [.int nt,.str x,.int (i+sp)])) q=some (.tup [.int nt,.str x,.int (i+sp)]):=aB;generalize upd B q (.tup [.int nt,.str x,.int (i+sp)])=Q at S e3 ⊢;let J:=S _ _ M;let G:=S _ _ u;let T:∀{p' c2 a1 n l h m} {lv:V},B p'=some (.ins c2 a1 (pf n l h m lv))->p'≠b:=λz=>aL z u (by intro z;injection z with _ _ z;exact absurd (congrArg List.length z) GN);let C:=T M;refine {_,rfl,p,j,y,_,rfl,J,TP.cl,TP.nD,(by show 5<1000;decide),?_};rw [pZ];refine {_,rfl,_,_,rfl,rfl,_,rfl,b,g,v,_,rfl,(by rw [aE C.symm];exact G),I.cl,I.nT,(by show 9<1000;decide),?_};rw [Qy];refine {_,rfl,_,rfl,b,g,v,_,rfl,aB,I.cl,I.nM,(by show 9<1000;decide),?_};rw [eR,oT];let k5:∀a o,Q a=some o->a≠p->a≠b->(upd (upd Q p (.ins j y (pf c.n c.l c.h c.m (.ref q)))) b (.ins g v (bf pw sh d sp L F nn (nt+1) i))) a=some o:=λa o e X Z=>by
  rw [aE Z,aE X];exact e
 let Y:(upd (upd Q p (.ins j y (pf c.n c.l c.h c.m (.ref q)))) b (.ins g v (bf pw sh d sp L F nn (nt+1) i))) p=some (.ins j y (pf c.n c.l c.h c.m (.ref q))):=by rw [aE C,aB]
 let b5:(upd (upd Q p (.ins j y (pf c.n c.l c.h c.m (.ref q)))) b (.ins g v (bf pw sh d sp L F nn (nt+1) i))) b=some (.ins g v (bf pw sh d sp L F nn (nt+1) i)):=aB;generalize upd (upd Q p (.ins j y (pf c.n c.l c.h c.m (.ref q)))) b (.ins g v (bf pw sh d sp L F nn (nt+1) i))=H5 at k5 Y b5 ⊢;refine {_,rfl,_,rfl,p,j,y,_,_,rfl,Y,TP.cl,TP.nN,rfl,_,rfl,p,j,y,_,_,rfl,Y,TP.cl,TP.nM,rfl,_,rfl,p,j,y,_,_,rfl,Y,TP.cl,TP.nH,rfl,_,rfl,by show 5<=sizeLine;decide,λr nr=>?_};let s6:∀a o,Q a=some o->a≠p->a≠b->(upd H5 r (.tup [.int nt,.int c.n,.int c.m,.int c.h,.int (i+sp)])) a=some o:=λa o e X Z=>aI nr _ _ (k5 _ _ e X Z);let tp:∀a ys,Q a=some (.tup ys)->(upd H5 r (.tup [.int nt,.int c.n,.int c.m,.int c.h,.int (i+sp)])) a=some (.tup ys):=λa ys e=>s6 _ _ e (aL e J 1#0) (aL e G 1#0);refine t r _ (λa o e X Z=>s6 _ _ (S _ _ e) Z X) {{v,aI nr _ _ b5},?_,?_} aB
 ·rw [nX (c':={ c with o:=some (nt,x,i+sp) }) hk rfl];exact s6 _ _ (S _ _ O) (aL O M 1#0) (aL O u 1#0)
 ·exact gL U nd a0 hk (λq' e' a3 ⟨a2,⟨dz,ha'⟩,hl'⟩=>{a2,{dz,s6 _ _ (S _ _ ha') a3 (T ha')},hl'.move λa ys z=>tp a ys (S _ _ z)}) {.ref q,{y,aI nr _ _ Y},tp _ _ e3}
def Od (GC:eH P w K mg base (fS P w) N.CB "choice" 5 (λvs H Q E=>xR N.CB N.CP N.T1 vs H Q E\/uP N.CB (c 1) vs H Q E)) (W:3#0):eH P w K mg base (fS P w) N.CB "lend" 6 (vZ N.CB N.CP (c 1) N.T1):=W.d45.of λ{f _} F=>by
 refine F.okE oC 11#0 (λcdv A outer s H vs Q E hr h=>?_)
 ·let (b,S,M,d,T,X,O,G,U,J,i,x,I,C,rfl,_):=h
  rfl
 let (b,S,M,d,T,X,O,G,U,J,i,x,I,C,rfl,hb,lc,nd,lt,wx,tb,qM,qN,qP,qC):=h
 let (tT,pT,hT):=Hz (P:=P) (w:=w) (base:=base) (f:=f) (cdv:=cdv) (A:=A) (outer:=outer) (s:=s) (H:=H) (E:=E) W.B W.P
 refine {_,aD (eI (aX (yP W) hr aO (aA (pv 1) aC)))
   (aD (bT (i:=3) oC.nd rfl (j9 rfl) (bP (pv 0) W.B.cl GC hr (dS (E':=E) λ_ _ _ z=>z) (aA (pv 2) aC)))
   (aD (bV (bS oJ (pv 3) eU (bE _)) (aH (aU eU)) aZ)
   (aD (bT (i:=4) oC.nd rfl (j9 rfl) (bP (pv 0) W.B.cl (Uu W) hr aO (aA (bY bQ (pv 3) aR 12#0) aC)))
   (aD (bV (bS iL (bY bQ (pv 3) aR 12#0) bC (bE _)) (aH (bT (i:=4) oC.nd rfl (j9 rfl) (bP (pv 0) W.B.cl (sH W) hr aO (aA (pv 4) (aA (bY bQ (pv 3) aR 12#0) aC))))) aZ)
   pT)))),?_}
 refine {_,rfl,x,rfl,wx,λH1 s1=>?_}
 let a1:=hb.sameT (aJ.toT s1)
 let (dx,L):=a1.ob
 refine {_,rfl,b,dx,_,rfl,L,rfl,_,rfl,?_}
 by_cases hi:J<=i
 rotate_left
 ·exact .inr {b,S,M,d,T,X,O,G,U,J,.int i,rfl,{(dx),L},.kn (.int _),decide_eq_false hi,qM ∎ _ s1}
 refine .inl {b,S,M,d,T,X,O,G,U,J,i,I,C,rfl,a1,∎,hi,tb.same s1,λv H2 kt Y ch=>?_}
 let st:eQ H1 H2:=by
  let (qs,e,_):=tb.same s1;exact kt.toT e
 let D:=a1.sameT st;let ((a3,u),a5,Z):=id D;let a7:∀c ∈ C,∃k p dp lv,C[k]?=some c/\I[k]?=some p/\H2 p=some (.ins N.CP dp (pf c.n c.l c.h c.m lv)):=λc hc=>by
  let (k,y):=y6.mp hc;let hl:k<I.length:=by have:=Z.length;have:=(i5.mp y).1;omega
  let (c',a6,lv,(dp,g),aa):=aN Z (i3 hl);rw [y] at a6;cases a6;exact {k,_,dp,lv,y,i3 hl,g}
 let a4:∀a o,H a=some o->a≠N.T1->H2 a=some o:=λa o e n=>kt _ _ n (s1 _ _ e);cases ch with
 | non h1 h2 h3=>exact {_,rfl,rfl,_,rfl,dD (qN hi {(h1),h2,h3} H2 (λa o n e=>a4 a o e n) Y)}
 | @pc c r0 bc e2=>
  let bc:IL C i c:=bc;let (k,p,dp,lv,y,t,g):=a7 c bc.mem;refine {_,rfl,rfl,_,rfl,dE {_,rfl,b,a3,_,rfl,u,rfl,_,rfl,r0,_,_,_,rfl,rfl,cG.of e2,bM (j:=1) rfl,b,S,M,d,T,X,O,G,U,J,I,C,k,p,c,rfl,D,t,y,nd,_,rfl,r0,_,_,_,rfl,rfl,cG.of e2,bM (j:=0) rfl,rfl,_,rfl,dH ⋯ ?_}};refine hT _ b S M d p T X O G U J i x I C k c _ _ _ H2 D t y nd λr H' kp bk a2=>qP hi k p c r H' t y bc (λa o e n1 n2 n3=>kp _ _ (a4 a o e n3) n1 n2) (jO Y (λqs e=>kp _ _ e (aL e u 1#0) (aL e g 1#0)) λa f e=>kp _ _ e (aL e u 1#0) (aL e g 1#0)) bk a2
 | @cut c r0 h1 h2 bc hl e2=>
  let (k,p,dp,lv,y,t,g):=a7 c bc.1;refine {_,rfl,rfl,_,rfl,dE {_,rfl,b,a3,_,rfl,u,rfl,_,rfl,r0,_,_,_,rfl,rfl,cG.of e2,bM (j:=1) rfl,b,S,M,d,T,X,O,G,U,J,I,C,k,p,c,rfl,D,t,y,nd,_,rfl,r0,_,_,_,rfl,rfl,cG.of e2,bM (j:=0) rfl,rfl,_,rfl,dX ⋯ ?_}};refine {_,rfl,b,a3,_,rfl,u,rfl,_,rfl,_,rfl,r0,_,_,_,rfl,rfl,cG.of e2,bM (j:=2) rfl,b,S,M,d,T,X,O,G,U,J,_,I,C,k,p,c,rfl,D,t,y,nd,lt,lc,λq H3 nq kc a8=>?_};let lX:(C.set k { c with h:=c.h-(c.h-c.m) / 2 }).length=I.length:=by rw [R9];exact Z.length.symm
  let a9:((C.set k { c with h:=c.h-(c.h-c.m) / 2 }++[({G,c.h-(c.h-c.m) / 2,c.h,c.h-(c.h-c.m) / 2,none}:Pc)]).map Pc.n).Nodup:=by
   rw [u7,Vi y,K1];refine {nd,by simp,λa ha b hb z=>?_};let (e,he,rfl):=y0.mp ha;simp only [x9,O9,C5] at hb;have:=lt e he;omega
  refine hT _ b S M d q T X O (G+1) U J i x _ _ I.length {G,c.h-(c.h-c.m) / 2,c.h,c.h-(c.h-c.m) / 2,none} _ _ _ H3 a8 6#0 (by rw [<- lX];simp) a9 λr H' kp bk a2=>?_;rw [R7 _ _ ∎,lX,Nat.sub_self] at bk;let a0:∀a o,H2 a=some o->a≠b->a≠d->a≠p->H' a=some o:=λa o e n1 n2 n3=>kp _ _ (kc _ _ e n1 n2 n3) n1 (λz=>by rw [z,nq] at e;cases e);exact qC hi k p c q r _ H' h1 h2 t y bc hl rfl (λa o e n1 n2 n3 n4=>a0 _ _ (a4 a o e n4) n1 n2 n3) (jO Y (λqs e=>a0 _ _ e (aL e u 1#0) (aL e a5 1#0) (aL e g 1#0)) λa f e=>a0 _ _ e (aL e u 1#0) (aL e a5 1#0) (aL e g 1#0)) bk a2
def kL (CB CP CM CN CL CT:Addr):Sp:=λvs H Q E=>∃(b pw sh d:Addr) (sp ev le nn nt mo:Int) (ps:List Addr) (cs:List Pc) (v pl ns u:V),vs=[.ref b,v,pl,ns,u]/\hV CB CP H b pw sh d sp ev le nn nt mo ps cs/\oA H v/\oA H u/\oA H pl /\
 (qB (mo<=·) u=false->E (.ref CM) none H)/\(qB (mo<=·) u=true->qB (λx=>0<=x/\x<nt) v=false->E (.ref CN) none H) /\
 (qB (mo<=·) u=true->∀tk,v=.int tk->0<=tk->tk<nt->(∀c ∈ cs,c.has tk=false)->∀H',aJ H H'->E (.ref CL) none H') /\
 (qB (mo<=·) u=true->∀tk,v=.int tk->0<=tk->tk<nt->∀(k:Nat) (p:Addr) (c:Pc),ps[k]?=some p->cs[k]?=some c->c.has tk=true->(∀j e,cs[j]?=some e->j<k->e.has tk=false)->qB (λx=>c.l<=x/\x<=c.m) pl=false/\∀H',aJ H H'->E (.ref CT) none H')
def Bo (W:3#0):eH P w K mg base (fS P w) N.CB "piece_to_tell" 4 (kL N.CB N.CP (c 1) (c 2) (c 3) (c 4)):=W.d56.of λ{f _} F=>by
 refine F.okE iH 11#0 (λj A C s H vs Q E hr h=>?_)
 ·let (b,Z,J,d,sp,M,S,T,nt,L,ps,U,v,Y,ns,u,rfl,_):=h
  rfl
 ·let (b,Z,J,d,sp,M,S,T,nt,L,ps,U,v,Y,ns,u,rfl,y,kv,ku,kp,q1,q2,q3,q4):=h
  let t:Room 1 (A.deeper (PyProof.Rows.envOfC "Book.piece_to_tell" (aG rN) s.heap.objs.size f j)):=hr.mono 7#0
  refine {_,aD (bT (i:=5) iH.nd rfl (j9 rfl) (bP (pv 0) W.B.cl (sF W) hr (dS (E':=E) λ_ _ _ z=>z) (aA (pv 1) (aA (pv 4) aC))))
   (aD (bV (PW.pt (fW (cQ (cK (aX (dP W) t aO (aA (pv 2) aC)))) (eL (cQ (jQ lM lM (aQ (pv 5) rfl) (pv 2) (aQ (pv 5) rfl)))))) (aH (eB rfl W.x4.ex rfl W.x4.mB cO (aA bC aC))) aZ) cR),?_}
  let (dx,D):=y.ob
  let a:1<=sizeLine:=by decide
  refine {_,rfl,b,dx,_,rfl,D,rfl,_,rfl,_,rfl,b,Z,J,d,sp,M,S,T,nt,L,ps,U,v,u,rfl,y,kv,ku,q1,q2,q3,λhu tk hv t0 t1 k p c X I hh hf H1 o=>?_}
  let (no,q):=q4 hu tk hv t0 t1 k p c X I hh hf
  let q:=q H1 o
  let r:=y.sameT (aJ.toT o)
  let (c',g,lv,(G,e),a0):=aN r.pc X
  rw [I] at g
  cases g
  refine {_,rfl,_,rfl,kp.same o,_,rfl,?_}
  cases hw:eY Y with
  | false=>exact dD (dD {(a),q})
  | true=>
  let (x,rfl):=hZ hw
  refine dE ?_
  by_cases n:c.l<=x
  rotate_left
  ·exact {_,rfl,p,N.CP,G,_,_,rfl,e,W.P.cl,W.P.nL,rfl,_,rfl,_,_,rfl,rfl,_,rfl,dH (decide_eq_false n) {_,rfl,dD {(a),q}}}
  refine {_,rfl,p,N.CP,G,_,_,rfl,e,W.P.cl,W.P.nL,rfl,_,rfl,_,_,rfl,rfl,_,rfl,dX (decide_eq_true n) {_,rfl,p,N.CP,G,_,_,rfl,e,W.P.cl,W.P.nM,rfl,_,_,rfl,rfl,_,rfl,?_}}
  by_cases O:x<=c.m
  ·exact absurd (decide_eq_true (p:=c.l<=x/\x<=c.m) {(n),O}) (by have z:decide (c.l<=x/\x<=c.m)=false:=no;rw [z];decide)
  ·rw [decide_eq_false O]
   exact dD {(a),q}
def sB (F:qW K "tell" "Book.tell" oD f m) (y:∀e H Q p E,sp e H Q E->sp e H p E) (a:∀e H Q E,sp e H Q E->∃(b pw sh d:Addr) (sp k l nn nt mo:Int) (v pl ns u:V),e=[.ref b,v,pl,ns,u]/\Jl N.CB H b pw sh d sp k l nn nt mo) (x:eH P w K mg base (fS P w) N.CB "piece_to_tell" n sp) (W:3#0):bH P w K mg base (fS P w) (n+1) f m ["self","token","place","numbers","moment"] sp:=by
 refine F.okE wD (λe H Q E h=>?_) (λt A j s H e Q E q h=>?_)
 ·let (b,pw,sh,d,sp,k,l,nn,nt,mo,v,pl,ns,u,rfl,_):=a _ _ _ _ h;rfl
 ·let (b,pw,sh,d,r,k,l,nn,nt,mo,v,pl,ns,u,rfl,(o,g)):=a _ _ _ _ h;refine {_,aD (bT (i:=5) wD.nd rfl (j9 rfl) (bP (pv 0) W.B.cl x q (dS (E':=E) λ_ _ _ z=>z) (aA (pv 1) (aA (pv 2) (aA (pv 3) (aA (pv 4) aC)))))) cR,?_};exact {_,rfl,b,o,_,rfl,g,rfl,_,rfl,_,rfl,_,rfl,_,rfl,y _ _ _ _ _ h}
def Nu (F:qW K "tell" "Book.tell" oD f a) (W:3#0):bH P w K mg base (fS P w) 5 f a ["self","token","place","numbers","moment"] (kL N.CB N.CP (c 1) (c 2) (c 3) (c 4)):=
 sB F (λ_ _ _ _ _ h=>h) (λt H Q E h=>by
  let (b,m,i,d,o,l,p,e,k,j,r,s,v,q,n,u,rfl,g,_):=h
  exact {(b),m,i,d,o,l,p,e,k,j,v,q,n,u,rfl,g.ob}) (Bo W) W
inductive Cv (CB CS CP CT CO:Addr) (vs:List V) (H:Hp) (Q:VK) (E:XK):Prop|mk (b pw sh d pw' d' nr:Addr) (sp ev le nn nt mo tk i pl:Int) (ps:List Addr) (cs:List Pc) (k:Nat) (p:Addr) (c:Pc) (ws:Lm.Ps) (kvs:List (bK × V)) (ns:List Int) (_:vs=[.ref b,.int tk,.int pl,.ref nr,.int i]) (_:9#0) (_:cN CS H sh pw' d' ws kvs) (_:mo<=i) (_:0<=tk) (_:tk<nt) (_:ps[k]?=some p) (_:cs[k]?=some c) (_:c.has tk=true) (_:(∀j e,cs[j]?=some e->j<k->e.has tk=false)) (_:H nr=some (.tup (ns.map V.int))) (_:ns.length<=1000) (_:c.l<=pl) (_:pl<=c.m) (_:-(2 ^ 61)<=pl) (_:pl<=2 ^ 61) (_:(∀(j:Nat) n,ns[j]?=some n->pl+(j:Int)<c.m->∃x,cH kvs (Sum.inl (pl+(j:Int)):bK)=some (.int x))) (_:(c.m+ev<pl+ns.length->∀H',aJ H H'->E (.ref CT) none H')) (_:(pl+ns.length<=c.m+ev->(∃(j:Nat) (n x:Int),ns[j]?=some n/\pl+(j:Int)<c.m/\cH kvs (Sum.inl (pl+(j:Int)):bK)=some (.int x)/\n≠x)->∀H',aJ H H'->E (.ref CO) none H')) (_:(pl+ns.length<=c.m+ev->(∀(j:Nat) n,ns[j]?=some n->pl+(j:Int)<c.m->cH kvs (Sum.inl (pl+(j:Int)):bK)=some (.int n))->∀H',aJ H H'->Q (.ref p) H'))
def kM (CB CS CP CT CO:Addr):Sp:=Cv CB CS CP CT CO
def lV (GH:eH P w K mg base dI N.CB "held_piece" 3 (As N.CB N.CP)) (W:3#0):eH P w K mg base (fS P w) N.CB "piece_to_tell" 4 (kM N.CB N.CS N.CP (c 4) (c 5)):=W.d56.of λF=>by
 refine F.okE iH 11#0 (λa3 A a1 s H vs Q E hr h=>?_)
 ·let (b,pw,sh,d,U,d',M,sp,ev,le,nn,nt,mo,tk,i,f,ps,cs,k,p,c,ws,r,t,rfl,_):=h
  rfl
 ·let (b,pw,sh,d,U,d',M,sp,ev,le,nn,nt,mo,tk,i,f,ps,cs,k,p,c,ws,r,t,rfl,hb,hs,hi,t0,t1,hp,o,ht,a2,hn,ln,p1,p2,p4,p5,kn,qT,qO,qR):=h
  let sl:sizeLine=16777216:=sizeLine_eq
  let ((dx,L),a4,a0):=id hb
  let (c',O,lv,(dp,J),a6):=aN a0 hp
  rw [o] at O
  cases O
  refine Wp.ex {_,aD (bT (i:=5) iH.nd rfl (j9 rfl) (bP (pv 0) W.B.cl GH hr aO (aA (pv 1) (aA (pv 4) aC)))) aS,?_}
  refine {_,rfl,b,dx,_,rfl,L,rfl,_,rfl,_,rfl,b,pw,sh,d,sp,ev,le,nn,nt,mo,tk,i,ps,cs,k,p,c,rfl,hb,hi,t0,t1,hp,o,ht,a2,λH1 s1=>?_}
  let D:=s1 _ _ J
  refine {_,aD (bV (PW.pt (fW (cQ (cK (aX (dP W) hr aO (aA (pv 2) aC)))) (eL (cQ (jQ lM lM (aQ (pv 5) rfl) (pv 2) (aQ (pv 5) rfl)))))) cR aZ) aS,?_}
  refine {_,rfl,_,rfl,.kn (.int _),_,rfl,dE ?_}
  refine {_,rfl,p,N.CP,dp,_,_,rfl,D,W.P.cl,W.P.nL,rfl,_,rfl,_,_,rfl,rfl,_,rfl,dX (decide_eq_true p1) {_,rfl,p,N.CP,dp,_,_,rfl,D,W.P.cl,W.P.nM,rfl,_,_,rfl,rfl,_,rfl,dH (by rw [decide_eq_true p2];rfl) ?_}}
  refine {_,aD (bV (cQ (cK (aX (sD W) hr aO (aA (pv 3) aC)))) cR aZ) aS,?_}
  refine {_,rfl,M,t,rfl,s1 _ _ hn,ln,λH2 s2=>{_,rfl,dE ?_}}
  let C:=s1.trans s2
  let X:=C _ _ J
  let T:=C _ _ L
  refine {_,aD (bV (bS Np (bO dW (pv 2) (aY cF (by rfl) W.G.len PySem.boot_len (aA (pv 3) aC))) (bO dW (aQ (pv 5) rfl) (aQ (pv 0) rfl)) (bE _)) (aH (eB rfl W.x4.ex rfl W.x4.mB cO (aA bC aC))) aZ) aS,?_}
  refine {_,rfl,_,rfl,M,_,rfl,.inr (cG.of (C _ _ hn)),_,_,rfl,rfl,_,rfl,p,N.CP,dp,_,_,rfl,X,W.P.cl,W.P.nM,rfl,_,rfl,b,N.CB,dx,_,_,rfl,T,W.B.cl,W.B.nE,rfl,_,_,rfl,rfl,_,_,rfl,rfl,_,rfl,?_}
  rw [i6]
  refine fE (λo=>?_) λo=>?_
  ·let o:=of_decide_eq_true o
   exact {by show 1<=sizeLine;decide,qT ∎ _ C}
  let p3:f+t.length<=c.m+ev:=by
   have:¬ (c.m+ev<f+(t.length:Int)):=λz=>o (decide_eq_true z);omega
  refine {_,aD (eC Q0 rfl (Es (by rfl) W.G.enum vG (aA (pv 3) aC) (pW (pv 2) wN)) (fU (n:=2) rfl (bA (aM (i:=6) iH.nd rfl (j9 rfl)) (bA (aM (i:=7) iH.nd rfl (j9 rfl)) dO))) aS) aS,?_};refine {_,rfl,_,rfl,M,f,rfl,rfl,Fv p4 p5,{_,cG.of (C _ _ hn)},zC (K:=K) (a:=M) (d:=f) (xs:=t.map V.int) (λj σ G=>aJ H2 G/\(∀(g:Nat) n,g<j->t[g]?=some n->f+(g:Int)<c.m->cH r (Sum.inl (f+(g:Int)):bK)=some (.int n))/\∃u v,σ=[some (.ref b),some (.int tk),some (.int f),some (.ref M),some (.int i),some (.ref p),u,v]) {aJ.refl _,λg n h=>absurd h (L4 _),_,_,rfl} (λj σ G _ h=>cG.of (h.1 _ _ (C _ _ hn))) ?_ ?_}
  ·rintro j y σ G q Z ⟨sg,al,u,v,rfl⟩ nq;let s3:aJ G (upd G q (.tup [.int (f+(j:Int)),y])):=aI nq;let e3:(upd G q (.tup [.int (f+(j:Int)),y])) q=some (.tup [.int (f+(j:Int)),y]):=aB;generalize upd G q (.tup [.int (f+(j:Int)),y])=G3 at s3 e3 ⊢;let t3:=C.trans (sg.trans s3);obtain⟨n,I,rfl⟩:∃n,t[j]?=some n/\y=.int n:=by
    rw [j7] at Z;cases z:t[j]? with
    | none=>rw [z] at Z;cases Z
    | some n=>rw [z] at Z;exact {n,rfl,(Option.some.inj Z).symm}
   let up:(f+(j:Int)<c.m->cH r (Sum.inl (f+(j:Int)):bK)=some (.int n))->∀(g:Nat) n,g<j+1->t[g]?=some n->f+(g:Int)<c.m->cH r (Sum.inl (f+(g:Int)):bK)=some (.int n):=λh g n' a5 e l=>by
    by_cases z:g<j
    ·exact al g n' z e l
    ·have:g=j:=∎;subst this;rw [I] at e;cases e;exact h l
   refine {q,_,rfl,cG.of e3,rfl,_,_,rfl,_,_,rfl,rfl,?_};refine {_,aH (bV (PW.pt (lT (bS jG (pv 6) (aQ (pv 5) rfl) (bE _)) (iW (bS Ew (pv 7) (bP (aQ (pv 0) rfl) W.S.cl (BM W) hr aO (aA (pv 6) aC)) (bE _))))) (aH (eB rfl W.x5.ex rfl W.x5.mB cO (aA bC aC))) aZ),?_};refine {_,rfl,_,rfl,p,N.CP,dp,_,_,rfl,t3 _ _ J,W.P.cl,W.P.nM,rfl,_,_,rfl,rfl,_,rfl,?_};refine fE (λo=>?_) λo=>dE {sg.trans s3,up λz=>absurd (decide_eq_true z) o,_,_,rfl};let Y:f+(j:Int)<c.m:=by simpa using o
   let S3:=hs.same t3;let (dz,hz):=S3.ob;let (x,hx):=kn j n I Y;refine {_,rfl,_,rfl,b,N.CB,dx,_,_,rfl,t3 _ _ L,W.B.cl,W.B.nH,rfl,sh,dz,_,rfl,hz,gW _ _ ⋯ ⋯,_,rfl,sh,U,d',ws,r,.int (f+(j:Int)),rfl,S3,.kn (.int _),13#0,λi' e=>?_};cases e;rw [hx];refine {rfl,_,rfl,?_};by_cases z:n=x
   ·subst z;exact Fo rfl {sg.trans s3,up λ_=>hx,_,_,rfl}
   ·refine dX ?_ {by show 1<=sizeLine;decide,qO p3 {(j),n,x,I,Y,hx,z} _ t3};show (!decide (V.int n=V.int x))=true;rw [decide_eq_false λy=>z (V.int.inj y)];rfl
  ·rintro σ G ⟨sg,al,u,v,rfl⟩;refine {_,aH (aU (pv 5)),?_};exact {_,rfl,qR p3 (λj n e l=>al j n (by rw [i6];exact(i5.mp e).1) e l) _ (C.trans sg)}
def kN (CB CS CP CT CO:Addr):Sp:=λvs H _ E=>∃(b pw sh d pw' d' nr:Addr) (sp ev le nn nt mo tk i pl:Int) (ps:List Addr) (cs:List Pc) (k:Nat) (p:Addr) (c:Pc) (ws:Lm.Ps) (kvs:List (bK × V)) (ns:List Int),vs=[.ref b,.int tk,.int pl,.ref nr,.int i]/\hV CB CP H b pw sh d sp ev le nn nt mo ps cs/\cN CS H sh pw' d' ws kvs /\
 mo<=i/\0<=tk/\tk<nt/\ps[k]?=some p/\cs[k]?=some c/\c.has tk=true/\(∀j e,cs[j]?=some e->j<k->e.has tk=false)/\H nr=some (.tup (ns.map V.int))/\ns.length<=1000/\c.l<=pl/\pl<=c.m/\-(2 ^ 61)<=pl/\pl<=2 ^ 61 /\
 (∀(j:Nat) n,ns[j]?=some n->pl+(j:Int)<c.m->∃x,cH kvs (Sum.inl (pl+(j:Int)):bK)=some (.int x)) /\
 ((c.m+ev<pl+ns.length/\∀H',aJ H H'->E (.ref CT) none H') \/
 (pl+ns.length<=c.m+ev/\(∃(j:Nat) (n x:Int),ns[j]?=some n/\pl+(j:Int)<c.m/\cH kvs (Sum.inl (pl+(j:Int)):bK)=some (.int x)/\n≠x)/\∀H',aJ H H'->E (.ref CO) none H'))
def An {l o m r g:Addr} {vs:List V} {H:Hp} {Q:VK} {E:XK} (h:kN l o m r g vs H Q E):kM l o m r g vs H Q E:=by
 let (b,pw,v,d,e,Y,U,sp,ev,F,J,nt,A,G,i,pl,ps,L,k,p,c,ws,f,C,rfl,hb,B,O,t0,D,W,u,ht,a,hn,M,I,t,p4,T,kn,q):=h;refine {b,pw,v,d,e,Y,U,sp,ev,F,J,nt,A,G,i,pl,ps,L,k,p,c,ws,f,C,rfl,hb,B,O,t0,D,W,u,ht,a,hn,M,I,t,p4,T,kn,?_,?_,?_}
 ·intro z;rcases q with ⟨_,q⟩|⟨y,_⟩
  ·exact q
  ·omega
 ·intro z _;rcases q with ⟨y,_⟩|⟨_,_,q⟩
  ·omega
  ·exact q
 ·intro z X;rcases q with ⟨y,_⟩|⟨_,⟨j,n,x,e1,S,s,Z⟩,_⟩
  ·omega
  ·rw [X j n e1 S] at s;cases s;exact absurd rfl Z
def pR (CB CS CP CM CN CL CT CO:Addr):Sp:=λvs H Q E=>(vX CB CS CP vs H Q E\/kL CB CP CM CN CL CT vs H Q E)\/kN CB CS CP CT CO vs H Q E
def Nw (F:qW K "tell" "Book.tell" oD f a) (r:eH P w K mg base (fS P w) N.CB "piece_to_tell" 4 (kM N.CB N.CS N.CP (c 4) (c 5))) (W:3#0):bH P w K mg base (fS P w) 5 f a ["self","token","place","numbers","moment"] (kN N.CB N.CS N.CP (c 4) (c 5)):=
 sB F (λ_ _ _ _ _ h=>h) (λu H Q E h=>by
  let (b,s,g,d,e,B,A,t,l,m,n,v,j,y,i,C,I,z,k,p,c,D,o,x,rfl,q,_):=h
  exact {b,s,g,d,t,l,m,n,v,j,_,_,_,_,rfl,q.ob}) (r.to λG=>G.imp λu H Q E h=>An h) W
def Nv (m:bH P w K mg base dI 5 f d ["self","token","place","numbers","moment"] (vX a g b))
  (n:bH P w K mg base (fS P w) 5 f d ["self","token","place","numbers","moment"] (kL a b i j l e)) (o:bH P w K mg base (fS P w) 5 f d ["self","token","place","numbers","moment"] (kN a g b e k)):
  bH P w K mg base (fS P w) 5 f d ["self","token","place","numbers","moment"] (pR a g b i j l e k):=
 (((m.lift).both n).both o).imp λp H Q E h=>h
end
end Ls
namespace L2
open PySem PySem.W
def bH.calm {P:Program} {w:World} {K:Frag} {mg:Str->Option Value} {base:Heap} {k:Nat} {f:Addr} {fd:FuncData} {ps:List Str} {sp:Sp} (F:bH P w K mg base (fS P w) k f fd ps sp):bH P w K mg base dI k f fd ps (λb H Q _=>sp b H Q E0):=
 ⟨λb H Q E h=>F.len b H Q E0 h,λA a s H d l b Q E g j i r h=>G9 (F.run A a s H d l b Q E0 g j i r h) λx m q=>by
  cases x with
  | ok fl=>cases fl <;> exact q
  | error e=>
   let (_,_,_,_,_,_,_,_,_,z):=q
   exact z.elim⟩
end L2
namespace Ls
open PySem L2 PySem.W
section
variable {P:Program} {w:World} {K:Frag} {mg:Str->Option Value} {base:Heap} {N:Cn} {c:Nat->Addr} {f CB CS CP CM CN CL CT CO:Addr} {fd:FuncData} {k:Nat} {xs:List Str}
def wU [DecidablePred p] {i:Int} {A:Prop} (h:p i) (z:qB p (.int i)=false):A:=absurd h (of_decide_eq_false z)
def Ot (G:bH P w K mg base (fS P w) k f fd xs (Kj CB CM)):bH P w K mg base dI k f fd xs (vY CB):=G.calm.imp λs H Q E h=>by
 let (b,o,g,d,p,n,r,a,m,l,i,rfl,e,j,q):=h
 exact {b,o,g,d,p,n,r,a,m,l,.int i,rfl,e,.kn (.int _),λ_=>q,λz=>wU j z}
def Vs (G:bH P w K mg base (fS P w) k f fd xs (Dt CB CP CM CN CL)):bH P w K mg base dI k f fd xs (As CB CP):=G.calm.imp λvs H Q E h=>by
 let (b,U,v,d,X,B,D,I,t,y,F,i,ps,J,j,p,c,rfl,S,L,T,C,O,s,l,m,q):=h
 refine {b,U,v,d,X,B,D,I,t,y,ps,J,.int F,.int i,rfl,S,.kn (.int _),.kn (.int _),λz=>wU L z,λ_ z=>wU (p:=λx=>0<=x/\x<t) {(T),C} z,λ_ o e _ _ Z=>?_,λ_ o e _ _ u p' M a n g r A Y=>?_}
 ·cases e
  rw [Z c (j8 s)] at l
  cases l
 ·cases e
  rcases M0 j u with z|z|z
  ·rw [r j c s z] at l
   cases l
  ·subst z
   rw [O] at a
   cases a
   exact q A Y
  ·rw [m u M n z] at g
   cases g
def uM (G:bH P w K mg base (fS P w) k f fd xs (kM CB CS CP CT CO)):bH P w K mg base dI k f fd xs (xQ CB CS CP):=G.calm.imp λvs H Q E h=>by
 let (b,pw,t,d,g,X,T,sp,A,D,J,nt,u,F,i,Y,ps,L,j,p,c,ws,m,B,rfl,hb,y,O,t0,C,U,s,ht,a,hn,M,I,r,p3,p4,S,o,q):=h
 refine {b,pw,t,d,g,X,T,sp,A,D,J,nt,u,F,i,Y,ps,L,j,p,c,ws,m,B,rfl,hb,y,O,t0,C,U,s,ht,a,hn,M,I,r,p4,S,λj n e l=>{n,o j n e l},λz=>absurd z ∎,?_,λ_ _=>q}
 rintro _ ⟨j,n,x,e,l,v,Z⟩
 rw [o j n e l] at v
 cases v
 exact absurd rfl Z
end
section
variable {P:Program} {w:World} {K:Frag} {mg:Str->Option Value} {base:Heap} {N:Cn} {c:Nat->Addr} (W:Wd P w K mg base N c)
include W
def Ob:eH P w K mg base dI N.CB "check_moment" 2 (vY N.CB):=(wS W).to Ot
def wT:eH P w K mg base dI N.CB "held_piece" 3 (As N.CB N.CP):=(sF W).to Vs
def yO:eH P w K mg base (fS P w) N.CB "lend" 6 (vZ N.CB N.CP (c 1) N.T1):=Od (W.d44.of λF=>(bH.lift (Hs F (Ob W) W)).both ((Bq F W).mono 7#0)) W
def Nt:eH P w K mg base dI N.CB "tell" 5 (vX N.CB N.CS N.CP):=W.d46.of λF=>Ey F ((lV (wT W) W).to uM) W
def Ho:eH P w K mg base (fS P w) N.CB "tell" 5 (pR N.CB N.CS N.CP (c 1) (c 2) (c 3) (c 4) (c 5)):=W.d46.of λF=>Nv (Ey F ((lV (wT W) W).to uM) W) (Nu F W) (Nw F (lV (wT W) W) W)
end
inductive Xn (K:Frag) (vs:List V) (H:Hp) (Q:VK) (E0_:XK):Prop|mk (a:Addr) (ns:List Int) (k:Nat) (_:vs=[.ref a,.int k]) (_:cM K H a (ns.map V.int)) (_:ns.length<=63) (_:∀c,Q (.int c) H)
def AG (K:Frag):Sp:=Xn K
def tE:Int:=10 ^ 18+9
inductive Ru (vs:List V) (H:Hp) (Q:VK) (E0_:XK):Prop|mk (c:Int) (m:Nat) (_:vs=[.int c,.int m]) (_:m<=20) (_:∀(l:Addr) (xs:List Int) (H':Hp),aJ H H'->xs.length=m->(∀x ∈ xs,0<=x/\x<tE)->H' l=some (.lst (xs.map V.int))->Q (.ref l) H')
def Te:Sp:=Ru
section
variable {P:Program} {w:World} {K:Frag} {mg:Str->Option Value} {base:Heap} {N:Cn} {c:Nat->Addr}
def AW:aK ["_law_script","_law_k"] ["_law_script","_law_k"] (aG Yh):=2#0
def Fe (W:3#0):kI P w K mg base dI "_law_cell_at" 1 (AG K):=W.d13.of λF=>by
 refine F.ok AW (λg H Q E h=>?_) (λl A b s H g Q E m h=>?_)
 ·let (a,d,k,rfl,_):=h
  rfl
 ·let (a,d,k,rfl,e,n,q):=h
  refine {_,aD (bV (bS jG (pv 1) (aY cF (by rfl) W.G.len PySem.boot_len (aA (pv 0) aC)) (bE _)) (aH (aU (bY fJ (pv 0) (pv 1) 12#0))) aZ)
   (aH (aU aR)),?_}
  refine {_,rfl,_,rfl,a,_,rfl,.inl e,_,_,rfl,rfl,_,rfl,?_}
  refine fE (λf=>?_) (λf=>q 0)
  let i:k<d.length:=by
   have:=of_decide_eq_true f;rw [i6] at this;omega
  refine {_,rfl,_,rfl,a,_,_,_,rfl,rfl,e,bM (j:=k) (v:=V.int d[k]) (by rw [j7,i3 i];rfl),q _}
def Ec:aK ["_law_cell","_law_many","_law_found","_law_rest","_law_number","_law_k"] ["_law_cell","_law_many"] (aG wI):=2#0
def sG (W:3#0):kI P w K mg base dI "_law_draws" 1 Te:=W.d14.of λ{f _} F=>by
 refine F.ok Ec 11#0 (λa1 A S s H vs Q E hr h=>?_)
 ·let (c,m,rfl,_):=h
  rfl
 ·let (c,m,rfl,hm,q):=h
  let nd:=Ec.nd
  let G1:=W.G.len
  let L:(0:Int)<10 ^ (15:Int).toNat/\(10:Int) ^ (15:Int).toNat<2 ^ 64:=by decide
  let Y:=L.1
  let a0:(0:Int)<10 ^ (18:Int).toNat+9:=by decide
  let d:(10:Int) ^ (18:Int).toNat+9=tE:=by decide
  let B:(10:Int) ^ (15:Int).toNat=1000000000000000:=by decide
  let O:tE=1000000000000000009:=by decide
  refine Wp.ex (qY (n:=2) nd rfl nZ (l7 _) λl H1 hl s1 e1=>?_)
  let k:∀{U:Hp} {o:HO},aJ H U->aJ H (upd U l o):=λ{U o} e b u z=>by
   rw [aE (aF z hl)]
   exact e b u z
  let sz:∀{n:Nat},n<=1000->n<sizeLine:=λh=>iF h
  show 3
  let k3:∀r:Int,0<=r->Wp (hU dI P w K mg base ["_law_cell","_law_many","_law_found","_law_rest","_law_number","_law_k"] "_law_draws" (aG wI) f a1 A S s H E).nox ((bG wI).drop 3) {λ_ H'=>Q .non H',Q,λ_ _=>False,λ_ _=>False} [some (.int c),some (.int m),some (.ref l),some (.int r),none,none] H1:=λr hr=>by
   refine mE v7 (λt σ U=>∃(J:List Int) (r:Int),t=m-J.length/\σ=[some (.int c),some (.int m),some (.ref l),some (.int r),none,none]/\U l=some (.lst (J.map V.int))/\aJ H U/\J.length<=m/\(∀x ∈ J,0<=x/\x<tE)/\0<=r) _
    {[],r,rfl,rfl,e1,s1,l7 _,(λx hx=>absurd hx 6#0),hr} λt σ U h=>?_
   let (J,r,rfl,rfl,hL,hs,hy,hb,a7):=h
   by_cases h1:1<r/\J.length<m
   ·refine .inl {?_,λD' T=>?_}
    ·apply Tv.is;apply oV;symm;intro _;symm
     rw [i6,decide_eq_true h1.1,decide_eq_true ∎]
     rfl
    ·apply uF;symm;symm;exact hL;(rw [i6];exact sz ∎);rotate_left;rfl;exact oY PySem.F.plainAttrs_list PySem.F.slot_list_append PySem.F.type_list_append eJ aP (aA aP aC)
     show 3
     refine cD (T.nx _ _ {m-(J.length+1),∎,J++[r % 10 ^ (15:Int).toNat],_,by rw [p8];rfl,rfl,by rw [aB,u7];rfl,k hs,by rw [p8];exact h1.2,λx hx=>?_,?_})
     ·rcases q8.mp hx with hx|hx
      ·exact hb x hx
      ·have:x=r % 10 ^ (15:Int).toNat:=by simpa using hx
       rw [this,B,O]
       omega
     ·rw [B]
      omega
   refine .inr {?_,?_}
   ·apply Tv.is;apply oV;symm;intro _;symm
    rw [i6,Bool.and_eq_false_iff]
    by_cases h2:1<r
    ·exact .inr (decide_eq_false ∎)
    ·exact .inl (decide_eq_false h2)
   show 4
   refine xI (n:=5) (j:=(m:Int)+3) v7 W.G.range nd rfl 15#0 ∎ (λi σ X=>∃(g:List Int) (a:Int) (v:Option V) (r:Int),σ=[some (.int c),some (.int m),some (.ref l),some (.int r),some (.int a),v]/\X l=some (.lst (g.map V.int))/\aJ H X/\g.length<=20+i/\i<=g.length+3/\(∀x ∈ g,0<=x/\x<tE)/\0<=a/\a<tE+48271)
    {J,_,none,_,rfl,hL,hs,∎,∎,hb,by rw [d,O];omega,by rw [d,O];omega} (λi σ X D' hi h T=>?_) λσ X h=>?_
   ·let (g,a,v,r2,rfl,I,C,Z,a5,D,a3,M):=h
    let cm:Jk a a:=.inl {by rw [O] at M;omega,by rw [O] at M;omega}
    let nn:∀z:Int,0<=z % (10 ^ (18:Int).toNat+9)/\z % (10 ^ (18:Int).toNat+9)<tE:=λz=>by
     rw [d,O]
     omega
    let nx:=nn (a * a+48271 * a+(0+(i:Int)))
    show 4
    apply uE;symm
    ·intro h3
     let a2:∀y:Int,Jk ((a * a+48271 * a+(0+(i:Int))) % (10 ^ (18:Int).toNat+9)) y:=λy=>.inl ⟨∎,by have:=nx.2;rw [O] at this;omega⟩
     let a6:=a2 ((a * a+48271 * a+(0+(i:Int))) % (10 ^ (18:Int).toNat+9) / 1009+69621)
     apply uF;symm;symm;exact I;(rw [i6];exact sz ∎);rotate_left;rfl;exact oY PySem.F.plainAttrs_list PySem.F.slot_list_append PySem.F.type_list_append eJ aP (aA aP aC)
     refine cD (cD (T.nx _ _ {g++[_],_,_,_,rfl,by rw [aB,u7];rfl,k C,by rw [p8];show g.length+1<=_;omega,by rw [p8];show _<=g.length+1+3;omega,λx hx=>?_,nx.1,∎}))
     rcases q8.mp hx with hx|hx
     ·exact D x hx
     ·have:=C5.mp hx
      rw [this]
      exact nn _
    ·intro h3
     let a8:¬ (2:Int)<0+(i:Int):=by simpa using h3
     exact cD (cD (T.nx _ _ {g,_,_,_,rfl,I,C,∎,∎,D,nx.1,∎}))
   ·let (g,a,v,r2,rfl,I,C,Z,a5,D,a3,M):=h
    refine fD {_,mY Dv (pv 2) Ui (iX (pv 1)),?_}
    refine {_,rfl,_,rfl,_,rfl,l,_,rfl,cM.of I,λp hp=>?_}
    let a4:m<=g.length:=∎
    refine q p (g.take m) _ (λb o z=>by rw [aE (aF (C b o z) hp)];exact C b o z) (by rw [t9];omega) (λx hx=>D x (C4 hx)) ?_
    rw [aB]
    have:oR (g.map V.int) none (some (m:Int))=(g.take m).map V.int:=by
     unfold oR;rw [HT.sIx_none,HT.sIx_nat,i6,P5,List.map_take,B9 a4,Nat.sub_zero]
    rw [this]
  apply uE;symm
  ·intro h;let h:=of_decide_eq_true h;show 3;exact cD (k3 _ ∎)
  ·exact λ_=>cD (k3 0 (q0 0))
def jE.same (e:aJ H H') (h:jE H v p):jE H' v p:=by
 let (b,z,q):=h;exact {b,z,e _ _ q}
structure pN (ps:List (Int × Int)):Prop where
 lt:∀(k:Nat) (l h:Int),ps[k]?=some (l,h)->l<h
 up:∀(k:Nat) (l h l' h':Int),ps[k]?=some (l,h)->ps[k+1]?=some (l',h')->h<=l'
 lo:∀(k:Nat) (l h:Int),ps[k]?=some (l,h)->-1000000000000000000<l/\h<1000000000000000000/\h-l<=30
 few:ps.length<=4
def xC (H:Hp) (p:Addr) (ps:List (Int × Int)):Prop:=∃xs,H p=some (.tup xs)/\Paired (jE H) xs ps/\pN ps
theorem xC.same (e:aJ H H') (h:xC H p ps):xC H' p ps:=by
 let (b,f,a,d):=h;exact {b,e _ _ f,aV (λ_ _=>jE.same e) a,d}
inductive Wz (vs:List V) (H:Hp) (Q:VK) (E0_:XK):Prop|mk (c:Int) (_:vs=[.int c]) (_:∀(p:Addr) (ps:List (Int × Int)) (H':Hp),aJ H H'->xC H' p ps->Q (.ref p) H')
def Zx:Sp:=Wz
def Uj {ns:List Int} {i:Int} (b:0<=i) (d:i<ns.length):∃z,z ∈ ns/\nY (ns.map V.int) i=some (.int z):=by
 let (k,rfl):=Int.eq_ofNat_of_zero_le b;let a:k<ns.length:=∎;exact {ns[k],List.getElem_mem a,bM (by rw [j7,i3 a];rfl)}
def Ep {ns:List Int} {k:Nat} (a:k<ns.length):nY (ns.map V.int) (k:Int)=some (.int ns[k]):=bM (by rw [j7,i3 a];rfl)
def pN.nil:pN []:={λk l h z=>by simp at z,λk l h b a z=>by simp at z,λk l h z=>by simp at z,l7 _}
def pN.snoc (r:pN ps) (f:∀(k:Nat) (a b:Int),ps[k]?=some (a,b)->b<=g) (u:g<=l) (h2:l<h) (o:-1000000000000000000<l/\h<1000000000000000000/\h-l<=30) (s:ps.length<4):pN (ps++[(l,h)]):=by
 let d:∀(k:Nat) (a b:Int),(ps++[(l,h)])[k]?=some (a,b)->ps[k]?=some (a,b)\/(k=ps.length/\a=l/\b=h):=λk a b z=>by
  rcases M0 k ps.length with c|c|c
  ·exact .inl (by rwa [B7 c] at z)
  ·subst c;simp at z;exact .inr {(rfl),z.1.symm,z.2.symm}
  ·rw [A3 (by rw [p8,M5];omega)] at z;cases z
 refine {λk a b z=>?_,λk a b n m z p=>?_,λk a b z=>?_,by rw [p8,M5];omega}
 ·rcases d k a b z with z|⟨_,rfl,rfl⟩
  ·exact r.lt k a b z
  ·exact h2
 ·rcases d (k+1) n m p with j|⟨e,rfl,rfl⟩
  ·let t:k+1<ps.length:=(i5.mp j).1;rcases d k a b z with i|⟨e,_,_⟩
   ·exact r.up k a b n m i j
   ·omega
  ·rcases d k a b z with i|⟨q,_,_⟩
   ·have:=f k a b i;omega
   ·omega
 ·rcases d k a b z with z|⟨_,rfl,rfl⟩
  ·exact r.lo k a b z
  ·exact o
def La:aK ["_law_cell","_law_xs","_law_low","_law_found","_law_k","_law_high"] ["_law_cell"] (aG Yf):=2#0
def Uv (W:3#0):kI P w K mg base dI "_law_work" 2 Zx:=W.d15.of λF=>by
 refine F.ok La 11#0 (λa7 A a0 s H vs Q E hr h=>?_)
 ·let (c,rfl,_):=h
  rfl
 ·let (c,rfl,q):=h
  let J:=La.nd
  let a5:(10:Int) ^ (17:Int).toNat=100000000000000000:=by decide
  refine Wp.ex (cU (n:=1) J rfl (dN (vs:=[.int c,.int 10]) (sG W) hr aO 15#0 {c,10,rfl,by decide,λlx e H1 s1 hx a8 hX=>?_}))
  let pn:∀k:Nat,(hk:k<10)->nY (e.map V.int) (k:Int)=some (.int (e[k]'∎)):=λk hk=>Ep ∎
  let p0:nY (e.map V.int) 0=some (.int e[0]):=pn 0 7#0
  let p1:nY (e.map V.int) 1=some (.int e[1]):=pn 1 7#0
  let (z0,m0,e0):=Uj (ns:=[0,-7,5,10 ^ (17:Int).toNat,3-10 ^ (17:Int).toNat,-1]) (i:=e[0] % 6) (C0 _ 7#0) (A2 _ 7#0)
  refine cU (n:=2) J rfl (gX (vs:=[.int 0,.int (-7),.int 5,.int (10 ^ (17:Int).toNat),.int (3-10 ^ (17:Int).toNat),.int (-1)]) 15#0 (by show 6<=1000;decide) (λH' I=>?_) e0 λH2 S=>?_)
  ·have:=I _ _ hX
   symm
  let b0:-100000000000000000<=z0/\z0<=100000000000000000:=by
   rw [a5] at m0;simp only [i9,List.not_mem_nil,or_false] at m0;omega
  refine qY (n:=3) J rfl nZ (l7 _) λM H3 hf s3 ef=>?_;let a3:lx≠M:=aF (S _ _ hX) hf;let Hf:H M=none:=s1.free (S.free hf);let (U,m1,e1):=Uj (ns:=[1,2,3,4,1,0]) (i:=e[1] % 6) (C0 _ 7#0) (A2 _ 7#0);let b1:0<=U/\U<=4:=(by decide:∀z ∈ ([1,2,3,4,1,0]:List Int),0<=z/\z<=4) U m1;refine Gn (n:=4) v7 W.G.range J rfl (gX (vs:=[.int 1,.int 2,.int 3,.int 4,.int 1,.int 0]) 15#0 (by show 6<=1000;decide) (λH' I=>?_) e1 λH4 s4=>{U,λi σ L=>∃(d:Int) (vs:List V) (l:List (Int × Int)) (u v:Option V),σ=[some (.int c),some (.ref lx),some (.int d),some (.ref M),u,v]/\L lx=some (.lst (e.map V.int))/\aJ H L/\L M=some (.lst vs)/\Paired (jE L) vs l/\pN l/\l.length=i /\
   (∀(k:Nat) (a b:Int),l[k]?=some (a,b)->b<=d)/\-100000000000000000<=d/\d<=100000000000000000+40 * (i:Int),rfl,∎,{z0,[],[],none,none,rfl,s4 _ _ (s3 _ _ (S _ _ hX)),s1.trans (S.trans (s3.trans s4)),s4 _ _ ef,.nil,pN.nil,rfl,(λk a b z=>by simp at z),b0.1,∎},λi σ L D' hi h T=>?_,λσ L h=>?_})
  ·have:=I _ _ (s3 _ _ (S _ _ hX));symm
  ·let (d,vs,l,u,v,rfl,y,s5,D,Z,g,C,f,a4,a2):=h;let a9:i<4:=∎;let (j,m2,e2):=Uj (ns:=[0,0,1,3]) (i:=e[2+2 * i] % 4) (C0 _ 7#0) (A2 _ 7#0);let b2:0<=j/\j<=3:=(by decide:∀z ∈ ([0,0,1,3]:List Int),0<=z/\z<=3) j m2;let p2:nY (e.map V.int) ((2:Int)+2 * (0+(i:Int)))=some (.int e[2+2 * i]):=by rw [show (2:Int)+2 * (0+(i:Int))=((2+2 * i:Nat):Int) by omega];exact pn _ ∎
   let p3:nY (e.map V.int) ((3:Int)+2 * (0+(i:Int)))=some (.int e[3+2 * i]):=by rw [show (3:Int)+2 * (0+(i:Int))=((3+2 * i:Nat):Int) by omega];exact pn _ ∎
   refine cU (n:=2) J rfl (wY (Vl.ex (v:=.int d) 15#0 {d,rfl,gX (vs:=[.int 0,.int 0,.int 1,.int 3]) 15#0 (by show 4<=1000;decide) (λH' I=>?_) e2 λH6 t1=>{j,rfl,?_}}))
   ·have:=I _ _ y;symm
   let a1:=t1 _ _ y;let (B,m3,e3):=Uj (ns:=[3,9,9,30]) (i:=e[2+2 * i] / 4 % 4) (C0 _ 7#0) (A2 _ 7#0);let b3:3<=B/\B<=30:=(by decide:∀z ∈ ([3,9,9,30]:List Int),3<=z/\z<=30) B m3;let r0:0<=e[3+2 * i] % B/\e[3+2 * i] % B<30:=⟨C0 _ ∎,by have:=A2 e[3+2 * i] (show (0:Int)<B by omega);omega⟩;refine cU (n:=5) J rfl (wY (Vl.ex (v:=.int (d+j+1)) 15#0 {_,rfl,CZ (i:=e[3+2 * i]) 15#0 (gX (vs:=[.int 3,.int 9,.int 9,.int 30]) 15#0 (by show 4<=1000;decide) (λH' I=>?_) e3 λH7 t2=>{B,rfl,∎,_,rfl,?_})}))
   ·have:=I _ _ a1;symm
   let m:=t1.trans t2;generalize e[3+2 * i] % B=r at r0 ⊢;let a6:vs.length<=4:=by rw [Z.length];exact g.few
   let O:=m _ _ D;refine mF (vs:=[.int (d+j),.int (d+j+1+r)]) 15#0 15#0 O ∎ (by show 2<=1000;decide) (λt H8 nt k8 l8 t8=>?_) rfl (oY PySem.F.plainAttrs_list PySem.F.slot_list_append PySem.F.type_list_append eJ aP (aA (bL eO) aC));show 2;refine cD (T.nx _ _ {d+j+1+r,vs++[.ref t],l++[(d+j,d+j+1+r)],_,_,rfl,k8 _ _ (m _ _ y) a3,λb o z=>k8 _ _ (m _ _ (s5 b o z)) (aF z Hf),l8,?_,g.snoc f ∎ ∎ { ∎,∎,∎} ∎,?_,λk a b z=>?_,∎,∎})
   ·refine Paired.snoc (aV (λx p X=>?_) Z) {(t),rfl,t8};let (b,z,Y):=X;let Y:=m _ _ Y;exact {b,z,k8 _ _ Y (aL Y O (by intro w;cases w))}
   ·rw [p8,C];rfl
   ·rcases M0 k l.length with cc|cc|cc
    ·rw [B7 cc] at z;have:=f k a b z;omega
    ·subst cc;simp at z;omega
    ·rw [A3 (by rw [p8,M5];omega)] at z;cases z
  ·let (d,vs,l,u,v,rfl,y,s5,D,Z,g,C,f,a4,a2):=h;refine fD {_,bZ dA (by rfl) W.G.tuple gM (aA (pv 3) aC),?_};refine {_,rfl,M,vs,rfl,.inl {cM.of D,λp X=>?_}};exact q p l _ (s5.trans (aI X)) {vs,aB,aV (λ_ _=>jE.same (aI X)) Z,g}
def jJ (n:H l=none) (o:HO):∃a,upd H l o=a/\aJ H a/\a l=some o:={_,rfl,aI n,aB}
inductive DT (vs:List V) (H:Hp) (Q:VK) (E0_:XK):Prop|mk (c:Int) (_:vs=[.int c]) (_:∀(p:Addr) (sp ev le:Int) (H':Hp),aJ H H'->H' p=some (.tup [.int sp,.int ev,.int le])->1<=sp->sp<=5->1<=ev->ev<=4->ev<=le->le<=7->Q (.ref p) H')
def FV:Sp:=DT
def Bf (x:Int):Int:=x * x % 13-6
inductive Ww (vs:List V) (H:Hp) (Q:VK) (E0_:XK):Prop|mk (x:Int) (_:vs=[.int x]) (_:-2000000000000000000<=x) (_:x<=2000000000000000000) (_:Q (.int (Bf x)) H)
def Zv:Sp:=Ww
def Lf:aK ["_law_cell","_law_xs","_law_every"] ["_law_cell"] (aG yA):=2#0
def BP (W:3#0):kI P w K mg base dI "_law_bounds" 2 FV:=W.d16.of λF=>by
 refine F.ok Lf (λu H Q E h=>?_) (λg A d s H u Q E p h=>?_)
 ·let (c,rfl,_):=h
  rfl
 ·let (c,rfl,q):=h
  refine {_,aD (bT (i:=1) Lf.nd rfl (j9 rfl) (aX (sG W) p aO (aA (pv 0) (aA aR aC))))
   (aD (bT (i:=2) Lf.nd rfl (j9 rfl) (bO dW aR (bO oH (bY fJ (pv 1) aR 12#0) aR)))
   (aH (aU (bL (aA (bO dW aR (bO oH (bY fJ (pv 1) aR 12#0) aR)) (aA (pv 2) (aA (bO dW (pv 2) (bO oH (bY fJ (pv 1) aR 12#0) aR)) aC))))))),?_}
  refine {_,rfl,c,3,rfl,by decide,λb a y j B x e=>?_}
  have r:nY (a.map V.int) ((0:Nat):Int)=some (.int a[0]):=Ep (k:=0) ∎
  have o:nY (a.map V.int) ((1:Nat):Int)=some (.int a[1]):=Ep (k:=1) ∎
  have l:nY (a.map V.int) ((2:Nat):Int)=some (.int a[2]):=Ep (k:=2) ∎
  have C:=C0 a[0] (show (5:Int)≠0 by decide)
  have n:=A2 a[0] (show (0:Int)<5 by decide)
  have D:=C0 a[1] (show (4:Int)≠0 by decide)
  have v:=A2 a[1] (show (0:Int)<4 by decide)
  have z:=C0 a[2] (show (4:Int)≠0 by decide)
  have f:=A2 a[2] (show (0:Int)<4 by decide)
  refine {_,rfl,b,_,_,_,rfl,rfl,cM.of e,o,_,_,rfl,rfl,(by show (0:Int)<4;decide),_,_,rfl,rfl,?_}
  refine {_,rfl,b,_,_,_,rfl,rfl,cM.of e,r,_,_,rfl,rfl,(by show (0:Int)<5;decide),_,_,rfl,rfl,_,rfl,_,rfl,_,rfl,b,_,_,_,rfl,rfl,cM.of e,l,_,_,rfl,rfl,(by show (0:Int)<4;decide),_,_,rfl,rfl,by show 3<=sizeLine;decide,λt m=>?_}
  exact q t _ _ _ _ (j.trans (aI m)) aB ∎ ∎ ∎ ∎ ∎ ∎
def AK:aK ["_law_place"] ["_law_place"] (aG Eh):=2#0
def Ez (W:3#0):kI P w K mg base dI "_law_result" 1 Zv:=W.d19.of λF=>by
 refine F.ok AK (λb H Q E h=>?_) (λd A a s H b Q E f h=>?_)
 ·let (x,rfl,_):=h
  rfl
 ·let (x,rfl,g,e,q):=h
  refine {_,aH (aU (bO jR (bO oH (bO Bj (pv 0) (pv 0)) aR) aR)),?_}
  refine {_,rfl,_,rfl,_,_,rfl,rfl,?_,_,_,rfl,rfl,(by show (0:Int)<13;decide),_,_,rfl,rfl,q}
  exact .inl { ∎,∎}
structure S8 where
 nn:Int
 nt:Int
 mo:Int
 cs:List Pc
 kv:List (bK × V)
 ns:List Int
 vf:Int->Int
structure Wg (ws:Lm.Ps):Prop where
 sh:Lm.Sh ws
 bd:∀x,Lm.mem ws x->-(2 ^ 60)<=x/\x<2 ^ 60
 sz:∀l:List Int,l.Nodup->(∀x ∈ l,Lm.mem ws x)->l.length<200
 ln:ws.length<=10
structure Iv (ws:Lm.Ps) (sp:Int) (t:Nat) (s:S8):Prop where
 lm:∀c ∈ s.cs,c.l<=c.m/\c.m<=c.h/\c.l<c.h
 ap:s.cs.Pairwise (λc e=>c.h<=e.l\/e.h<=c.l)
 cv:∀x,Lm.mem ws x↔∃c ∈ s.cs,c.l<=x/\x<c.h
 op:∀c ∈ s.cs,∀t,c.o=some t->0<=t.1/\t.1<s.nt/\c.m<c.h/\t.2.2<=s.mo+sp/\PyData.strOk t.2.1=true
 tk:s.cs.Pairwise (λc e=>∀t u,c.o=some t->e.o=some u->t.1≠u.1)
 nx:∀x,x ∈ s.ns↔∃c ∈ s.cs,c.l<=x/\x<c.m
 nm:(s.cs.map Pc.n).Nodup
 nl:∀c ∈ s.cs,0<=c.n/\c.n<s.nn
 hd:Holds s.vf s.kv s.ns
 ct:s.cs.length<=4+t
 n0:0<=s.nt
theorem jA:∀{l:List α} {k:Nat} {c:α},l[k]?=some c->l.Perm (c::l.eraseIdx k)
 | x::l,0,c,h=>by cases h;exact List.Perm.refl _
 | x::l,k+1,c,h=>((jA (l:=l) (k:=k) (by simpa using h)).cons x).trans (List.Perm.swap ..)
theorem gG:∀{l:List α} {k:Nat} {c c':α},l[k]?=some c->(l.set k c').Perm (c'::l.eraseIdx k)
 | x::l,0,c,c',h=>List.Perm.refl _
 | x::l,k+1,c,c',h=>((gG (l:=l) (k:=k) (c':=c') (by simpa using h)).cons x).trans (List.Perm.swap ..)
section
variable {ws:Lm.Ps} {sp:Int} {t:Nat} {s:S8}
def Iv.perm (h:Iv ws sp t s) (p:s.cs.Perm e):Iv ws sp t { s with cs:=e } where
 lm:=λc d=>h.lm c (p.mem_iff.mpr d)
 ap:=(p.pairwise_iff (λ{a b} z=>z.symm)).mp h.ap
 cv:=λx=>(h.cv x).trans {λ⟨c,d,z⟩=>{c,p.mem_iff.mp d,z},λ⟨c,d,z⟩=>{c,p.mem_iff.mpr d,z}}
 op:=λc d=>h.op c (p.mem_iff.mpr d)
 tk:=(p.pairwise_iff (λ{a b} z t u f g=>(z u t g f).symm)).mp h.tk
 nx:=λx=>(h.nx x).trans {λ⟨c,d,z⟩=>{c,p.mem_iff.mp d,z},λ⟨c,d,z⟩=>{c,p.mem_iff.mpr d,z}}
 nm:=((p.map Pc.n).nodup_iff).mp h.nm
 nl:=λc d=>h.nl c (p.mem_iff.mpr d)
 hd:=h.hd
 ct:=by have:=p.length_eq;have:=h.ct;show e.length<=_;omega
 n0:=h.n0
def Iv.up (h:Iv ws sp t s):Iv ws sp (t+1) s:={ h with ct:=by have:=h.ct;omega }
def Iv.re {c c':Pc} {R:List Pc} {nt' mo':Int} {kv':List (bK × V)} {ns':List Int} {vf':Int->Int} (h:Iv ws sp t { s with cs:=c::R }) (e1:c'.n=c.n) (b:c'.l=c.l) (d:c'.h=c.h) (J:c.m<=c'.m) (F:c'.m<=c.h)
  (A:∀u,c'.o=some u->0<=u.1/\u.1<nt'/\c'.m<c'.h/\u.2.2<=mo' + sp/\PyData.strOk u.2.1=true) (B:∀u,c'.o=some u->(∃v,c.o=some v/\v.1=u.1)\/s.nt<=u.1) (H:s.nt<=nt') (D:s.mo<=mo')
  (f:∀x,x ∈ ns'↔x ∈ s.ns\/(c.m<=x/\x<c'.m)) (a:Holds vf' kv' ns'):Iv ws sp t { s with nt:=nt',mo:=mo',cs:=c'::R,kv:=kv',ns:=ns',vf:=vf' }:=by
 let g:=v5.mp h.ap;let i:=v5.mp h.tk;let k:=h.nm;simp only [x9] at k;let I:=h.lm c (j1 ..);refine {λx hx=>?_,v5.mpr {λx hx=>?_,g.2},λx=>(h.cv x).trans ?_,λx hx u e=>?_,v5.mpr {λx hx u v r p=>?_,i.2},λx=>?_,?_,λx hx=>?_,a,?_,?_}
 ·rcases i9.mp hx with rfl|hx
  ·exact { ∎,∎,∎}
  ·exact h.lm x (i4 _ hx)
 ·have:=g.1 x hx;rw [b,d];exact this
 ·constructor
  ·rintro⟨y,hy,z⟩;rcases i9.mp hy with rfl|hy
   ·exact {c',j1 ..,by rw [b,d];exact z}
   ·exact {y,i4 _ hy,z}
  ·rintro⟨y,hy,z⟩;rcases i9.mp hy with rfl|hy
   ·exact {c,j1 ..,by rw [<- b,<- d];exact z}
   ·exact {y,i4 _ hy,z}
 ·rcases i9.mp hx with rfl|hx
  ·exact A u e
  ·have:=h.op x (i4 _ hx) u e;let E:u.1<s.nt:=this.2.1;let G:u.2.2<=s.mo+sp:=this.2.2.2.1;exact {this.1,by show u.1<nt';omega,this.2.2.1,by show u.2.2<=mo' + sp;omega,this.2.2.2.2}
 ·let j:=(h.op x (i4 _ hx) v p).2.1;let j:v.1<s.nt:=j;rcases B u r with ⟨w,C,e⟩|e
  ·rw [<- e];exact i.1 x hx w v C p
  ·omega
 ·rw [show x ∈ ({ s with nt:=nt',mo:=mo',cs:=c'::R,kv:=kv',ns:=ns',vf:=vf' }:S8).ns↔_ from f x,show x ∈ s.ns↔_ from h.nx x];constructor
  ·rintro(⟨y,hy,z⟩|z)
   ·rcases i9.mp hy with rfl|hy
    ·exact {c',j1 ..,∎,∎}
    ·exact {y,i4 _ hy,z}
   ·exact {c',j1 ..,∎,∎}
  ·rintro⟨y,hy,z⟩;rcases i9.mp hy with rfl|hy
   ·by_cases q:x<c.m
    ·exact .inl {c,j1 ..,∎,q}
    ·exact .inr { ∎,z.2}
   ·exact .inl {y,i4 _ hy,z}
 ·show (c'.n::R.map Pc.n).Nodup;rw [e1];exact k
 ·rcases i9.mp hx with rfl|hx
  ·rw [e1];exact h.nl c (j1 ..)
  ·exact h.nl x (i4 _ hx)
 ·exact h.ct
 ·have:=h.n0;show 0<=nt';have:0<=s.nt:=this;omega
def Iv.cut {c:Pc} {R:List Pc} {nt' mo' pl:Int} {o:Option (Int × Str × Int)} (h:Iv ws sp t { s with cs:=c::R }) (w:c.m<pl) (j:pl<c.h) (d:0<=s.nn)
  (f:∀u,o=some u->s.nt<=u.1/\u.1<nt'/\u.2.2<=mo' + sp/\PyData.strOk u.2.1=true) (I:s.nt<=nt') (C:s.mo<=mo'):Iv ws sp (t+1) { s with nn:=s.nn+1,nt:=nt',mo:=mo',cs:={(s.nn),pl,c.h,pl,o}::{ c with h:=pl }::R }:=by
 let b:=v5.mp h.ap;let g:=v5.mp h.tk;let B:(c.n::R.map Pc.n).Nodup:=h.nm;let A:=h.lm c (j1 ..);let p:=h.nl c (j1 ..);let D:0<=s.nt:=h.n0;refine {λx hx=>?_,v5.mpr {λx hx=>?_,v5.mpr {λx hx=>?_,b.2}},λx=>(h.cv x).trans ?_,λx hx u e=>?_,v5.mpr {λx hx u v k i=>?_,v5.mpr {λx hx=>g.1 x hx,g.2}},λx=>(h.nx x).trans ?_,?_,λx hx=>?_,h.hd,?_,?_}
 ·rcases i9.mp hx with rfl|hx
  ·exact {by show pl<=pl;omega,by show pl<=c.h;omega,by show pl<c.h;omega}
  rcases i9.mp hx with rfl|hx
  ·exact {A.1,by show c.m<=pl;omega,by show c.l<pl;omega}
  ·exact h.lm x (i4 _ hx)
 ·rcases i9.mp hx with rfl|hx
  ·exact .inr (by show pl<=pl;omega)
  ·have:=b.1 x hx;show c.h<=x.l\/x.h<=pl;omega
 ·have:=b.1 x hx;show pl<=x.l\/x.h<=c.l;omega
 ·constructor
  ·rintro⟨y,hy,z⟩;rcases i9.mp hy with rfl|hy
   ·by_cases q:x<pl
    ·exact {_,i4 _ (j1 ..),z.1,q}
    ·exact {_,j1 ..,by show pl<=x;omega,z.2}
   ·exact {y,i4 _ (i4 _ hy),z}
  ·rintro⟨y,hy,z⟩;rcases i9.mp hy with rfl|hy
   ·let E:pl<=x:=z.1;exact {c,j1 ..,∎,z.2}
   rcases i9.mp hy with rfl|hy
   ·let F:x<pl:=z.2;exact {c,j1 ..,z.1,∎}
   ·exact {y,i4 _ hy,z}
 ·let a:∀y ∈ c::R,y.o=some u->0<=u.1/\u.1<nt'/\y.m<y.h/\u.2.2<=mo' + sp/\PyData.strOk u.2.1=true:=λy hy e=>by
   have:=h.op y hy u e;let r:u.1<s.nt:=this.2.1;let H:u.2.2<=s.mo+sp:=this.2.2.2.1;exact {this.1,∎,this.2.2.1,∎,this.2.2.2.2}
  rcases i9.mp hx with rfl|hx
  ·have:=f u e;exact { ∎,this.2.1,j,this.2.2}
  rcases i9.mp hx with rfl|hx
  ·have:=a c (j1 ..) e;exact {(this.1),this.2.1,w,this.2.2.2}
  ·exact a x (i4 _ hx) e
 ·let G:=(f u k).1;let J:v.1<s.nt:=by
   rcases i9.mp hx with rfl|hx
   ·exact(h.op c (j1 ..) v i).2.1
   ·exact(h.op x (i4 _ hx) v i).2.1
  omega
 ·constructor
  ·rintro⟨y,hy,z⟩;rcases i9.mp hy with rfl|hy
   ·exact {_,i4 _ (j1 ..),z}
   ·exact {y,i4 _ (i4 _ hy),z}
  ·rintro⟨y,hy,z⟩;rcases i9.mp hy with rfl|hy
   ·exact absurd z (by show ¬ (pl<=x/\x<pl);omega)
   rcases i9.mp hy with rfl|hy
   ·exact {c,j1 ..,z}
   ·exact {y,i4 _ hy,z}
 ·show (s.nn::c.n::R.map Pc.n).Nodup;refine A9.mpr {λz=>?_,B};let (y,hy,e):=y0.mp (show s.nn ∈ (c::R).map Pc.n from z);have:=(h.nl y hy).2;have:y.n<s.nn:=this;omega
 ·rcases i9.mp hx with rfl|hx
  ·exact {d,by show s.nn<s.nn+1;omega}
  let a:∀y ∈ c::R,0<=y.n/\y.n<s.nn+1:=λy hy=>by
   have:=h.nl y hy;let r:y.n<s.nn:=this.2;exact {this.1,∎}
  rcases i9.mp hx with rfl|hx
  ·exact a c (j1 ..)
  ·exact a x (i4 _ hx)
 ·have:=h.ct;show (R.length+1)+1<=4+(t+1);have:R.length+1<=4+t:=this;omega
 ·show 0<=nt';omega
def Iv.join {c e:Pc} {R:List Pc} (h:Iv ws sp t { s with cs:=c::e::R }) (E:e.l=c.h) (b:e.unt=true):Iv ws sp t { s with cs:={ c with h:=e.h }::R }:=by
 let d:=v5.mp h.ap;let f:=v5.mp d.2;let j:=v5.mp h.tk;let k:=v5.mp j.2;let w:(c.n::e.n::R.map Pc.n).Nodup:=h.nm;let g:=A9.mp w;let v:=A9.mp g.2;let r:=h.lm c (j1 ..);let B:=h.lm e (i4 _ (j1 ..));let C:e.m=e.l:=by
  unfold Pc.unt at b;rw [C6] at b;exact of_decide_eq_true b.2
 let a:∀y ∈ R,y ∈ c::e::R:=λy hy=>i4 _ (i4 _ hy);refine {λx hx=>?_,v5.mpr {λx hx=>?_,f.2},λx=>(h.cv x).trans ?_,λx hx u i=>?_,v5.mpr {λx hx=>j.1 x (i4 _ hx),k.2},λx=>(h.nx x).trans ?_,?_,λx hx=>?_,h.hd,?_,h.n0}
 ·rcases i9.mp hx with rfl|hx
  ·exact {r.1,by show c.m<=e.h;omega,by show c.l<e.h;omega}
  ·exact h.lm x (a x hx)
 ·let A:=d.1 x (i4 _ hx);let F:=f.1 x hx;let D:=h.lm x (a x hx);show e.h<=x.l\/x.h<=c.l;omega
 ·constructor
  ·rintro⟨y,hy,z⟩;rcases i9.mp hy with rfl|hy
   ·exact {_,j1 ..,z.1,by show x<e.h;omega}
   rcases i9.mp hy with rfl|hy
   ·exact {_,j1 ..,by show c.l<=x;omega,z.2}
   ·exact {y,i4 _ hy,z}
  ·rintro⟨y,hy,z⟩;rcases i9.mp hy with rfl|hy
   ·let o:c.l<=x:=z.1;let p:x<e.h:=z.2;by_cases q:x<c.h
    ·exact {c,j1 ..,o,q}
    ·exact {e,i4 _ (j1 ..),∎,p}
   ·exact {y,a y hy,z}
 ·rcases i9.mp hx with rfl|hx
  ·have:=h.op c (j1 ..) u i;exact {this.1,this.2.1,by show c.m<e.h;omega,this.2.2.2}
  ·exact h.op x (a x hx) u i
 ·constructor
  ·rintro⟨y,hy,z⟩;rcases i9.mp hy with rfl|hy
   ·exact {_,j1 ..,z}
   rcases i9.mp hy with rfl|hy
   ·omega
   ·exact {y,i4 _ hy,z}
  ·rintro⟨y,hy,z⟩;rcases i9.mp hy with rfl|hy
   ·exact {c,j1 ..,z}
   ·exact {y,a y hy,z}
 ·show (c.n::R.map Pc.n).Nodup;exact A9.mpr {λz=>g.1 (i4 _ z),v.2}
 ·rcases i9.mp hx with rfl|hx
  ·exact h.nl c (j1 ..)
  ·exact h.nl x (a x hx)
 ·have:R.length+1+1<=4+t:=h.ct;show R.length+1<=4+t;omega
end
section
variable {ws:Lm.Ps} {sp:Int} {t:Nat} {s:S8}
def Iv.cons {k:Nat} {c:Pc} (h:Iv ws sp t s) (a:s.cs[k]?=some c):Iv ws sp t { s with cs:=c::s.cs.eraseIdx k }:=h.perm (jA a)
def BR {c:Pc} (h:Iv ws sp t s) (a:c ∈ s.cs):0<=s.nn:=by have:=h.nl c a;omega
def Iv.lendK {k:Nat} {c:Pc} {w:Str} {i:Int} (h:Iv ws sp t s) (a:s.cs[k]?=some c) (op:c.m<c.h) (hi:s.mo<=i) (b:PyData.strOk w=true):
  Iv ws sp t { s with nt:=s.nt+1,mo:=i,cs:=s.cs.set k { c with o:=some (s.nt,w,i+sp) } }:=by
 let g:=(h.cons a).re (c':={ c with o:=some (s.nt,w,i+sp) }) (nt':=s.nt+1) (mo':=i) rfl rfl rfl (q0 _) (z4 op) (λu e=>by cases e;exact {h.n0,by show s.nt<s.nt+1;omega,op,q0 _,b}) (λu e=>by cases e;exact .inr (q0 _)) ∎ hi
  (λx=>{.inl,λz=>z.elim id λz=>absurd z (by show ¬ (c.m<=x/\x<c.m);omega)}) h.hd
 exact g.perm (gG a).symm
def Iv.backK {k:Nat} {c:Pc} {i:Int} (h:Iv ws sp t s) (a:s.cs[k]?=some c) (hi:s.mo<=i):
  Iv ws sp t { s with mo:=i,cs:=s.cs.set k { c with o:=none } }:=by
 let g:=(h.cons a).re (c':={ c with o:=none }) (nt':=s.nt) (mo':=i) rfl rfl rfl (q0 _) (h.lm c (j8 a)).2.1 (λu e=>nomatch e) (λu e=>nomatch e) (q0 _) hi
  (λx=>{.inl,λz=>z.elim id λz=>absurd z (by show ¬ (c.m<=x/\x<c.m);omega)}) h.hd
 exact g.perm (gG a).symm
def Iv.cutK {k:Nat} {c:Pc} {nt' mo' pl:Int} {o:Option (Int × Str × Int)} (h:Iv ws sp t s) (a:s.cs[k]?=some c) (d:c.m<pl) (b:pl<c.h)
  (i:∀u,o=some u->s.nt<=u.1/\u.1<nt'/\u.2.2<=mo' + sp/\PyData.strOk u.2.1=true) (f:s.nt<=nt') (e:s.mo<=mo'):Iv ws sp (t+1) { s with nn:=s.nn+1,nt:=nt',mo:=mo',cs:=s.cs.set k { c with h:=pl }++[{(s.nn),pl,c.h,pl,o}] }:=by
 let g:=(h.cons a).cut d b (BR h (j8 a)) i f e;exact g.perm (((gG a).symm.cons _).trans (List.perm_append_comm (l₁:=[_])))
def Iv.joinK {k j:Nat} {c e:Pc} (h:Iv ws sp t s) (d:s.cs[k]?=some c) (f:s.cs[j]?=some e) (u:e.l=c.h) (q:e.unt=true):Iv ws sp t { s with cs:=(s.cs.set k { c with h:=e.h }).eraseIdx j }:=by
 let x:=h.lm c (j8 d);let w:k≠j:=λz=>by subst z;rw [d] at f;cases f;omega
 let p:(s.cs.set k { c with h:=e.h })[j]?=some e:=by rw [Q1,if_neg w];exact f
 let n:=jA p;let i:(s.cs.set k { c with h:=e.h }).Perm ({ c with h:=e.h }::s.cs.eraseIdx k):=gG d;let m:e ∈ ({ c with h:=e.h }:Pc)::s.cs.eraseIdx k:=(n.symm.trans i).mem_iff.mp (j1 ..);rcases i9.mp m with z|m
 ·have:=congrArg Pc.l z;have:e.l=c.l:=this;omega
 let (a,b,r):=List.append_of_mem m;let o:(s.cs.eraseIdx k).Perm (e::(a++b)):=by rw [r];exact List.perm_middle
 let g:=((h.cons d).perm (o.cons c)).join u q;let v:(e::(s.cs.set k { c with h:=e.h }).eraseIdx j).Perm (e::{ c with h:=e.h }::(a++b)):=(n.symm.trans (i.trans (o.cons _))).trans (List.Perm.swap ..);exact g.perm v.cons_inv.symm
theorem Dm (a:∀j:Nat,j<fr.length->cH kv (Sum.inl (m+(j:Int)):bK)=none):∀i,i<=fr.length->∀x:Int,cH (kv++lG m fr i) (Sum.inl x:bK)=if m<=x/\x<m+(i:Int) then some (.int (fr.getD (x-m).toNat 0)) else cH kv (Sum.inl x:bK)
 | 0,_,x=>by rw [if_neg ∎];show cH (kv++[]) _=_;rw [E4]
 | i+1,hi,x=>by
  rw [vF,<- w8,uK _ _ _ _ (zL (a i ∎))]
  by_cases z:x=m+(i:Int)
  ·subst z
   rw [if_pos rfl,if_pos ∎,show (m+(i:Int)-m).toNat=i by omega]
  ·rw [if_neg λy=>z (Sum.inl.inj y),Dm a i ∎ x]
   by_cases q:m<=x/\x<m+(i:Int)
   ·rw [if_pos q,if_pos ∎]
   ·rw [if_neg q,if_neg ∎]
def Yx (vf:Int->Int) (m:Int) (fr:List Int):Int->Int:=λx=>if m<=x/\x<m+(fr.length:Int) then fr.getD (x-m).toNat 0 else vf x
def cV (m:Int) (n:Nat):List Int:=(List.range n).map λ(k:Nat)=>m+(k:Int)
def dC:x ∈ cV m n↔m<=x/\x<m+(n:Int):=by
 unfold cV;rw [y0];constructor
 ·rintro⟨k,a,rfl⟩;have:=D9.mp a;omega
 ·intro h;exact {(x-m).toNat,D9.mpr ∎,∎}
def iY (m:Int) (n:Nat):(cV m n).Nodup:=List.Pairwise.map _ (λa b z e=>z ∎) List.nodup_range
def Cf {vf:Int->Int} {kv:List (bK × V)} {ns:List Int} {m:Int} {fr:List Int} (h:Holds vf kv ns) (c:∀j:Nat,j<fr.length->m+(j:Int) ∉ ns) (f:(ns++cV m fr.length).length<900) (l:-(2 ^ 61)<=m) (k:m+(fr.length:Int)<=2 ^ 61):
  Holds (Yx vf m fr) (kv++lG m fr fr.length) (ns++cV m fr.length):=by
 let i:∀x,x ∉ ns->cH kv (Sum.inl x:bK)=none:=λx hx=>iA.mpr λe g z=>hx (by
  have:(Sum.inl x:bK) ∈ kv.map (·.1):=y0.mpr {(e),g,z}
  rw [h.key] at this
  let (y,b,q):=y0.mp this
  cases q
  exact b);let a:∀x,x ∈ cV m fr.length->x ∉ ns:=λx hx=>by
  have:=dC.mp hx;let e:x=m+((x-m).toNat:Int):=∎;rw [e];exact c _ ∎
 refine {?_,?_,f,λx hx=>?_,λx hx=>?_}
 ·rw [u7,u7,h.key];congr 1;unfold lG cV;rw [A0,A0];rfl
 ·rw [K1];exact {h.nd,iY _ _,λx hx y b z=>by subst z;exact a x b hx}
 ·rw [Dm (λj d=>i _ (c j d)) _ (i7 _)];unfold Yx;by_cases q:m<=x/\x<m+(fr.length:Int)
  ·rw [if_pos q,if_pos q]
  ·rw [if_neg q,if_neg q];rcases q8.mp hx with hx|hx
   ·exact h.val x hx
   ·exact absurd (dC.mp hx) q
 ·rcases q8.mp hx with hx|hx
  ·exact h.lo x hx
  ·have:=dC.mp hx;omega
def Iv.fresh {k:Nat} {c:Pc} (h:Iv ws sp t s) (a:s.cs[k]?=some c) {x:Int} (g:c.m<=x) (h2:x<c.h):x ∉ s.ns:=λz=>by
 let (y,hy,d,e):=((h.cons a).nx x).mp z
 have f:=h.lm c (j8 a)
 have b:=v5.mp (h.cons a).ap
 rcases i9.mp hy with rfl|hy
 ·omega
 ·have:=b.1 y hy
  have:=(h.cons a).lm y (i4 _ hy)
  omega
theorem Iv.told {k:Nat} {c:Pc} {fr:List Int} {i:Int} (g:Wg ws) (h:Iv ws sp t s) (d:s.cs[k]?=some c) (E:c.m+(fr.length:Int)<=c.h) (hi:s.mo<=i):
  Iv ws sp t { s with mo:=i,cs:=s.cs.set k (c.told fr.length (i+sp)),kv:=s.kv++lG c.m fr fr.length,ns:=s.ns++cV c.m fr.length,vf:=Yx s.vf c.m fr }:=by
 let r:=j8 d;let D:=h.lm c r;let a:∀x,c.l<=x->x<c.h->Lm.mem ws x:=λx p w=>(h.cv x).mpr {(c),r,p,w};let q:∀x ∈ s.ns,Lm.mem ws x:=λx hx=>by
  let (y,n,p,w):=(h.nx x).mp hx;have:=h.lm y n;exact(h.cv x).mpr {y,n,p,∎}
 let A:∀j:Nat,j<fr.length->c.m+(j:Int) ∉ s.ns:=λj F=>h.fresh d ∎ ∎;let C:(s.ns++cV c.m fr.length).Nodup:=by
  rw [K1];refine {h.hd.nd,iY _ _,λx hx y n z=>?_};subst z;have:=dC.mp n;exact h.fresh d ∎ ∎ hx
 let H:=g.sz _ C λx hx=>by
  rcases q8.mp hx with hx|hx
  ·exact q x hx
  ·have:=dC.mp hx;exact a x ∎ ∎
 let I:=g.bd c.l (a _ (q0 _) D.2.2);let G:=g.bd (c.h-1) (a _ ∎ ∎);let f:∀u,(c.told fr.length (i+sp)).o=some u->c.m+(fr.length:Int)<c.h/\∃v,c.o=some v/\u=(v.1,v.2.1,i+sp):=λu e=>by
  let e:(if c.m+(fr.length:Int)=c.h then none else c.o.map λt=>(t.1,t.2.1,i+sp))=some u:=e;by_cases z:c.m+(fr.length:Int)=c.h
  ·rw [if_pos z] at e;cases e
  rw [if_neg z] at e;cases b:c.o with
  | none=>rw [b] at e;cases e
  | some v=>
   rw [b] at e;exact { ∎,v,rfl,(Option.some.inj e).symm}
 let B:=(h.cons d).re (c':=c.told fr.length (i+sp)) (nt':=s.nt) (mo':=i) (ns':=s.ns++cV c.m fr.length) (kv':=s.kv++lG c.m fr fr.length) (vf':=Yx s.vf c.m fr) rfl rfl rfl (by show c.m<=c.m+(fr.length:Int);omega) E (λu e=>by
   let (l,v,b,rfl):=f u e
   have:=h.op c r v b
   exact {this.1,this.2.1,l,q0 _,this.2.2.2.2}) (λu e=>by
   let (l,v,b,rfl):=f u e
   exact .inl {(v),b,rfl}) (q0 _) hi
  (λx=>by rw [q8,dC];rfl) (Cf h.hd A ∎ ∎ ∎)
 exact B.perm (gG d).symm
def Iv.oneLow {i j:Nat} {x y:Pc} (h:Iv ws sp t s) (a:s.cs[i]?=some x) (b:s.cs[j]?=some y) (e:x.l=y.l):i=j:=by
 rcases M0 i j with z|z|z
 ·let (d,c):=i5.mp a;let (f,g):=i5.mp b;have:=z7.mp h.ap i j d f z;rw [c,g] at this;have:=h.lm x (j8 a);have:=h.lm y (j8 b);omega
 ·exact z
 ·let (d,c):=i5.mp a;let (f,g):=i5.mp b;have:=z7.mp h.ap j i f d z;rw [c,g] at this;have:=h.lm x (j8 a);have:=h.lm y (j8 b);omega
def nO {c:Pc} {tk:Int} (h:c.has tk=true):∃u,c.o=some u/\u.1=tk:=by
 unfold Pc.has at h;cases e:c.o with
 | none=>rw [e] at h;cases h
 | some u=>rw [e] at h;exact {u,rfl,of_decide_eq_true h}
def Iv.oneTk {i j:Nat} {x y:Pc} {tk:Int} (h:Iv ws sp t s) (l:s.cs[i]?=some x) (n:s.cs[j]?=some y) (e1:x.has tk=true) (m:y.has tk=true):i=j:=by
 let (u,c,g):=nO e1;let (v,k,f):=nO m;let (b,a):=i5.mp l;let (d,e):=i5.mp n;rcases M0 i j with z|z|z
 ·have:=z7.mp h.tk i j b d z;rw [a,e] at this;exact absurd (g.trans f.symm) (this u v c k)
 ·exact z
 ·have:=z7.mp h.tk j i d b z;rw [a,e] at this;exact absurd (f.trans g.symm) (this v u k c)
def Iv.oneTk' {k:Nat} {c:Pc} {tk:Int} (h:Iv ws sp t s) (b:s.cs[k]?=some c) (e1:c.has tk=true) (j:Nat) (e:Pc) (a:s.cs[j]?=some e) (d:j<k):e.has tk=false:=F4.mpr λz=>by
 have:=h.oneTk b a e1 z
 omega
theorem Ks:∀{ws:Lm.Ps} {q r:Int × Int},Lm.Sh ws->q ∈ ws->r ∈ ws->q=r\/q.2<r.1\/r.2<q.1
 | s::ws,q,r,w,hq,hr=>by
  rcases i9.mp hq with rfl|hq' <;> rcases i9.mp hr with rfl|hr'
  ·exact .inl rfl
  ·exact .inr (.inl (w.2.1 r hr'))
  ·exact .inr (.inr (w.2.1 q hq'))
  ·exact Ks w.2.2 hq' hr'
def FW (w:Lm.Sh ws) (d:l<h) (c:∀x,l<=x->x<h->Lm.mem ws x):∃q ∈ ws,q.1<=l/\h<=q.2:=by
 let (q,a,f,j):=c l (q0 _) d;refine {q,a,f,P3.mp λz=>?_};let (r,b,i,g):=c q.2 ∎ z;have:=Lm.Sh.lt w q a;have:=Lm.Sh.lt w r b;rcases Ks w a b with e|e|e
 ·subst e;omega
 ·omega
 ·omega
def Iv.inw {c:Pc} (g:Wg ws) (h:Iv ws sp t s) (a:c ∈ s.cs):∃q ∈ ws,q.1<=c.l/\c.h<=q.2:=
 FW g.sh (h.lm c a).2.2 λx d b=>(h.cv x).mpr {(c),a,d,b}
def Iv.bnd {c:Pc} (g:Wg ws) (h:Iv ws sp t s) (a:c ∈ s.cs):-(2 ^ 60)<=c.l/\c.h<=2 ^ 60:=by
 let b:=h.lm c a;let d:=g.bd c.l ((h.cv _).mpr {c,a,q0 _,b.2.2});let e:=g.bd (c.h-1) ((h.cv _).mpr {c,a,∎,∎});omega
def Holds.noV (h:Holds vf kv ns) {x:Int} (b:x ∉ ns):cH kv (Sum.inl x:bK)=none:=iA.mpr λe c z=>b (by
  have:(Sum.inl x:bK) ∈ kv.map (·.1):=y0.mpr {(e),c,z}
  rw [h.key] at this
  let (y,a,q):=y0.mp this
  cases q
  exact a)
theorem Iv.val {c:Pc} (h:Iv ws sp t s) (b:c ∈ s.cs) {x:Int} (a:c.l<=x) (h2:x<c.m):cH s.kv (Sum.inl x:bK)=some (.int (s.vf x)):=h.hd.val x ((h.nx x).mpr {(c),b,a,h2})
def Iv.kvl (h:Iv ws sp t s):s.kv.length<900:=by
 have:=h.hd.len;let e:=congrArg List.length h.hd.key;rw [i6,i6] at e;omega
def Iv.low {c:Pc} {i:Int} (h:Iv ws sp t s) (e:IL s.cs i c):c ∈ s.cs/\c.m<c.h:=by
 rcases e with b|⟨_,b⟩
 ·have:=h.lm c b.1;let f:=b.2.1;unfold Pc.free at f;rw [C6,J8] at f;have:=of_decide_eq_false f.2;exact {b.1,∎}
 ·let f:=b.2.1;unfold Pc.late at f;cases e:c.o with
  | none=>rw [e] at f;cases f
  | some u=>exact {b.1,(h.op c b.1 u e).2.2.1}
end
structure Ad where
 b:Addr
 pw:Addr
 sh:Addr
 d:Addr
 pw':Addr
 d':Addr
 ps:List Addr
structure Bv (CB CS CP T1 T2:Addr) (sp ev le:Int) (ws:Lm.Ps) (H:Hp) (A:Ad) (s:S8):Prop where
 bk:hV CB CP H A.b A.pw A.sh A.d sp ev le s.nn s.nt s.mo A.ps s.cs
 st:cN CS H A.sh A.pw' A.d' ws s.kv
 t1:pG H T1 sU jH
 t2:pG H T2 Hj rX
 dd:A.d≠A.d'
 tt:T1≠T2
def MO:HO->Bool
 | .tup _=>true
 | .lst _=>true
 | _=>false
def fX (d d':Addr) (H H':Hp):Prop:=∀a o,H a=some o->(MO o=true\/(∃kv,o=.dK kv)/\a≠d/\a≠d')->H' a=some o
def fX.of (s:aJ H H'):fX d d' H H':=λa o e _=>s a o e
def fX.trans (x:fX d d' H H1) (y:fX d d' H1 b):fX d d' H b:=λa o e k=>y a o (x a o e k) k
theorem fX.tup (x:fX d d' H H') (e:H a=some (.tup xs)):H' a=some (.tup xs):=x _ _ e (.inl rfl)
theorem fX.lst (x:fX d d' H H') (e:H a=some (.lst xs)):H' a=some (.lst xs):=x _ _ e (.inl rfl)
def fX.dic (x:fX d d' H H') (e:H a=some (.dK kv)) (n:a≠d) (b:a≠d'):H' a=some (.dK kv):=x _ _ e (.inr {{_,rfl},n,b})
def cT.kpl (k:fX d d' H H') {xs:List V} {ps:Lm.Ps} (h:cT H xs ps):cT H' xs ps:=aV (λ_ _ ⟨b,e,x⟩=>{b,e,k.tup x}) h
theorem cJ.kpl (k:fX d d' H H') {p:Addr} {ps:Lm.Ps} (h:cJ H p ps):cJ H' p ps:=by
 let (b,c,a):=h;exact {b,k.tup c,cT.kpl k a}
def zF:(sZ pw d).length=2:=rfl
def CW:¬ (sZ pw d).length=(bf pw' sh d' sp ev le nn nt mo).length:=by rw [zF];show ¬ 2=9;decide
def CV:¬ (sZ pw d).length=(pf n l h m a).length:=by rw [zF];show ¬ 2=5;decide
section
variable {CB CS CP T1 T2:Addr} {sp ev le:Int} {ws:Lm.Ps} {H H':Hp} {A:Ad} {s:S8}
theorem Bv.same (e:aJ H H') (h:Bv CB CS CP T1 T2 sp ev le ws H A s):Bv CB CS CP T1 T2 sp ev le ws H' A s:=
 {h.bk.sameT (aJ.toT e),h.st.same e,h.t1.same e,h.t2.same e,h.dd,h.tt}
def Bv.step {k:Nat} {p:Addr} (h:Bv CB CS CP T1 T2 sp ev le ws H A s) (x:A.ps[k]?=some p) (fr:∀a o,H a=some o->a≠A.b->a≠A.d->a≠p->a≠T1->a≠A.d'->H' a=some o):
  fX A.d A.d' H H'/\pG H' T2 Hj rX/\cJ H' A.pw' ws/\∃r,H' A.sh=some (.ins CS r (sZ A.pw' A.d')):=by
 let ((r,m),n,q):=h.bk;let ((y,l),v,i):=h.st;let (c,D,B,(C,g),w):=aN q x;let (u,j,_):=h.t1;let t:fX A.d A.d' H H':=λa o e k=>by
  refine fr a o e (λz=>?_) (λz=>?_) (λz=>?_) (λz=>?_) (λz=>?_) <;> subst z
  ·rw [m] at e;cases e;rcases k with k|⟨⟨_,k⟩,_⟩ <;> cases k
  ·rw [n] at e;cases e;rcases k with k|⟨_,k,_⟩
   ·cases k
   ·exact k rfl
  ·rw [g] at e;cases e;rcases k with k|⟨⟨_,k⟩,_⟩ <;> cases k
  ·rw [j] at e;cases e;rcases k with k|⟨⟨_,k⟩,_⟩ <;> cases k
  ·rw [i] at e;cases e;rcases k with k|⟨_,_,k⟩
   ·cases k
   ·exact k rfl
 refine {t,jO h.t2 (λu e=>fr _ _ e (aL e m 1#0) (aL e n 1#0) (aL e g 1#0) h.tt.symm (aL e i 1#0))
  (λa f e=>fr _ _ e (aL e m 1#0) (aL e n 1#0) (aL e g 1#0) (aL e j 1#0) (aL e i 1#0)),cJ.kpl t v,y,?_};exact fr _ _ l (aL l m (by intro z;injection z with _ _ z;exact absurd (congrArg List.length z) CW)) (aL l n 1#0) (aL l g (by intro z;injection z with _ _ z;exact absurd (congrArg List.length z) CV)) (aL l j 1#0) (aL l i 1#0)
def Bv.stepS {k:Nat} {p:Addr} (h:Bv CB CS CP T1 T2 sp ev le ws H A s) (l:A.ps[k]?=some p) (fr:∀a o,H a=some o->a≠A.b->a≠A.d->a≠p->a≠T1->H' a=some o):
  fX A.d A.d' H H'/\pG H' T2 Hj rX/\cN CS H' A.sh A.pw' A.d' ws s.kv:=by
 let ((D,u),K,i):=h.bk;let ((F,J),C,f):=h.st;let (c,B,G,(I,g),y):=aN i l;let (E,j,_):=h.t1;let (w,t,q,v):=h.step l λa o e n x r m _=>fr a o e n x r m;exact {w,t,v,q,fr _ _ f (aL f u 1#0) h.dd.symm (aL f g 1#0) (aL f j 1#0)}
def Bv.stepT {k:Nat} {p:Addr} (h:Bv CB CS CP T1 T2 sp ev le ws H A s) (q:A.ps[k]?=some p) (fr:∀a o,H a=some o->a≠A.b->a≠A.d->a≠p->a≠A.d'->H' a=some o):pG H' T1 sU jH:=by
 let ((t,l),m,j):=h.bk;let (_,_,i):=h.st;let (c,w,u,(v,g),n):=aN j q;exact jO h.t1 (λr e=>fr _ _ e (aL e l 1#0) (aL e m 1#0) (aL e g 1#0) (aL e i 1#0))
  (λa f e=>fr _ _ e (aL e l 1#0) (aL e m 1#0) (aL e g 1#0) (aL e i 1#0))
def Bv.keepT (h:Bv CB CS CP T1 T2 sp ev le ws H A s) (j:dG T H H') (i:T=T1/\pG H' T1 sU jH\/T=T2/\pG H' T2 Hj rX):Bv CB CS CP T1 T2 sp ev le ws H' A s/\fX A.d A.d' H H':=by
 let (w,v,_):=h.t1;let (x,p,_):=h.t2;let b:∃l,H T=some (.tbl l):=by rcases i with ⟨rfl,_⟩|⟨rfl,_⟩ <;> exact {_,by assumption}
 let (l,b):=b;let c:=j.toT b;let m:fX A.d A.d' H H':=λa o e k=>c.at e λn z=>by subst z;rcases k with k|⟨⟨_,k⟩,_⟩ <;> cases k
 let ((u,r),q,g):=h.st;refine {{h.bk.sameT c,{{u,c.at r},cJ.kpl m q,c.at g},?_,?_,h.dd,h.tt},m}
 ·rcases i with ⟨_,t⟩|⟨rfl,_⟩
  ·exact t
  ·exact jO h.t1 (λn e=>j _ _ h.tt e) λa f e=>c.at e
 ·rcases i with ⟨rfl,_⟩|⟨_,t⟩
  ·exact jO h.t2 (λn e=>j _ _ h.tt.symm e) λa f e=>c.at e
  ·exact t
end
structure Pm where
 sp:Int
 ev:Int
 le:Int
 ws:Lm.Ps
structure Go (N:Cn) (M:Pm) (t:Nat) (H:Hp) (A:Ad) (s:S8):Prop where
 bv:Bv N.CB N.CS N.CP N.T1 N.T2 M.sp M.ev M.le M.ws H A s
 iv:Iv M.ws M.sp t s
 wg:Wg M.ws
 l1:1<=M.le
 e1:1<=M.ev
inductive Xl (N:Cn) (c:Nat->Addr) (ok:Hp->List V->Prop) (R:Hp->List V->V->Hp->S8->S8->Prop) (vs:List V) (H:Hp) (Q:VK) (E:XK):Prop|mk (M:Pm) (A:Ad) (s:S8) (t:Nat) (as:List V) (_:vs=.ref A.b::as) (_:Go N M t H A s) (_:t<500) (_:ok H as) (_:(∀j H',j<9->aJ H H'->E (.ref (c j)) none H')) (_:∀v ps' s' H',fX A.d A.d' H H'->Go N M (t+1) H' { A with ps:=ps' } s'->R H as v H' s s'->Q v H')
def gY (N:Cn) (c:Nat->Addr) (ok:Hp->List V->Prop) (R:Hp->List V->V->Hp->S8->S8->Prop):Sp:=Xl N c ok R
theorem Go.up {N:Cn} {M:Pm} {t:Nat} {H:Hp} {A:Ad} {s:S8} (g:Go N M t H A s):Go N M (t+1) H A s:={(g.bv),g.iv.up,g.wg,g.l1,g.e1}
theorem Go.same {N:Cn} {M:Pm} {t:Nat} {H H':Hp} {A:Ad} {s:S8} (e:aJ H H') (g:Go N M t H A s):Go N M t H' A s:={g.bv.same e,g.iv,g.wg,g.l1,g.e1}
def KM:Hp->List V->Prop:=λ_ as=>∃(x:Str) (i:Int),as=[.str x,.int i]/\lF x/\PyData.strOk x=true
def KL:Hp->List V->Prop:=λH as=>∃(tk pl i:Int) (nr:Addr) (ns:List Int),as=[.int tk,.int pl,.ref nr,.int i]/\H nr=some (.tup (ns.map V.int))/\ns.length<=1000/\-(2 ^ 61)<=pl/\pl<=2 ^ 61
def EC:Hp->List V->Prop:=λ_ as=>∃(tk i:Int),as=[.int tk,.int i]
def KN:Hp->List V->Prop:=λ_ as=>∃(n:Int),as=[.int n]
def R0:Hp->List V->V->Hp->S8->S8->Prop:=λ_ _ _ _ s s'=>s'.ns=s.ns/\s'.vf=s.vf
def RT:Hp->List V->V->Hp->S8->S8->Prop:=λH as v H' s s'=>∃(tk pl i:Int) (nr q:Addr) (ns fr:List Int) (k:Nat) (c:Pc) (x y:V),as=[.int tk,.int pl,.ref nr,.int i]/\H nr=some (.tup (ns.map V.int))/\s.cs[k]?=some c/\c.has tk=true/\pl<=c.m/\fr=fB ns (some (c.m-pl)) (some (c.h-pl))/\c.m+(fr.length:Int)<=c.h /\
 v=.ref q/\H' q=some (.tup [.int (c.m+(fr.length:Int)),x,y])/\s'.ns=s.ns++cV c.m fr.length/\s'.vf=Yx s.vf c.m fr
def Ek (h:0<=x):HT.sIx n d (some x)=min x.toNat n:=by
 let e:=HT.sIx_nat n d x.toNat
 rwa [Int.toNat_of_nonneg h] at e
def qF (a:0<=lo) (h2:lo<=hi):fB ns (some lo) (some hi)=(ns.drop lo.toNat).take (hi-lo).toNat:=by
 unfold fB;rw [Ek a,Ek ∎];apply L9;intro i;rw [P2,P2,v9,v9];by_cases z:lo.toNat<=ns.length
 ·rw [B9 z];by_cases y:i<min hi.toNat ns.length-lo.toNat
  ·rw [if_pos y,if_pos ∎]
  ·rw [if_neg y];by_cases x:i<(hi-lo).toNat
   ·rw [if_pos x,A3 ∎]
   ·rw [if_neg x]
 ·rw [if_neg ∎];split
  ·rw [A3 ∎]
  ·rfl
def Fu (a:0<=lo) (h2:lo<=hi):((fB ns (some lo) (some hi)).length:Int)<=hi-lo:=by
 rw [qF a h2,t9];omega
section
variable {N:Cn} {c:Nat->Addr} {f:Addr} {fd:FuncData}
def DC (G:bH P w K mg base (fS P w) 6 f fd ps (vZ N.CB N.CP (c 1) N.T1)):bH P w K mg base (fS P w) 6 f fd ps (gY N c KM R0):=by
 refine G.imp λvs H Q E h=>?_;let (M,A,s,t,as,rfl,g,lt,(x,i,rfl,Z,J),hE,q):=h;let hl:=g.iv.ct;refine {A.b,A.pw,A.sh,A.d,M.sp,M.ev,M.le,s.nn,s.nt,s.mo,i,x,A.ps,s.cs,rfl,g.bv.bk,∎,g.iv.nm,λc l=>(g.iv.nl c l).2,Z,g.bv.t1,λ_ j Y=>hE 1 j 7#0 Y,λv no j U n=>?_,λv k p y r j C l X F n B hr=>?_,λv k p y q' r D j nf nl C l be h2 a0 F n B hr=>?_}
 ·let (L,m):=g.bv.keepT U (.inl {(rfl),n});exact q .non A.ps s j m {(L),g.iv.up,g.wg,g.l1,g.e1} {(rfl),rfl}
 ·let (m,z,I):=g.bv.stepS C λa o e S _ T O=>F a o e S T O;exact q _ A.ps { s with nt:=s.nt+1,mo:=i,cs:=s.cs.set k { y with o:=some (s.nt,x,i+M.sp) } } j m {{(B),I,n,z,g.bv.dd,g.bv.tt},(g.iv.lendK l (g.iv.low X).2 v J).up,g.wg,g.l1,g.e1} {(rfl),rfl}
 ·let (m,z,I):=g.bv.stepS C F;let l1:=g.l1;refine q _ (A.ps++[q']) { s with nn:=s.nn+1,nt:=s.nt+1,mo:=i,cs:=s.cs.set k { y with h:=D }++[{s.nn,D,y.h,D,some (s.nt,x,i+M.sp)}] } j m {{(B),I,n,z,g.bv.dd,g.bv.tt},g.iv.cutK l ∎ ∎ (λu e=>?_) ∎ v,g.wg,g.l1,g.e1} {(rfl),rfl};cases e;exact {q0 _,by show s.nt<s.nt+1;omega,q0 _,J}
def DE (G:bH P w K mg base (fS P w) 4 f fd ps (Du N.CB N.CP (c 1) (c 2) (c 3))):bH P w K mg base (fS P w) 4 f fd ps (gY N c EC R0):=by
 refine G.imp λY H Q E h=>?_;let (M,A,s,t,S,rfl,g,X,(B,i,rfl),n,q):=h;refine {A.b,A.pw,A.sh,A.d,M.sp,M.ev,M.le,s.nn,s.nt,s.mo,A.ps,s.cs,.int B,.int i,rfl,g.bv.bk,.kn (.int _),.kn (.int _),g.iv.nm,λ_=>n 1 H 7#0 (aJ.refl _),λ_ _=>n 2 H 7#0 (aJ.refl _),λ_ _ _ _ _ _ j J=>n 3 j 7#0 J,λT I O D Z _ _ k p F r v U _ j u C=>?_};cases O;let (x,z,L):=g.bv.stepS r λa o e l _ m _=>u a o e l m;let y:=g.bv.stepT r λa o e l _ m _=>u a o e l m;exact q _ A.ps { s with mo:=i,cs:=s.cs.set k { F with o:=none } } j x {{(C),L,y,z,g.bv.dd,g.bv.tt},(g.iv.backK v D).up,g.wg,g.l1,g.e1} {(rfl),rfl}
def HM (G:bH P w K mg base (fS P w) 5 f fd ps (Ko N.CB N.CP (c 6) (c 7))):bH P w K mg base (fS P w) 5 f fd ps (gY N c EC R0):=by
 refine G.imp λvs H Q E h=>?_;let (M,A,s,t,X,rfl,g,Z,(n,i,rfl),z,q):=h;let Y:=g.iv.ct;refine {A.b,A.pw,A.sh,A.d,M.sp,M.ev,M.le,s.nn,s.nt,s.mo,A.ps,s.cs,.int n,.int i,rfl,g.bv.bk,.kn (.int _),.kn (.int _),g.iv.nm,λc j=>(g.iv.nl c j).2,∎,λ_=>z 6 H 7#0 (aJ.refl _),λk p y v j _=>{λS F L B _ U D x O=>?_,λ_=>z 7 H 7#0 (aJ.refl _)}};cases F;let (C,J,T):=g.bv.stepS v λa o e l r m _=>x a o e l r m;let I:=g.bv.stepT v λa o e l r m _=>x a o e l r m;exact q _ (A.ps++[U]) { s with nn:=s.nn+1,cs:=s.cs.set k { y with h:=i }++[{(s.nn),i,y.h,i,none}] } D C {{(O),T,I,J,g.bv.dd,g.bv.tt},g.iv.cutK j L B (λu e=>nomatch e) (q0 _) (q0 _),g.wg,g.l1,g.e1} {(rfl),rfl}
def DD (G:bH P w K mg base (fS P w) 5 f fd ps (Kl N.CB N.CP (c 6) (c 8))):bH P w K mg base (fS P w) 5 f fd ps (gY N c KN R0):=by
 refine G.imp λvs H Q E h=>?_;let (M,A,s,t,Z,rfl,g,lt,(n,rfl),v,q):=h;refine {A.b,A.pw,A.sh,A.d,M.sp,M.ev,M.le,s.nn,s.nt,s.mo,A.ps,s.cs,.int n,rfl,g.bv.bk,.kn (.int _),g.iv.nm,λi j x y L I e=>g.iv.oneLow L I e,λ_=>v 6 H 7#0 (aJ.refl _),λk p U z C _=>{λ_ l u=>v 8 l 7#0 u,λj e O X=>{λ_ l u=>v 8 l 7#0 u,λT l B S=>?_}}};let (D,J,Y):=g.bv.stepS z λa o e _ r m _=>B a o e r m;let F:=g.bv.stepT z λa o e _ r m _=>B a o e r m;exact q _ (A.ps.eraseIdx j) { s with cs:=(s.cs.set k { U with h:=e.h }).eraseIdx j } l D {{(S),Y,F,J,g.bv.dd,g.bv.tt},(g.iv.joinK C O X T).up,g.wg,g.l1,g.e1} {(rfl),rfl}
def MB (cs:List Pc) (tk:Int):(∀c ∈ cs,c.has tk=false)\/∃(k:Nat) (c:Pc),cs[k]?=some c/\c.has tk=true:=by
 by_cases z:∃c ∈ cs,c.has tk=true
 ·let (c,a,e):=z;let (k,d,b):=B0 a;exact .inr {k,c,by rw [<- b];exact i3 d,e}
 ·exact .inl λc a=>F4.mpr λe=>z {(c),a,e}
def DB (G:bH P w K mg base (fS P w) 5 f fd ps (pR N.CB N.CS N.CP (c 1) (c 2) (c 3) (c 4) (c 5))):bH P w K mg base (fS P w) 5 f fd ps (gY N c KL RT):=by
 refine G.imp λvs H Q E h=>?_;let (M,A,s,t,as,rfl,g,lt,(F,x,i,X,ns,rfl,hn,ln,p4,p5),Y,q):=h;let C:(∀(k:Nat) (p:Addr) (v:Pc),s.mo<=i->0<=F->F<s.nt->A.ps[k]?=some p->s.cs[k]?=some v->v.has F=true->¬ (v.l<=x/\x<=v.m))->pR N.CB N.CS N.CP (c 1) (c 2) (c 3) (c 4) (c 5) [.ref A.b,.int F,.int x,.ref X,.int i] H Q E:=λno=>by
  refine .inl (.inr {A.b,A.pw,A.sh,A.d,M.sp,M.ev,M.le,s.nn,s.nt,s.mo,A.ps,s.cs,.int F,.int x,.ref X,.int i,rfl,g.bv.bk,.kn (.int _),.kn (.int _),.kn (.int _),λ_=>Y 1 H 7#0 (aJ.refl _),λ_ _=>Y 2 H 7#0 (aJ.refl _),λ_ _ _ _ _ _ I T=>Y 3 I 7#0 T,λum a3 et h0 h1 k p v J B D _=>{?_,λI T=>Y 4 I 7#0 T}});cases et;exact decide_eq_false (no k p v (of_decide_eq_true um) h0 h1 J B D)
 by_cases hi:s.mo<=i;rotate_left
 ·exact C λk p v z=>absurd z hi
 rcases MB s.cs F with no|⟨k,v,B,D⟩
 ·exact C λk p v _ _ _ _ B D=>by rw [no v (j8 B)] at D;cases D
 let Z:=j8 B;let (u,eo,eu):=nO D;let O:=g.iv.op v Z u eo;rw [eu] at O;let J:∃p,A.ps[k]?=some p:=by
  have:=g.bv.bk.pc.length;have:=(i5.mp B).1;exact {A.ps[k],i3 ∎}
 let (p,J):=J;by_cases a0:v.l<=x/\x<=v.m;rotate_left
 ·refine C λk' p' a4 _ _ _ _ L a2=>?_;have:=g.iv.oneTk B L D a2;subst this;rw [B] at L;cases L;exact a0
 let (p1,p2):=a0;let bd:=g.iv.bnd g.wg Z;let lc:=g.iv.lm v Z;let S:∀(j:Nat) n,ns[j]?=some n->x+(j:Int)<v.m->cH s.kv (Sum.inl (x+(j:Int)):bK)=some (.int (s.vf (x+(j:Int)))):=λj n _ l=>g.iv.val Z ∎ l;by_cases p3:x+ns.length<=v.m+M.ev;rotate_left
 ·exact .inr {A.b,A.pw,A.sh,A.d,A.pw',A.d',X,M.sp,M.ev,M.le,s.nn,s.nt,s.mo,F,i,x,A.ps,s.cs,k,p,v,M.ws,s.kv,ns,rfl,g.bv.bk,g.bv.st,hi,O.1,O.2.1,J,B,D,λj e U l=>g.iv.oneTk' B D j e U l,hn,ln,p1,p2,p4,p5,λj n e l=>{_,S j n e l},.inl { ∎,λI T=>Y 4 I 7#0 T}}
 by_cases al:∀(j:Nat) n,ns[j]?=some n->x+(j:Int)<v.m->n=s.vf (x+(j:Int));rotate_left
 ·refine .inr {A.b,A.pw,A.sh,A.d,A.pw',A.d',X,M.sp,M.ev,M.le,s.nn,s.nt,s.mo,F,i,x,A.ps,s.cs,k,p,v,M.ws,s.kv,ns,rfl,g.bv.bk,g.bv.st,hi,O.1,O.2.1,J,B,D,λj e U l=>g.iv.oneTk' B D j e U l,hn,ln,p1,p2,p4,p5,λj n e l=>{_,S j n e l},.inr {p3,?_,λI T=>Y 5 I 7#0 T}};apply Classical.byContradiction;intro z;refine al λj n e l=>Classical.byContradiction λy=>z {j,n,_,e,l,S j n e l,y}
 let fl:=Fu (ns:=ns) (lo:=v.m-x) (hi:=v.h-x) ∎ ∎;let (wq,a1,w1,w2):=g.iv.inw g.wg Z;let lw:=g.wg.ln;let lk:=g.iv.kvl;refine .inl (.inl {A.b,A.pw,A.sh,A.d,A.pw',A.d',X,M.sp,M.ev,M.le,s.nn,s.nt,s.mo,F,i,x,A.ps,s.cs,k,p,v,M.ws,s.kv,ns,rfl,g.bv.bk,g.bv.st,hi,O.1,O.2.1,J,B,D,λj e U l=>g.iv.oneTk' B D j e U l,hn,ln,p1,p2,p3,p4,p5,λj n e l=>by rw [S j n e l,<- al j n e l],g.iv.nm,g.bv.dd,∎,∎,{ ∎,∎,{wq,a1,∎,∎},λj U=>g.iv.hd.noV (g.iv.fresh B ∎ ∎)},λr I fr bk st hr=>?_});let (kp,t2,_,_):=g.bv.step J λa o e n1 _ n3 _ n5=>fr a o e n1 n3 n5;let t1:=g.bv.stepT J λa o e n1 _ n3 n5=>fr a o e n1 n3 n5;let iv:=g.iv.told (fr:=fB ns (some (v.m-x)) (some (v.h-x))) (i:=i) g.wg B ∎ hi;refine q _ A.ps _ I kp {{(bk),st,t1,t2,g.bv.dd,g.bv.tt},iv.up,g.wg,g.l1,g.e1} ?_;exact {F,x,i,X,r,ns,_,k,v,_,_,rfl,hn,B,D,p2,rfl,∎,rfl,hr,rfl,rfl}
end
section
variable (W:Wd P w K mg base N c)
include W
def Om:eH P w K mg base (fS P w) N.CB "lend" 6 (gY N c KM R0):=(yO W).to DC
def Ol:eH P w K mg base (fS P w) N.CB "tell" 5 (gY N c KL RT):=(Ho W).to DB
def Oo:eH P w K mg base (fS P w) N.CB "give_back" 4 (gY N c EC R0):=(Op W).to DE
def Vd:eH P w K mg base (fS P w) N.CB "cut" 5 (gY N c EC R0):=(Ve W).to HM
def On:eH P w K mg base (fS P w) N.CB "join" 5 (gY N c KN R0):=(Uz W).to DD
end
def jF:List Str:=["BadWorker","BadMoment","NoLending","Lost","BadTelling","Otherwise","NoPiece","BadCut","BadJoin"]
def sY (j i:Nat):List Str:=if j<i then [jF.getD j ""] else []
def zE (j i:Nat):(sY j i).length<=1:=by unfold sY;split <;> simp
def vC (h:jF[i]?=some wd):sY j (i+1)=sY j i++(List.replicate (if decide (i=j)=true then(1:Int) else 0).toNat [wd]).flatten:=by
 unfold sY;by_cases e:i=j
 ·subst e;rw [if_pos (Q6 _),if_neg (A5 _),A1,h];simp
 ·by_cases z:j<i
  ·rw [if_pos z,if_pos ∎];simp [e]
  ·rw [if_neg z,if_neg ∎];simp [e]
inductive HY (K:Frag) (c:Nat->Addr) (ea:Addr) (vs:List V) (H:Hp) (Q:VK) (E0_:XK):Prop|mk (C:Addr) (j:Nat) (_:vs=[.ref ea]) (_:H ea=some (lY ea C)) (_:KP K c C j) (_:j<9) (_:∀H',aJ H H'->Q (.str (jF.getD j "")) H')
def JE (K:Frag) (c:Nat->Addr) (ea:Addr):Sp:=HY K c ea
def Eo (n:Nat) (wd:Str):(List.replicate n [V.str wd]).flatten=((List.replicate n [wd]).flatten).map V.str:=by
 rw [List.map_flatten,List.map_replicate];rfl
def IC (ea:Addr) (H:Hp) (j i:Nat):St->Hp->Prop:=λσ G=>∃(l:Addr) (u v:Option V),σ=[some (.ref ea),some (.ref l),u,v]/\aJ H G/\G l=some (.lst ((sY j i).map V.str))
def iV (P:St->Hp->Prop) (e:∀nx,(∀d b,P d b->nx d b)->a { D with nx:=nx } σ H) (h2:∀d b,P d b->r D d b):Kb a r D σ H:=e _ h2
def Fk {f C y t z l:Addr} {i0 j:Nat} {w1 w2:Str} {u v:Option V} {H:Hp} {D:eM} (E:H f=some (lY f C)) (X:H z=some (.lst [.ref y,.ref t])) (g1:H y=some (.tup [.str w1,.bl (decide (i0=j))])) (g2:H t=some (.tup [.str w2,.bl (decide (i0+1=j))]))
  (n:H l=some (.lst ((sY j i0).map V.str))) (e1:jF[i0]?=some w1) (Y:jF[i0+1]?=some w2) (q:∀l u v d,aJ H d->d l=some (.lst ((sY j (i0+2)).map V.str))->D.nx [some (.ref f),some (.ref l),u,v] d):
  ∃W:Nat->Nat->St->Hp->Prop,(∃m,W 0 m [some (.ref f),some (.ref l),u,v] H)/\∀i m σ H,W i m σ H ->
   ((Ac K f C z).stop i H/\D.nx σ H)\/((Ac K f C z).go i H/\∃N:St->Hp->Prop,(∀L d,N L d->∃F,F<m/\W (i+1) F L d)/\∀x d,(Ac K f C z).yld i H x d->(Yw K f C 2 (sV (cS 2) (sV (cS 3) Vw))) x σ d λU H2=>(Gw (Jm GK (iU 1) (Jm GG (FH (iE (iU 2) mJ)) (FM (λxs H Q=>(∃i,xs=[.int i]/\Q (.int i) H)\/∃k,xs=[.bl k]/\Q (.int (if k then 1 else 0)) H) (iE (iU 3) mJ)))) (cS 1)) { D with nx:=N,ct:=N,bk:=D.nx } U H2):=by
 refine Io (xs:=[.ref y,.ref t]) (λi σ G=>∃l u v,σ=[some (.ref f),some (.ref l),u,v]/\aJ H G/\G l=some (.lst ((sY j (i0+i)).map V.str))) {l,u,v,rfl,λ_ _ e=>e,n} (λi σ G _ h=>?_) (λi x σ G o h=>?_) (λσ G h=>?_)
 ·let (l,u,v,rfl,g,_):=h;exact {cM.of (g _ _ X),g _ _ E}
 ·let (l,u,v,rfl,g,n):=h;let A:∃a s,x=.ref a/\H a=some (.tup [.str s,.bl (decide (i0+i=j))])/\jF[i0+i]?=some s:=by
   match i,o with
   | 0,o=>cases o;exact {(y),w1,rfl,g1,e1}
   | 1,o=>cases o;exact {(t),w2,rfl,g2,Y}
  let (a,s,rfl,ha,O):=A;refine {g _ _ E,a,_,rfl,cG.of (g _ _ ha),rfl,_,_,rfl,_,_,rfl,rfl,?_};refine {_,rfl,_,rfl,by show 1<=sizeLine;decide,λb nb=>?_};let (G1,B,I,S):=jJ nb (.lst [.str s]);rw [B];let fl:=zE j (i0+i);let sl:sizeLine=16777216:=sizeLine_eq;refine {_,rfl,.inr {_,rfl,b,_,_,rfl,rfl,S,by split <;> decide,by split <;> decide,by split <;> (show 1 * _<=sizeLine;rw [sl];decide),λp T=>?_}};let (G2,B,J,M):=jJ T (.lst (List.replicate (if decide (i0+i=j)=true then(1:Int) else 0).toNat [V.str s]).flatten);rw [B];refine {l,p,_,_,rfl,rfl,J _ _ (I _ _ n),M,?_,λr Z=>?_}
  ·rw [i6,wV];have:(if decide (i0+i=j)=true then(1:Int) else 0).toNat<=1:=by split <;> decide
   show _+_ * 1<=_;omega
  ·exact {r,_,_,rfl,g.trans (I.trans (J.trans (aI Z))),by rw [aB,show i0+(i+1)=i0+i+1 from rfl,vC O,u7,Eo]}
 ·let (l,u,v,rfl,g,n):=h;exact q l u v G g n
def dJ:aK ["_law_e","_law_found","_law_word","_law_good"] ["_law_e"] (aG Ee):=2#0
def Hl (W:3#0):LZ P w K mg base "_law_word_of" 1 (JE K c):=W.d20.ofH λF=>by
 refine F.okH dJ (λd vs H Q E h=>?_) (λaa A a4 s H vs Q d hr h=>?_)
 ·let (C,j,rfl,_):=h
  rfl
 ·let (C,j,rfl,f,N,hj,t):=h
  let I:=hr.hd
  refine {_,(aD (bT (i:=1) dJ.nd rfl (j9 rfl) (dU aC))
   (aD (pV v7 (mV (h:=d) (C:=C) I (dU (aA (bL (aA bC (aA (aY (r:=rQ K) cA (by rfl) W.G.isi dF (aA (pv 0) (aA (fZ (v:=.ref (c 0)) (by rfl) W.W.m0 rfl) aC))) aC))) (aA (bL (aA bC (aA (aY (r:=rQ K) cA (by rfl) W.G.isi dF (aA (pv 0) (aA (fZ (v:=.ref (c 1)) (by rfl) W.W.m1 rfl) aC))) aC))) aC)))) (pY (h:=d) (C:=C) (n:=2) I (bA (aM (i:=2) dJ.nd rfl (j9 rfl)) (bA (aM (i:=3) dJ.nd rfl (j9 rfl)) dO)))
    (aH (bT (i:=1) dJ.nd rfl (j9 rfl) (bO jS (pv 1) (bO rY (dU (aA (pv 2) aC)) (bZ fG (by rfl) W.G.int kE (aA (pv 3) aC)))))))
   (aD (pV v7 (mV (h:=d) (C:=C) I (dU (aA (bL (aA bC (aA (aY (r:=rQ K) cA (by rfl) W.G.isi dF (aA (pv 0) (aA (fZ (v:=.ref (c 2)) (by rfl) W.W.m2 rfl) aC))) aC))) (aA (bL (aA bC (aA (aY (r:=rQ K) cA (by rfl) W.G.isi dF (aA (pv 0) (aA (fZ (v:=.ref (c 3)) (by rfl) W.W.m3 rfl) aC))) aC))) aC)))) (pY (h:=d) (C:=C) (n:=2) I (bA (aM (i:=2) dJ.nd rfl (j9 rfl)) (bA (aM (i:=3) dJ.nd rfl (j9 rfl)) dO)))
    (aH (bT (i:=1) dJ.nd rfl (j9 rfl) (bO jS (pv 1) (bO rY (dU (aA (pv 2) aC)) (bZ fG (by rfl) W.G.int kE (aA (pv 3) aC)))))))
   (aD (pV v7 (mV (h:=d) (C:=C) I (dU (aA (bL (aA bC (aA (aY (r:=rQ K) cA (by rfl) W.G.isi dF (aA (pv 0) (aA (fZ (v:=.ref (c 4)) (by rfl) W.W.m4 rfl) aC))) aC))) (aA (bL (aA bC (aA (aY (r:=rQ K) cA (by rfl) W.G.isi dF (aA (pv 0) (aA (fZ (v:=.ref (c 5)) (by rfl) W.W.m5 rfl) aC))) aC))) aC)))) (pY (h:=d) (C:=C) (n:=2) I (bA (aM (i:=2) dJ.nd rfl (j9 rfl)) (bA (aM (i:=3) dJ.nd rfl (j9 rfl)) dO)))
    (aH (bT (i:=1) dJ.nd rfl (j9 rfl) (bO jS (pv 1) (bO rY (dU (aA (pv 2) aC)) (bZ fG (by rfl) W.G.int kE (aA (pv 3) aC)))))))
   (aD (pV v7 (mV (h:=d) (C:=C) I (dU (aA (bL (aA bC (aA (aY (r:=rQ K) cA (by rfl) W.G.isi dF (aA (pv 0) (aA (fZ (v:=.ref (c 6)) (by rfl) W.W.m6 rfl) aC))) aC))) (aA (bL (aA bC (aA (aY (r:=rQ K) cA (by rfl) W.G.isi dF (aA (pv 0) (aA (fZ (v:=.ref (c 7)) (by rfl) W.W.m7 rfl) aC))) aC))) aC)))) (pY (h:=d) (C:=C) (n:=2) I (bA (aM (i:=2) dJ.nd rfl (j9 rfl)) (bA (aM (i:=3) dJ.nd rfl (j9 rfl)) dO)))
    (aH (bT (i:=1) dJ.nd rfl (j9 rfl) (bO jS (pv 1) (bO rY (dU (aA (pv 2) aC)) (bZ fG (by rfl) W.G.int kE (aA (pv 3) aC)))))))
   (aH (aU (oY PySem.F.plainAttrs_str PySem.F.slot_str_join PySem.F.type_str_join Vg bC (aA (bO jS (pv 1) (bO rY (dU (aA bC aC)) (bZ fG (by rfl) W.G.int kE (aA (aY (r:=rQ K) cA (by rfl) W.G.isi dF (aA (pv 0) (aA (fZ (v:=.ref (c 8)) (by rfl) W.W.m8 rfl) aC))) aC)))) aC))))))))),?_}
  refine iV (IC d H j 0) (λnx z=>{l7 _,λl0 hl=>z _ _ {l0,_,_,rfl,aI hl,aB}}) λσ0 H0 h0=>?_
  let (l0,u0,v0,rfl,s0,a0):=h0
  refine iV (IC d H j 2) (λnx z=>?_) λσ1 H1 h1=>?_
  ·let f:=s0 _ _ f
   refine {_,rfl,_,_,_,_,rfl,.ref (c 0),.inr {d,C,rfl,f,N.e,N.n 0 7#0},by show 2<=sizeLine;decide,λL S=>?_}
   let (Z,a,m,U):=jJ S (.tup [.str "BadWorker",.bl (decide (0=j))])
   rw [a]
   refine {_,rfl,_,_,_,_,rfl,.ref (c 1),.inr {d,C,rfl,m _ _ f,N.e,N.n 1 7#0},by show 2<=sizeLine;decide,λJ T=>?_}
   let (G2,a,q,O):=jJ T (.tup [.str "BadMoment",.bl (decide (1=j))])
   rw [a]
   refine {by show 2<=sizeLine;decide,λX M=>?_}
   let (Y,a,g,x):=jJ M (.lst [.ref L,.ref J])
   rw [a]
   let o:=m.trans (q.trans g)
   exact {X,rfl,{_,cM.of x},Fk (i0:=0) (w1:="BadWorker") (w2:="BadMoment") (l:=l0) (o _ _ f) x (g _ _ (q _ _ U)) (g _ _ O) (o _ _ a0) rfl rfl λl u v D B k=>z _ _ {l,u,v,rfl,s0.trans (o.trans B),k}}
  let (l1,u1,v1,rfl,s1,a5):=h1
  refine iV (IC d H j 4) (λnx z=>?_) λσ2 H2 h2=>?_
  ·let f:=s1 _ _ f
   refine {_,rfl,_,_,_,_,rfl,.ref (c 2),.inr {d,C,rfl,f,N.e,N.n 2 7#0},by show 2<=sizeLine;decide,λL S=>?_}
   let (Z,a,m,U):=jJ S (.tup [.str "NoLending",.bl (decide (2=j))])
   rw [a]
   refine {_,rfl,_,_,_,_,rfl,.ref (c 3),.inr {d,C,rfl,m _ _ f,N.e,N.n 3 7#0},by show 2<=sizeLine;decide,λJ T=>?_}
   let (G2,a,q,O):=jJ T (.tup [.str "Lost",.bl (decide (3=j))])
   rw [a]
   refine {by show 2<=sizeLine;decide,λX M=>?_}
   let (Y,a,g,x):=jJ M (.lst [.ref L,.ref J])
   rw [a]
   let o:=m.trans (q.trans g)
   exact {X,rfl,{_,cM.of x},Fk (i0:=2) (w1:="NoLending") (w2:="Lost") (l:=l1) (o _ _ f) x (g _ _ (q _ _ U)) (g _ _ O) (o _ _ a5) rfl rfl λl u v D B k=>z _ _ {l,u,v,rfl,s1.trans (o.trans B),k}}
  let (l2,u2,v2,rfl,s2,a9):=h2
  refine iV (IC d H j 6) (λnx z=>?_) λσ3 H3 h3=>?_
  ·let f:=s2 _ _ f
   refine {_,rfl,_,_,_,_,rfl,.ref (c 4),.inr {d,C,rfl,f,N.e,N.n 4 7#0},by show 2<=sizeLine;decide,λL S=>?_}
   let (Z,a,m,U):=jJ S (.tup [.str "BadTelling",.bl (decide (4=j))])
   rw [a]
   refine {_,rfl,_,_,_,_,rfl,.ref (c 5),.inr {d,C,rfl,m _ _ f,N.e,N.n 5 7#0},by show 2<=sizeLine;decide,λJ T=>?_}
   let (G2,a,q,O):=jJ T (.tup [.str "Otherwise",.bl (decide (5=j))])
   rw [a]
   refine {by show 2<=sizeLine;decide,λX M=>?_}
   let (Y,a,g,x):=jJ M (.lst [.ref L,.ref J])
   rw [a]
   let o:=m.trans (q.trans g)
   exact {X,rfl,{_,cM.of x},Fk (i0:=4) (w1:="BadTelling") (w2:="Otherwise") (l:=l2) (o _ _ f) x (g _ _ (q _ _ U)) (g _ _ O) (o _ _ a9) rfl rfl λl u v D B k=>z _ _ {l,u,v,rfl,s2.trans (o.trans B),k}}
  let (l3,u3,v3,rfl,s3,a7):=h3
  refine iV (IC d H j 8) (λnx z=>?_) λσ4 H4 h4=>?_
  ·let f:=s3 _ _ f
   refine {_,rfl,_,_,_,_,rfl,.ref (c 6),.inr {d,C,rfl,f,N.e,N.n 6 7#0},by show 2<=sizeLine;decide,λL S=>?_}
   let (Z,a,m,U):=jJ S (.tup [.str "NoPiece",.bl (decide (6=j))])
   rw [a]
   refine {_,rfl,_,_,_,_,rfl,.ref (c 7),.inr {d,C,rfl,m _ _ f,N.e,N.n 7 7#0},by show 2<=sizeLine;decide,λJ T=>?_}
   let (G2,a,q,O):=jJ T (.tup [.str "BadCut",.bl (decide (7=j))])
   rw [a]
   refine {by show 2<=sizeLine;decide,λX M=>?_}
   let (Y,a,g,x):=jJ M (.lst [.ref L,.ref J])
   rw [a]
   let o:=m.trans (q.trans g)
   exact {X,rfl,{_,cM.of x},Fk (i0:=6) (w1:="NoPiece") (w2:="BadCut") (l:=l3) (o _ _ f) x (g _ _ (q _ _ U)) (g _ _ O) (o _ _ a7) rfl rfl λl u v D B k=>z _ _ {l,u,v,rfl,s3.trans (o.trans B),k}}
  let (l4,u4,v4,rfl,s4,a8):=h4
  let a6:=s4 _ _ f
  let t4:∀D,aJ H4 D->Q (.str (jF.getD j "")) D:=λD B=>t D (s4.trans B)
  let sl:sizeLine=16777216:=sizeLine_eq
  refine {rfl,_,rfl,by show 1<=sizeLine;decide,λb nb=>?_}
  let (Z,a,m,b1):=jJ nb (.lst [.str "BadJoin"])
  rw [a]
  refine {_,rfl,_,_,_,_,rfl,.ref (c 8),.inr {d,C,rfl,m _ _ a6,N.e,N.n 8 7#0},.inr {_,rfl,b,_,_,rfl,rfl,b1,by split <;> decide,by split <;> decide,by split <;> (show 1 * _<=sizeLine;rw [sl];decide),λp np=>?_}}
  let (G2,a,q,b2):=jJ np (.lst (List.replicate (if decide (8=j)=true then(1:Int) else 0).toNat [V.str "BadJoin"]).flatten)
  rw [a]
  let le:(if decide (8=j)=true then(1:Int) else 0).toNat<=1:=by split <;> decide
  let fl:=zE j 8
  refine {l4,p,_,_,rfl,rfl,q _ _ (m _ _ a8),b2,?_,λr nr=>?_}
  ·rw [i6,wV]
   show _+_ * 1<=_
   omega
  let (Y,a,g,b3):=jJ nr (.lst ((sY j 8).map V.str++(List.replicate (if decide (8=j)=true then(1:Int) else 0).toNat [V.str "BadJoin"]).flatten))
  rw [a]
  rw [Eo,<- u7,<- vC (i:=8) (wd:="BadJoin") rfl,sY,if_pos hj] at b3
  refine {_,r,[jF.getD j ""],rfl,rfl,cM.of b3,?_,?_}
  ·exact(by decide +kernel:∀j,j<9->(List.map (λy:Str=>y.length) [jF.getD j ""]).sum + [jF.getD j ""].length * (" ":Str).length<=16777216) j hj
  ·let e:Txt.join " " [jF.getD j ""]=jF.getD j "":=rfl
   rw [e]
   exact t4 _ (m.trans (q.trans g))
inductive Dg (H:Hp):Str->List V->Prop where
 | lend {as:List V} (h:KM H as):Dg H "lend" as
 | tell {as:List V} (h:KL H as):Dg H "tell" as
 | back {as:List V} (h:EC H as):Dg H "back" as
 | cut {as:List V} (h:EC H as):Dg H "cut" as
 | join {as:List V} (h:KN H as):Dg H "join" as
inductive Rf (N:Cn) (vs:List V) (H:Hp) (Q:VK) (E0_:XK):Prop|mk (M:Pm) (A:Ad) (s:S8) (t:Nat) (way:Str) (a:Addr) (as:List V) (_:vs=[.ref A.b,.str way,.ref a]) (_:H a=some (.tup as)) (_:Go N M t H A s) (_:t<500) (_:Dg H way as) (_:∀(r:Addr) (told:V) (wd:Str) (ps':List Addr) (s':S8) (H':Hp),fX A.d A.d' H H'->Go N M (t+1) H' { A with ps:=ps' } s'->H' r=some (.tup [told,.str wd])->((way="tell"/\RT H as told H' s s')\/((way≠"tell"\/told=.non)/\R0 H as told H' s s'))->Q (.ref r) H')
def Ss (N:Cn):Sp:=Rf N
def gF (h:a≠b):decide (V.str a=V.str b)=false:=decide_eq_false λz=>h (V.str.inj z)
def oW:decide (V.str a=V.str a)=true:=decide_eq_true rfl
def Lh (a:H r=none):aJ H (upd H r (.tup xs))/\(upd H r (.tup xs)) r=some (.tup xs):={aI a,aB}
def fI:aK ["_law_book","_law_way","_law_asked_here","_law_told","_law_word","_law_e"] ["_law_book","_law_way","_law_asked_here"] (aG Lj):=2#0
def Nr (W:3#0):kI P w K mg base dI "_law_tried" 7 (Ss N):=W.d21.of λF=>by
 let (_,_,_,GW,kW,bW,mW):=(Hl W).ex
 refine F.ok fI 11#0 (λa6 A a3 s H vs Q E hr h=>?_)
 ·let (M,A,s,t,a0,a,as,rfl,_):=h
  rfl
 let (M,D,Z,t,a0,a,as,rfl,Y,g,lt,a5,q):=h
 let (dx,U):=g.bv.bk.ob
 refine {_,aD (bT (i:=3) fI.nd rfl (j9 rfl) eU) (aD (bT (i:=4) fI.nd rfl (j9 rfl) bC) (aD (Ug (i:=5) (wk:=id) (λσ h=>{h,Le.refl σ}) rfl fI.nd rfl rfl {(rfl),rfl} (by rfl) W.L
   (λpn xe E σw hp=>aH (bV (bS iL (pv 1) bC (bE _)) (aH (bT (i:=3) fI.nd rfl (j9 rfl) (gJ (pv 0) W.B.cl (Om W) hr hp (aA (bY (r:=gO K) bQ (pv 2) aR 12#0) (aA (bY (r:=gO K) bQ (pv 2) aR 12#0) aC)))))
    (aH (bV (bS iL (pv 1) bC (bE _)) (aH (bT (i:=3) fI.nd rfl (j9 rfl) (gJ (pv 0) W.B.cl (Ol W) hr hp (aA (bY (r:=gO K) bQ (pv 2) aR 12#0) (aA (bY (r:=gO K) bQ (pv 2) aR 12#0) (aA (bY (r:=gO K) bQ (pv 2) aR 12#0) (aA (bY (r:=gO K) bQ (pv 2) aR 12#0) aC)))))))
    (aH (bV (bS iL (pv 1) bC (bE _)) (aH (bT (i:=3) fI.nd rfl (j9 rfl) (gJ (pv 0) W.B.cl (Oo W) hr hp (aA (bY (r:=gO K) bQ (pv 2) aR 12#0) (aA (bY (r:=gO K) bQ (pv 2) aR 12#0) aC)))))
    (aH (bV (bS iL (pv 1) bC (bE _)) (aH (bT (i:=3) fI.nd rfl (j9 rfl) (gJ (pv 0) W.B.cl (Vd W) hr hp (aA (bY (r:=gO K) bQ (pv 2) aR 12#0) (aA (bY (r:=gO K) bQ (pv 2) aR 12#0) aC)))))
    (aH (bT (i:=3) fI.nd rfl (j9 rfl) (gJ (pv 0) W.B.cl (On W) hr hp (aA (bY (r:=gO K) bQ (pv 2) aR 12#0) aC))))))))))))
   (λz=>aH (bT (i:=4) fI.nd rfl (j9 rfl) (Nk (h:=z) GW ((hr.suite z).mono 7#0) rfl mW kW bW .nil (aA (pv 5) aC))))) (aH (aU (bL (aA (pv 3) (aA (pv 4) aC))))))),?_}
 have G:∀(v:V) (m:List Addr) (l:S8) (f:Hp),fX D.d D.d' H f->Go N M (t+1) f { D with ps:=m } l->((a0="tell"/\RT H as v f Z l)\/((a0≠"tell"\/v=.non)/\R0 H as v f Z l))->∀(wd:Str) (r:Addr),f r=none->Q (.ref r) (upd f r (.tup [v,.str wd])):=λv m l f O T o wd r u=>by
  let (s2,e2):=Lh (xs:=[v,.str wd]) u
  refine q r v wd m l _ (O.trans (fX.of s2)) (T.same s2) e2 ?_
  rcases o with ⟨e,o⟩|o
  ·let (tk,pl,i,a1,q',ns,fr,k,pc,x,y,h1,h2,h3,h4,h5,h6,h7,h8,h9,a2,a4):=o
   exact .inl {e,tk,pl,i,a1,q',ns,fr,k,pc,x,y,h1,h2,h3,h4,h5,h6,h7,h8,s2 _ _ h9,a2,a4}
  ·exact .inr o
 have S:∀(j:Nat) (f:Hp),j<9->aJ H f->∀z,f z=none->∀C,aJ (upd f z (lY z (c j))) C->∀(wd:Str) (r:Addr),C r=none->Q (.ref r) (upd C r (.tup [.non,.str wd])):=λj f p l z I C J=>
  G .non D.ps Z C (fX.of (l.trans ((aI I).trans J))) (g.up.same (l.trans ((aI I).trans J))) (.inr {.inr rfl,rfl,rfl})
 cases a5 with
 | lend ok=>
  let (x,i,rfl,wx,sx):=id ok
  refine {_,rfl,rfl,_,rfl,dX oW {Le.refl _,_,rfl,D.b,dx,_,rfl,U,rfl,_,rfl,a,_,_,_,rfl,rfl,cG.of Y,rfl,_,rfl,a,_,_,_,rfl,rfl,cG.of Y,rfl,M,D,Z,t,_,rfl,g,lt,ok,λj f p l=>{c j,rfl,W.E j p,λz I=>?_},λv m l f O T o=>?_}}
  ·exact {_,rfl,c j,j,rfl,aB,W.X j p,p,λC J=>{_,rfl,_,rfl,by show 2<=sizeLine;decide,λr u=>S j f p l z I C J _ r u}}
  ·exact {_,rfl,_,rfl,by show 2<=sizeLine;decide,λr u=>G v m l f O T (.inr {.inl ⋯,o}) _ r u}
 | tell ok=>
  let (tk,pl,i,u,ns,rfl,_):=id ok
  refine {_,rfl,rfl,_,rfl,dH (gF ⋯) {_,rfl,rfl,_,rfl,dX oW {Le.refl _,_,rfl,D.b,dx,_,rfl,U,rfl,_,rfl,a,_,_,_,rfl,rfl,cG.of Y,rfl,_,rfl,a,_,_,_,rfl,rfl,cG.of Y,rfl,_,rfl,a,_,_,_,rfl,rfl,cG.of Y,rfl,_,rfl,a,_,_,_,rfl,rfl,cG.of Y,rfl,M,D,Z,t,_,rfl,g,lt,ok,λj f p l=>{c j,rfl,W.E j p,λz I=>?_},λv m l f O T o=>?_}}}
  ·exact {_,rfl,c j,j,rfl,aB,W.X j p,p,λC J=>{_,rfl,_,rfl,by show 2<=sizeLine;decide,λr u=>S j f p l z I C J _ r u}}
  ·exact {_,rfl,_,rfl,by show 2<=sizeLine;decide,λr u=>G v m l f O T (.inl {(rfl),o}) _ r u}
 | back ok=>
  let (tk,i,rfl):=id ok
  refine {_,rfl,rfl,_,rfl,dH (gF ⋯) {_,rfl,rfl,_,rfl,dH (gF ⋯) {_,rfl,rfl,_,rfl,dX oW {Le.refl _,_,rfl,D.b,dx,_,rfl,U,rfl,_,rfl,a,_,_,_,rfl,rfl,cG.of Y,rfl,_,rfl,a,_,_,_,rfl,rfl,cG.of Y,rfl,M,D,Z,t,_,rfl,g,lt,ok,λj f p l=>{c j,rfl,W.E j p,λz I=>?_},λv m l f O T o=>?_}}}}
  ·exact {_,rfl,c j,j,rfl,aB,W.X j p,p,λC J=>{_,rfl,_,rfl,by show 2<=sizeLine;decide,λr u=>S j f p l z I C J _ r u}}
  ·exact {_,rfl,_,rfl,by show 2<=sizeLine;decide,λr u=>G v m l f O T (.inr {.inl ⋯,o}) _ r u}
 | cut ok=>
  let (tk,i,rfl):=id ok
  refine {_,rfl,rfl,_,rfl,dH (gF ⋯) {_,rfl,rfl,_,rfl,dH (gF ⋯) {_,rfl,rfl,_,rfl,dH (gF ⋯) {_,rfl,rfl,_,rfl,dX oW {Le.refl _,_,rfl,D.b,dx,_,rfl,U,rfl,_,rfl,a,_,_,_,rfl,rfl,cG.of Y,rfl,_,rfl,a,_,_,_,rfl,rfl,cG.of Y,rfl,M,D,Z,t,_,rfl,g,lt,ok,λj f p l=>{c j,rfl,W.E j p,λz I=>?_},λv m l f O T o=>?_}}}}}
  ·exact {_,rfl,c j,j,rfl,aB,W.X j p,p,λC J=>{_,rfl,_,rfl,by show 2<=sizeLine;decide,λr u=>S j f p l z I C J _ r u}}
  ·exact {_,rfl,_,rfl,by show 2<=sizeLine;decide,λr u=>G v m l f O T (.inr {.inl ⋯,o}) _ r u}
 | join ok=>
  let (n,rfl):=id ok
  refine {_,rfl,rfl,_,rfl,dH (gF ⋯) {_,rfl,rfl,_,rfl,dH (gF ⋯) {_,rfl,rfl,_,rfl,dH (gF ⋯) {_,rfl,rfl,_,rfl,dH (gF ⋯) {Le.refl _,_,rfl,D.b,dx,_,rfl,U,rfl,_,rfl,a,_,_,_,rfl,rfl,cG.of Y,rfl,M,D,Z,t,_,rfl,g,lt,ok,λj f p l=>{c j,rfl,W.E j p,λz I=>?_},λv m l f O T o=>?_}}}}}
  ·exact {_,rfl,c j,j,rfl,aB,W.X j p,p,λC J=>{_,rfl,_,rfl,by show 2<=sizeLine;decide,λr u=>S j f p l z I C J _ r u}}
  ·exact {_,rfl,_,rfl,by show 2<=sizeLine;decide,λr u=>G v m l f O T (.inr {.inl ⋯,o}) _ r u}
end
end Ls
namespace L2
open PySem PySem.Spec PySem.W
def bH.exS {ι:Type} {P:Program} {w:World} {K:Frag} {mg:Str->Option Value} {base:Heap} {CX:pK} {k:Nat} {f:Addr} {e:FuncData} {ps:List Str} {sp:ι->Sp} (F:∀i,bH P w K mg base CX k f e ps (sp i)):bH P w K mg base CX k f e ps (λb H Q E=>∃i,sp i b H Q E):=
 {λb H Q E ⟨i,q⟩=>(F i).len b H Q E q,λA a s H d m b Q E g j h l ⟨i,hs⟩=>(F i).run A a s H d m b Q E g j h l hs}
end L2
namespace Ls
open PySem L2 PySem.W
def dR (ds:Lm.Ps):List Int:=ds.flatMap λq=>cV q.1 (q.2-q.1).toNat
def eP (vf:Int->Int) (ks:List Int):List (bK × V):=ks.map λx=>((Sum.inl x:bK),V.int (vf x))
def nJ:dR (a++b)=dR a++dR b:=List.flatMap_append
def jU:x ∈ dR b↔Lm.mem b x:=by
 unfold dR Lm.mem;rw [List.mem_flatMap];constructor
 ·rintro⟨q,a,h⟩;have:=dC.mp h;exact {q,a,∎,∎}
 ·rintro⟨q,a,d,e⟩;exact {q,a,dC.mpr {d,∎}}
def vR (m:Int) (n:Nat):(cV m n).Pairwise (·<·):=List.Pairwise.map _ (λa b (z:a<b)=>∎) List.pairwise_lt_range
theorem qD:∀{a:Lm.Ps},Lm.Wk a->(dR a).Pairwise (·<·)
 | [],_=>J7
 | q::a,w=>by
  let e:dR (q::a)=cV q.1 (q.2-q.1).toNat++dR a:=by unfold dR;rw [List.flatMap_cons]
  rw [e,E2]
  refine {vR _ _,qD w.2.2,λx b y f=>?_}
  let i:=dC.mp b
  let (r,d,h,g):=jU.mp f
  have:=w.2.1 r d
  have:=w.1
  omega
def iM {l:List Int} (h:l.Pairwise (·<·)):l.Nodup:=h.imp λz e=>by subst e;exact absurd z (Int.lt_irrefl _)
def Gr (m:Int) (n:Nat):cV m (n+1)=cV m n++[m+(n:Int)]:=by
 unfold cV;rw [List.range_succ,u7];rfl
theorem iN:∀{ks:List Int} {x:Int},cH (eP vf ks) (Sum.inl x:bK)=if x ∈ ks then some (.int (vf x)) else none
 | [],x=>by rw [if_neg 6#0];rfl
 | y::ks,x=>by
  have e:eP vf (y::ks)=((Sum.inl y:bK),V.int (vf y))::eP vf ks:=rfl
  unfold cH at *
  rw [e,J4]
  by_cases z:y=x
  ·subst z
   rw [if_pos (j1 ..)]
   simp
  ·have:(decide ((Sum.inl y:bK)=Sum.inl x))=false:=decide_eq_false λq=>z (Sum.inl.inj q)
   rw [this]
   show _=_
   have b:=iN (vf:=vf) (ks:=ks) (x:=x)
   unfold cH at b
   rw [b]
   by_cases a:x ∈ ks
   ·rw [if_pos a,if_pos (i4 _ a)]
   ·rw [if_neg a,if_neg]
    intro q
    rcases i9.mp q with q|q
    ·exact z q.symm
    ·exact a q
def Ph (h:x ∉ ks):gP (eP vf ks) (Sum.inl x:bK) (.int (vf x))=eP vf (ks++[x]):=by
 rw [rR _ (by rw [iN,if_neg h])];unfold eP;rw [u7];rfl
def Ib:(eP vf ks).map (·.1)=ks.map Sum.inl:=by unfold eP;rw [A0];rfl
def Pi:(eP vf ks).length=ks.length:=by unfold eP;rw [i6]
def AH (N:Cn):Sp:=λvs H Q E=>∃vf,Dq N.CB N.CS (λvs H Q _=>Kp vf N.CS vs H Q E0) vs H Q E
def Og {P:Program} {w:World} {K:Frag} {mg:Str->Option Value} {base:Heap} {N:Cn} {c:Nat->Addr} (W:3#0):eH P w K mg base dI N.CB "all_results" 8 (AH N):=W.d52.of λF=>bH.exS λa=>Uy F (sp':=Kp a N.CS) (BQ a W) W
inductive Rm (N:Cn) (vs:List V) (H:Hp) (Q:VK) (E0_:XK):Prop|mk (M:Pm) (A:Ad) (s:S8) (t:Nat) (_:vs=[.ref A.b]) (_:Go N M t H A s) (_:∀(r:Addr) (ks:List Int) (H':Hp),aJ H H'->H r=none->H' r=some (.dK (eP s.vf ks))->ks.Pairwise (·<·)->(∀x,x ∈ ks↔x ∈ s.ns)->Q (.ref r) H')
def Sx (N:Cn):Sp:=Rm N
section
variable {P:Program} {w:World} {K:Frag} {mg:Str->Option Value} {base:Heap} {N:Cn} {c:Nat->Addr}
def mM:aK ["_law_book","_law_found","_law_low","_law_numbers","_law_k"] ["_law_book"] (aG Ma):=2#0
def sE (W:3#0):kI P w K mg base dI "_law_known" 9 (Sx N):=W.d23.of λF=>by
 refine F.ok mM 11#0 (λa1 A Y s H vs Q E hr h=>?_)
 ·let (M,A,s,t,rfl,_):=h
  rfl
 let (M,C,m,t,rfl,g,q):=h
 let hu:=jY hr
 let G1:=W.G.range
 let G2:=W.G.len
 refine Wp.ex (cU (n:=1) mM.nd rfl {_,mZ,?_})
 intro D nf
 let (H0,hh,s0,S):=jJ nf (.dK [])
 rw [hh]
 let O:=g.same s0
 let (dx,a0):=O.bv.bk.ob
 refine {_,aD (eC v7 rfl (eZ (bX (pv 0) W.B.cl (Og W) hr aO)) (fU (n:=2) rfl (bA (aM (i:=2) mM.nd rfl (j9 rfl)) (bA (aM (i:=3) mM.nd rfl (j9 rfl)) dO))) aS) aS,?_}
 refine {_,rfl,C.b,dx,_,rfl,a0,rfl,m.vf,C.b,C.pw,C.sh,C.d,C.pw',C.d',M.sp,M.ev,M.le,m.nn,m.nt,m.mo,M.ws,m.kv,rfl,O.bv.bk.ob,O.bv.st,C.sh,C.pw',C.d',M.ws,m.kv,m.ns,rfl,O.bv.st,O.iv.hd,λr l xs H1 L nr J it sh mm ll=>?_}
 let so:=qD (Lm.Sh.wk sh)
 let mk:∀x,x ∈ dR l↔x ∈ m.ns:=λx=>jU.trans (mm x)
 let pe:=(N9 (iM so) g.iv.hd.nd).mpr mk
 let ll:=pe.length_eq
 let l9:=g.iv.hd.len
 let sl:sizeLine=16777216:=sizeLine_eq
 let lx:=it.length
 refine {r,rfl,{_,cM.of J},sX (xs:=xs) (λi σ G=>∃u v z,σ=[some (.ref C.b),some (.ref D),u,v,z]/\G D=some (.dK (eP m.vf (dR (l.take i))))/\∀a o,H1 a=some o->a≠D->G a=some o) {_,_,_,rfl,L _ _ S,λa o e _=>e} (λi σ G _ h=>?_) (λi x σ G hx h=>?_) (λσ G h=>?_)}
 ·let (u,v,z,rfl,_,p):=h
  exact cM.of (p _ _ J (aL J (L _ _ S) 1#0))
 ·let (u,v,z,rfl,I,p):=h
  let (f,hd,b,c,rfl,hb,T):=aN it hx
  let ni:i<l.length:=(i5.mp hd).1
  let nb:b≠D:=aL hb (L _ _ S) 1#0
  let nc:c≠D:=aL T (L _ _ S) 1#0
  let lt:=Lm.Sh.lt sh f (j8 hd)
  let tk:l.take (i+1)=l.take i++[f]:=by rw [A6,hd];rfl
  let Z:dR (l.take (i+1))=dR (l.take i)++cV f.1 (f.2-f.1).toNat:=by rw [tk,nJ];unfold dR;rw [List.flatMap_singleton]
  let pf:dR l=dR (l.take (i+1))++dR (l.drop (i+1)):=by rw [<- nJ,z6]
  let U:(dR (l.take i)++cV f.1 (f.2-f.1).toNat).Nodup:=by rw [<- Z];have:=iM so;rw [pf] at this;exact(K1.mp this).1
  let a2:(dR (l.take i)).length+(f.2-f.1).toNat<900:=by
   let e:=congrArg List.length pf;rw [p8,Z,p8] at e;have:(cV f.1 (f.2-f.1).toNat).length=(f.2-f.1).toNat:=by unfold cV;rw [i6,v6]
   omega
  refine {b,_,rfl,cG.of (p _ _ hb nb),rfl,_,_,rfl,_,_,rfl,rfl,?_};let X:(row m.vf f.1 (f.2-f.1).toNat).length=(f.2-f.1).toNat:=by unfold row;rw [i6,i6,v6]
  refine {_,aH (eC v7 rfl (gC rfl G1 (aA (aY cF (by rfl) G2 PySem.boot_len (aA (pv 3) aC)) aC)) (aM (i:=4) mM.nd rfl (j9 rfl)) aS),?_};refine {_,rfl,c,_,rfl,.inr (cG.of (p _ _ T nc)),_,rfl,by rw [X];omega,by rw [X];omega,?_};rw [X,E3];refine iQ (λj σ G=>∃z,σ=[some (.ref C.b),some (.ref D),some (.int f.1),some (.ref c),z]/\G D=some (.dK (eP m.vf (dR (l.take i)++cV f.1 j)))/\∀a o,H1 a=some o->a≠D->G a=some o) {_,rfl,by rw [show cV f.1 0=[] from rfl,E4];exact I,p} (λj σ G hj h=>?_) (λσ G h=>?_)
  ·let (z,rfl,I,p):=h;let nw:f.1+(j:Int) ∉ dR (l.take i)++cV f.1 j:=λy=>by
    let hx:f.1+(j:Int) ∈ cV f.1 (f.2-f.1).toNat:=dC.mpr { ∎,∎};rcases q8.mp y with y|y
    ·exact(K1.mp U).2.2 _ y _ hx rfl
    ·have:=dC.mp y;omega
   refine {_,aH (kU hu (pv 1) (bO dW (pv 2) (pv 4)) (bY bQ (pv 3) (pv 4) 12#0) rfl),?_};refine {_,rfl,_,rfl,c,_,_,_,rfl,rfl,cG.of (p _ _ T nc),(show nY _ ((0:Int)+(j:Int))=_ by rw [Int.zero_add];exact bM (v:=V.int (m.vf (f.1+(j:Int)))) (by unfold row;rw [j7,j7,O2 hj];rfl)),_,rfl,_,rfl,_,rfl,_,_,rfl,rfl,D,upd G D (.dK (gP (eP m.vf (dR (l.take i)++cV f.1 j)) (Sum.inl (f.1+(j:Int)):bK) (.int (m.vf (f.1+(j:Int)))))),rfl,?_};let ek:(V.int (f.1+(0+(j:Int))))=kV (Sum.inl (f.1+(j:Int)):bK):=by rw [Int.zero_add];rfl
   refine {?_,?_}
   ·show pO G D (V.int (f.1+(0+(j:Int)))) _ _;rw [ek];refine pO.k I ?_;rw [Pi,p8];have:(cV f.1 j).length=j:=by unfold cV;rw [i6,v6]
    omega
   ·refine {_,rfl,?_,λa o e n=>?_}
    ·rw [aB,Ph nw,Gr,w8]
    ·rw [aE n];exact p a o e n
  ·let (z,rfl,I,p):=h;exact {_,_,_,rfl,by rw [Z];exact I,p}
 ·let (u,v,z,rfl,I,p):=h;rw [w5 ∎] at I;refine {_,aH (aU (pv 1)),?_};refine {_,rfl,q D _ G (λa o e=>?_) nf I so mk};exact p a o (L _ _ (s0 _ _ e)) (aF e nf)
def fQ (ns:List Int):PyData:=.list (ns.map PyData.int)
def nK (ns:List Int):PyData:=.tuple (ns.map PyData.int)
theorem oF {K:Frag} {H:Hp}:∀a:List Int,Db K H (a.map V.int) (a.map PyData.int)
 | []=>.nil
 | n::a=>.cons (.int n) (oF a)
def fO {K:Frag} {H:Hp} {l:Addr} {ns:List Int} (h:H l=some (.lst (ns.map V.int))):vM K H (.ref l) (fQ ns):=.lst (cM.of h) (oF ns)
def kP {K:Frag} {H:Hp} {l:Addr} {ns:List Int} (h:H l=some (.tup (ns.map V.int))):vM K H (.ref l) (nK ns):=.tup (cG.of h) (oF ns)
def Fq (ns:List Int):∀d ∈ ns.map PyData.int,Gd 0 d:=λd hd=>by
 let (n,_,rfl):=y0.mp hd
 exact Gd.int n
def dM (ns:List Int):SeqAt.shaped (fQ ns)=true:=(Gd.lst (Fq ns)).shaped 7#0
def gB (ns:List Int):SeqAt.shaped (nK ns)=true:=(Gd.tup (Fq ns)).shaped 7#0
theorem kC:∀a:List Int,PyData.eqvAll (a.map PyData.int) (a.map PyData.int)=true
 | []=>by simp [PyData.eqvAll]
 | n::a=>by
  rw [x9,PyData.eqvAll,kC a]
  simp [PyData.eqv]
def kB (ns:List Int):PyData.eqv (fQ ns) (fQ ns)=true:=by
 unfold fQ;rw [PyData.eqv];simp [kC]
def vE (ns:List Int):PyData.eqv (nK ns) (nK ns)=true:=by
 unfold nK;rw [PyData.eqv];simp [kC]
def Fi {l:List Int} (h:l.Pairwise (·<·)):l.Pairwise (·<=·):=h.imp λz=>z4 z
def rH {a b:List Int} (p:a.Perm b) (e:a.Pairwise (·<=·)) (d:b.Pairwise (·<=·)):a=b:=List.Perm.eq_of_pairwise (λ_ _ _ _=>Int.le_antisymm) e d p
def IA (H:Hp) (vf':Int->Int) (a sp:Addr) (told:V) (mo:List Int):Prop:=∃(q p0 nr:Addr) (tk pl i m hh n l:Int) (ns fr:List Int) (lv x y:V) (rest:List V),told=.ref q/\H q=some (.tup [.int (m+(fr.length:Int)),x,y])/\H sp=some (.lst (.ref p0::rest))/\H p0=some (.tup [.int n,.int l,.int hh,.int m,lv]) /\
 H a=some (.tup [.int tk,.int pl,.ref nr,.int i])/\H nr=some (.tup (ns.map V.int))/\pl<=m/\fr=fB ns (some (m-pl)) (some (hh-pl))/\m+(fr.length:Int)<=hh/\-(2 ^ 61)<=m/\m+(fr.length:Int)<=2 ^ 61/\fr.length<=1000/\mo=cV m fr.length/\∀j:Nat,j<fr.length->vf' (m+(j:Int))=fr.getD j 0
inductive Rr (vs:List V) (H:Hp) (Q:VK) (E0_:XK):Prop|mk (bf af a sp:Addr) (told:V) (way:Str) (ks ks' mo:List Int) (vf vf':Int->Int) (_:vs=[.ref bf,.ref af,.str way,.ref a,told,.ref sp]) (_:H bf=some (.dK (eP vf ks))) (_:H af=some (.dK (eP vf' ks'))) (_:bf≠af) (_:ks.length<900) (_:ks'.length<900) (_:(∀x ∈ ks,x ∈ ks'/\vf' x=vf x)) (_:(ks'.filter λx=>!decide (x ∈ ks))=mo) (_:(∀x ∈ mo,x ∈ ks')) (_:mo.Pairwise (·<·)) (_:(((way≠"tell"\/told=.non)/\mo=[])\/(way="tell"/\IA H vf' a sp told mo))) (_:∀H',aJ H H'->Q (.bl true) H')
def Ta:Sp:=Rr
def JT:(["_law_place","_law_before"]:List Str).Nodup:=⋯
def JU:(["_law_place","_law_after"]:List Str).Nodup:=⋯
def Im (h:fr=fB ns (some (m-pl)) (some (a-pl))) (d:pl<=m) (h2:m+(fr.length:Int)<=a):fB ns (some (m-pl)) (some (m+(fr.length:Int)-pl))=fr:=by
 let b:=qF (ns:=ns) (lo:=m-pl) (hi:=a-pl) ∎ ∎;rw [qF ∎ ∎,show m+(fr.length:Int)-pl-(m-pl)=(fr.length:Int) by omega,E3];rw [b] at h;let l:=congrArg List.length h;rw [t9] at l
 conv=>rhs;rw [h]
 rw [l];apply L9;intro i;rw [P2,P2];by_cases z:i<min (a-pl-(m-pl)).toNat (ns.drop (m-pl).toNat).length
 ·rw [if_pos z,if_pos ∎]
 ·rw [if_neg z];by_cases y:i<(a-pl-(m-pl)).toNat
  ·rw [if_pos y,A3 ∎]
  ·rw [if_neg y]
def kO:aK ["_law_before","_law_after","_law_way","_law_asked_here","_law_told","_law_spot","_law_place","_law_more","_law_mark","_law_low","_law_high"] ["_law_before","_law_after","_law_way","_law_asked_here","_law_told","_law_spot"] (aG Mo):=2#0
def Oi (W:3#0):kI P w K mg base dI "_law_grown" 1 Ta:=W.d24.of λF=>by
 refine F.ok kO 11#0 (λcdv A outer s H vs Q E hr h=>?_)
 ·let (bf,af,a,sp,told,way,ks,ks',mo,vf,vf',rfl,_):=h
  rfl
 let (bf,af,a,sp,told,way,ks,ks',mo,vf,vf',rfl,hbf,haf,nba,lk,lk',kp,em,mk,mso,hc,q):=h
 let hu:=jY hr
 refine {_,aD (wL (eC v7 rfl (Et (pv 0)) (aM (i:=6) kO.nd rfl (j9 rfl)) (aH (bV (PW.pt (fW (rT (kY hu (pv 6) (pv 1))) (eL (bS Ew (gQ hu (pv 1) (pv 6) 12#0) (gQ hu (pv 0) (pv 6) 12#0) (bE _))))) cR aZ))))
  (aD (bT (i:=7) kO.nd rfl (j9 rfl) (aY lP (by rfl) W.G.sorted kD (aA (Ul (dL (NB:=["_law_place","_law_before"]) (n:=1) (js:=[0]) (g:=cS 0) (cl:=[("_law_before",s.heap.objs.size+1)]) rfl ⋯ ⋯ rfl
     (fA.of rfl (all_cons rfl bJ) (all_cons 13#0 (all_cons 13#0 (all_cons (λ_=>rfl) bJ))) rfl
      (λk j h=>match k,j,h with|0,_,rfl=>rfl|k+1,_,h=>absurd h 6#0) (all_cons {.inl rfl,.inl rfl,rfl} bJ))
     (Et (pv 1)) (λ_ s H fp pn=>aM (i:=0) JT rfl (j9 rfl) (.inr rfl)) (λ_ s H fp pn=>kQ (rT (kY hu (pv 0) (pv 1)))) (λ_ s H fp pn=>pv 0))) aC)))
  (aD (bV (PW.pt (fW (bS Ew (pv 2) bC (bE _)) (eL (bS oJ (pv 4) eU (bE _))))) (aH (aU (eA (Bk hr.units) (pv 7) (dU aC) (bE _)))) aZ)
  (aD (bT (i:=8) kO.nd rfl (j9 rfl) (bY bQ (bY fJ (pv 5) aR 12#0) aR 12#0))
  (aD (bV (bS (wQ hr.units) (pv 7) (bZ (tJ rfl) (by rfl) W.G.list Cs (aA (bZ zQ (by rfl) W.G.range PyProof.Rows.boot_range (aA (pv 8) (aA (bY bQ (pv 4) aR 12#0) aC))) aC)) (bE _)) cR aZ)
  (aD (bT (i:=9) kO.nd rfl (j9 rfl) (bO jR (pv 8) (bY bQ (pv 3) aR 12#0)))
  (aD (bT (i:=10) kO.nd rfl (j9 rfl) (bO jR (bY bQ (pv 4) aR 12#0) (bY bQ (pv 3) aR 12#0)))
  (aH (aU (eA (Bk hr.units) (bZ dA (by rfl) W.G.tuple gM (aA (dL (NB:=["_law_place","_law_after"]) (n:=1) (js:=[1]) (g:=cS 0) (cl:=[("_law_after",s.heap.objs.size+2)]) rfl ⋯ ⋯ rfl
     (fA.of rfl (all_cons rfl bJ) (all_cons 13#0 (all_cons 13#0 (all_cons (λ_=>rfl) bJ))) rfl
      (λk j h=>match k,j,h with|0,_,rfl=>rfl|k+1,_,h=>absurd h 6#0) (all_cons {.inl rfl,.inl rfl,rfl} bJ))
     (eZ (pv 7)) (λ_ s H fp pn=>aM (i:=0) JU rfl (j9 rfl) (.inr rfl)) (λ_ s H fp pn=>dZ) (λ_ s H fp pn=>gQ hu (pv 1) (pv 0) 12#0)) aC))
    (mY Kr (bY bQ (pv 3) aR 12#0) (iX (pv 9)) (iX (pv 10))) (bE _)))))))))),?_}
 let sl:sizeLine=16777216:=sizeLine_eq
 let lm:mo.length<900:=by rw [<- em];exact P0 (C1 _ _) lk'
 let nfz:∀{b:Addr} {kv:List (bK × V)},H b=some (.dK kv)->∀o v,H b≠some (.frz o v):=λe o v z=>by rw [e] at z;cases z
 refine iV (λσ G'=>(∃u,σ=[some (.ref bf),some (.ref af),some (.str way),some (.ref a),some told,some (.ref sp),u,none,none,none,none])/\aJ H G') (λnx hn=>{_,rfl,bf,_,rfl,hbf,λo=>Qd (λi σ G'=>G'=upd H bf (.frz o (.dK (eP vf ks)))/\∃u,σ=[some (.ref bf),some (.ref af),some (.str way),some (.ref a),some told,some (.ref sp),u,none,none,none,none]) {rfl,_,rfl} (λi σ G' _ h=>by rw [h.1];exact aB) (λi e σ G' he h=>?_) (λσ G' h=>?_)}) λσ1 H1 h1=>?_
 ·let (rfl,u,rfl):=h
  obtain⟨x,hx,rfl⟩:∃x,x ∈ ks/\e=((Sum.inl x:bK),V.int (vf x)):=by
   unfold eP at he;let (x,h1,h2):=y0.mp (j8 he);exact {(x),h1,h2.symm}
  let ha1:(upd H bf (.frz o (.dK (eP vf ks)))) af=some (.dK (eP vf' ks')):=by rw [aE nba.symm];exact haf
  let v1:cH (eP vf' ks') (Sum.inl x:bK)=some (.int (vf x)):=by rw [iN,if_pos (kp x hx).1,(kp x hx).2]
  let v2:cH (eP vf ks) (Sum.inl x:bK)=some (.int (vf x)):=by rw [iN,if_pos hx]
  let d1:eK (upd H bf (.frz o (.dK (eP vf ks)))) af (.int x) (some (.int (vf x))):=.inl {_,Sum.inl x,.inl ha1,rfl,v1.symm};let d2:eK (upd H bf (.frz o (.dK (eP vf ks)))) bf (.int x) (some (.int (vf x))):=.inl {_,Sum.inl x,.inr {(o),aB},rfl,v2.symm};refine {_,rfl,_,rfl,af,_,rfl,d1,_,rfl,dE {_,rfl,_,rfl,af,_,rfl,d1,_,rfl,_,rfl,bf,_,rfl,d2,rfl,_,rfl,Fo rfl {rfl,_,rfl}}}
 ·let (rfl,u,rfl):=h;exact {bf,o,_,aB,nfz hbf,hn _ _ {{(u),rfl},iC hbf (aJ.refl _)}}
 ·let ((u,rfl),s1):=h1;let hbf1:=s1 _ _ hbf;let haf1:=s1 _ _ haf;refine iV (λσ G'=>∃l,σ=[some (.ref bf),some (.ref af),some (.str way),some (.ref a),some told,some (.ref sp),u,some (.ref l),none,none,none]/\aJ H G'/\G' l=some (.lst (mo.map V.int))) (λnx hn=>?_) λσ3 H3 h3=>?_;rotate_left
  ·let (l,rfl,t3,e3):=h3;rcases hc with ⟨hw,rfl⟩|⟨rfl,q',p0,nr,tk,pl,i,m',hh',n,lo,ns,fr,lv,xx,yy,rest,rfl,e4,e5,e6,e7,e8,p1,hfr,p2,b1,b2,lf,emo,vff⟩
   ·let key:∀(l2:Addr),H3 l2=none->Q (.bl (PyData.eqv (fQ []) (fQ []))) (upd H3 l2 (.lst [])):=λl2 n2=>by rw [kB];exact q _ (t3.trans (aI n2))
    let fin:∀(l2:Addr),H3 l2=none->∃dx dy,vM K (upd H3 l2 (.lst [])) (.ref l) dx/\vM K (upd H3 l2 (.lst [])) (.ref l2) dy/\SeqAt.shaped dx=true/\SeqAt.shaped dy=true/\Q (.bl (PyData.eqv dx dy)) (upd H3 l2 (.lst [])):=λl2 n2=>
     {fQ [],fQ [],fO (aI n2 _ _ e3),fO (ns:=[]) aB,dM _,dM _,key l2 n2}
    refine {_,rfl,rfl,_,rfl,?_};by_cases hw':way="tell"
    ·subst hw';rcases hw with hw|rfl
     ·exact absurd rfl hw
     ·exact Fo rfl {_,rfl,rfl,_,rfl,dD {_,rfl,by show 0<=sizeLine;exact l7 _,fin}}
    ·refine dX (by rw [gF hw'];rfl) {_,rfl,by show 0<=sizeLine;exact l7 _,fin}
   ·refine {_,rfl,rfl,_,rfl,Fo rfl {_,rfl,rfl,_,rfl,dE ?_}};refine {_,rfl,sp,_,_,_,rfl,rfl,cM.of (t3 _ _ e5),bM (j:=0) rfl,p0,_,_,_,rfl,rfl,cG.of (t3 _ _ e6),rfl,?_};refine {_,rfl,_,rfl,_,rfl,q',_,_,_,rfl,rfl,cG.of (t3 _ _ e4),rfl,_,_,rfl,λr nr'=>?_};let (H4,hh,s4,g4):=jJ nr' (.rng m' (m' + (fr.length:Int)));rw [hh];refine {r,_,_,rfl,g4,{ ∎,∎,∎,∎},∎,λl2 n2=>?_};let er:wJ m' (m' + (fr.length:Int)-m').toNat=mo.map V.int:=by
     rw [show (m' + (fr.length:Int)-m').toNat=fr.length by omega,emo];unfold wJ cV;rw [A0];rfl
    rw [er];let (H5,hh,s5,g5):=jJ n2 (.lst (mo.map V.int));rw [hh];let t5:=t3.trans (s4.trans s5);refine {fQ mo,fQ mo,fO (s5 _ _ (s4 _ _ e3)),fO g5,dM _,dM _,_,rfl,?_};rw [kB];refine dE ?_;refine {_,rfl,_,rfl,a,_,_,_,rfl,rfl,cG.of (t5 _ _ e7),rfl,_,_,rfl,rfl,?_};refine {_,rfl,q',_,_,_,rfl,rfl,cG.of (t5 _ _ e4),rfl,_,rfl,a,_,_,_,rfl,rfl,cG.of (t5 _ _ e7),rfl,_,_,rfl,rfl,?_};let g5l:=s5 _ _ (s4 _ _ e3);refine {_,rfl,l,rfl,{_,cM.of g5l},λacc2 na2=>?_};let (g1,g2,g3):=iO (K:=K) (val:=V.int) (xs:=mo) g5l;let (W,w0,step):=Yy na2 mo V.int (λx=>V.int (vf' x)) (λ_=>true) ∎ g1 g2 g3;refine {W,w0,λx m ys G' hW=>?_};obtain⟨⟨hA,sg⟩,⟨hs,rfl⟩|⟨hg,hy⟩⟩:=step x m ys G' hW;rotate_left
    ·refine {hA,.inr {hg,λy G'' hx=>?_}};let (rfl,z,hz,rfl,ln,y1,y2):=hy y G'' hx;refine {rfl,fH (dD {_,rfl,_,rfl,af,_,rfl,?_,hA,ln,y1 rfl})};have:=eK.k (k:=Sum.inl z) (sg _ _ (t5 _ _ haf));rw [iN,if_pos (mk z hz)] at this;exact this
    refine {hA,.inl {hs,acc2,_,rfl,.inl {cM.of hA,λl3 n3=>?_}}};let ef:(List.filter (λ_=>true) mo).map (λx=>V.int (vf' x))=fr.map V.int:=by
     rw [F6.mpr 12#0,emo];unfold cV;rw [A0];apply List.ext_getElem
     ·simp
     ·intro j h1 h2;let hj:j<fr.length:=by simpa using h2
      simp only [List.getElem_map,List.getElem_range,Function.comp];rw [vff j hj,A1,i3 hj];rfl
    rw [ef];let (H6,hh,s6,g6):=jJ n3 (.tup (fr.map V.int));rw [hh];let t6:=t5.trans (sg.trans s6);refine {_,rfl,a,_,_,_,rfl,rfl,cG.of (t6 _ _ e7),rfl,_,rfl,_,rfl,_,rfl,_,rfl,nr,_,rfl,t6 _ _ e8,λp7 H7 s7 e9=>?_};rw [Ck,Im hfr p1 p2] at e9;refine {nK fr,nK fr,kP (s7 _ _ g6),kP e9,gB _,gB _,?_};rw [vE];exact q _ (t6.trans s7)
  refine {_,rfl,af,_,rfl,haf1,λo2 acc na=>?_};let (na1,nla):=zA haf1 na;let (g1,g2,g3):=Ig (H1:=upd H1 af (.frz o2 (.dK (eP vf' ks')))) (xs:=ks') (val:=V.int) aB (by unfold eP;rw [A0];rfl);let (W,w0,step):=Yy na ks' V.int V.int (λx=>!decide (x ∈ ks)) ∎ g1 g2 g3;refine {W,w0,λx m ys G' hW=>?_};obtain⟨⟨hA,sg⟩,⟨hs,rfl⟩|⟨hg,hy⟩⟩:=step x m ys G' hW;rotate_left
  ·refine {hA,.inr {hg,λy G'' hx=>?_}};let (rfl,z,hz,rfl,ln,y1,y2):=hy y G'' hx;let hb2:G'' bf=some (.dK (eP vf ks)):=sg _ _ (by rw [aE nba];exact hbf1);let d1:eK G'' bf (.int z) (cH (eP vf ks) (Sum.inl z:bK)):=eK.k (k:=Sum.inl z) hb2;let ev:(!(cH (eP vf ks) (Sum.inl z:bK)).isSome)=!decide (z ∈ ks):=by
    rw [iN];by_cases hz:z ∈ ks
    ·rw [if_pos hz,decide_eq_true hz];rfl
    ·rw [if_neg hz,decide_eq_false hz];rfl
   refine {rfl,_,rfl,_,rfl,bf,_,rfl,d1,_,rfl,?_};rw [ev];exact fE (λhc=>{_,rfl,hA,ln,y1 hc}) λhc=>y2 hc
  refine {hA,.inl {hs,af,o2,_,sg _ _ aB,λo' v' z=>?_,?_}}
  ·exact nfz haf o' v' z
  let s2:=iC haf1 sg;let hA2:(upd G' af (.dK (eP vf' ks'))) acc=some (.lst (mo.map V.int)):=by rw [aE nla,hA,em]
  generalize upd G' af (.dK (eP vf' ks'))=H2 at s2 hA2 ⊢;clear step w0 g1 g2 g3 hs hA sg;refine {acc,mo,rfl,cM.of hA2,∎,λl ns' nl pm pw=>?_};let e':=rH pm pw (Fi mso);subst e';exact hn _ _ {l,rfl,s1.trans (s2.trans (aI nl)),aB}
def fC (H:Hp) (v:V) (c:Pc):Prop:=∃t lv,v=.ref t/\H t=some (.lst [.int c.n,.int c.l,.int c.h,.int c.m,lv])/\kH H lv c.o
def fC.kpl (k:fX d d' H H') {v:V} {c:Pc} (h:fC H v c):fC H' v c:=by
 let (t,b,e,f,a):=h;exact {t,b,e,k.lst f,a.move λ_ _ z=>k.tup z}
def fC.same (s:aJ H H') {v:V} {c:Pc} (h:fC H v c):fC H' v c:=fC.kpl (d:=0) (d':=0) (fX.of s) h
def uY (p g x m y z:V):List (bK × V):=[(Sum.inr "pieces",p),(Sum.inr "given",g),(Sum.inr "made",x),(Sum.inr "moment",m),(Sum.inr "known",y),(Sum.inr "work",z)]
def Yr:cH (uY p g x m y z) (Sum.inr "pieces":bK)=some p:=rfl
def Ys:cH (uY p g x m y z) (Sum.inr "given":bK)=some g:=rfl
def GV:cH (uY p g x m y z) (Sum.inr "moment":bK)=some m:=rfl
def Ox:gP (uY p g x m y z) (Sum.inr "pieces":bK) v=uY v g x m y z:=rfl
def yW:gP (uY p g x m y z) (Sum.inr "given":bK) v=uY p v x m y z:=rfl
def Oy:gP (uY p g x m y z) (Sum.inr "moment":bK) v=uY p g x v y z:=rfl
structure tQ (H:Hp) (md pl:Addr) (g mo:Int) (rs:List V) (cs:List Pc):Prop where
 d:∃x y z,H md=some (.dK (uY (.ref pl) (.int g) x (.int mo) y z))
 l:H pl=some (.lst rs)
 r:Paired (fC H) rs cs
 g0:0<=g
theorem tQ.same (s:aJ H H') (h:tQ H a pl g mo b cs):tQ H' a pl g mo b cs:=by
 let ((x,y,z,e),i,f,d):=h;exact {{x,y,z,s _ _ e},s _ _ i,aV (λ_ _ q=>q.same s) f,d}
inductive zW (vs:List V) (H:Hp) (Q:VK) (E0_:XK):Prop|mk (md pl:Addr) (g mo n:Int) (rs:List V) (cs:List Pc) (_:vs=[.ref md,.int n]) (_:tQ H md pl g mo rs cs) (_:cs.length<=1000) (_:(∃c ∈ cs,c.n=n)) (_:∀v c H',aJ H H'->fC H' v c->c ∈ cs->Q v H')
def Aq:Sp:=zW
inductive Rk (vs:List V) (H:Hp) (Q:VK) (E0_:XK):Prop|mk (wk:Addr) (a:Lm.Ps) (_:vs=[.ref wk]) (_:cJ H wk a) (_:a.length<=100) (_:∀md pl rs H',aJ H H'->H md=none->tQ H' md pl 0 0 rs (qA 0 a)->Q (.ref md) H')
def Sw:Sp:=Rk
def JV:(["_law_k","_law_work_here"]:List Str).Nodup:=⋯
theorem Ev:∀{a:Lm.Ps} {k j:Nat} {q:Int × Int},a[j]?=some q->(qA k a)[j]?=some {((k+j:Nat):Int),q.1,q.2,q.1,none}
 | q'::a,k,0,q,h=>by cases h;rfl
 | q'::a,k,j+1,q,h=>by
  have:=Ev (a:=a) (k:=k+1) (j:=j) (q:=q) (by simpa using h)
  rw [show k+1+j=k+(j+1) by omega] at this
  exact this
def Az:aK ["_law_model_here","_law_number"] ["_law_model_here","_law_number"] (aG uS):=2#0
def yN (W:3#0):kI P w K mg base dI "_law_numbered" 1 Aq:=W.d18.of λF=>by
 refine F.ok Az 11#0 (λX A p s H vs Q E hr h=>?_)
 ·let (D,o,g,O,n,a,b,rfl,_):=h
  rfl
 let (D,o,g,O,n,a,b,rfl,M,lc,U,q):=h
 let hu:=jY hr
 let (x,y,z,hd):=M.d
 let lr:=M.r.length
 let dg:eK H D (.str "pieces") (some (.ref o)):=by have:=eK.k (k:=Sum.inr "pieces") hd;rw [Yr] at this;exact this
 let Y:H o=some (.lst ((b.zip a).map λz=>z.2)):=by rw [M.l,G4 (D6 lr)]
 refine Wp.ex (fD {_,bY fJ aP aR 12#0,tG (NB:=["_law_piece","_law_number"]) (js:=[1]) (cl:=[("_law_number",s.heap.objs.size+1)]) (zs:=b.zip a) (val:=λz:Pc × V=>z.2) (out:=λz=>z.2) (pm:=λz=>decide (V.int z.1.n=V.int n)) {(rfl),rfl,rfl,rfl} rfl 15#0 Y (by rw [A4];omega) (λz J G m C s S T pn=>?_) (λz J _ G m C s S T pn=>?_) λu G m v=>?_})
 ·let (t,lv,e,B,h2):=cI M.r z J
  let B:=m _ _ B
  rw [e]
  symm
 ·symm
 let (c,L,rfl):=U
 let (k,hk,e):=B0 L
 let Z:k<a.length:=∎
 let I:(c,a[k]) ∈ (b.zip a).filter λz=>decide (V.int z.1.n=V.int c.n):=u6.mpr {j8 (i:=k) (z8.mpr {by rw [<- e];exact i3 hk,i3 Z}),decide_eq_true rfl}
 cases ef:(b.zip a).filter λz=>decide (V.int z.1.n=V.int c.n) with
 | nil=>rw [ef] at I;cases I
 | cons z0 zr=>
  rw [ef] at v
  let f:z0 ∈ b.zip a:=(u6.mp (by rw [ef];exact j1 ..)).1
  exact {u,_,_,_,rfl,rfl,cM.of v,bM (j:=0) rfl,q z0.2 z0.1 G m ((cI M.r z0 f).same m) (C8 f).1}
def Dz:aK ["_law_work_here","_law_pieces"] ["_law_work_here"] (aG Lz):=2#0
def Oc (W:3#0):kI P w K mg base dI "_law_model" 1 Sw:=W.d17.of λF=>by
 refine F.ok Dz 11#0 (λa0 A Z s H vs Q E hr h=>?_)
 ·let (f,a,rfl,_):=h
  rfl
 let (f,a,rfl,hw,la,q):=h
 refine {_,aD (kR (ix:=1) Dz.nd rfl (j9 rfl) (NB:=["_law_k","_law_work_here"]) (n:=1) (js:=[0]) (g:=cS 0) (cl:=[("_law_work_here",s.heap.objs.size+1)]) rfl ⋯ ⋯ rfl
     (fA.of rfl (all_cons rfl bJ) (all_cons 13#0 (all_cons 13#0 (all_cons (λ_=>rfl) bJ))) rfl
      (λk j h=>match k,j,h with|0,_,rfl=>rfl|k+1,_,h=>absurd h 6#0) (all_cons {.inl rfl,.inl rfl,rfl} bJ))
     (gC rfl W.G.range (aA (aY cF (by rfl) W.G.len PySem.boot_len (aA (pv 0) aC)) aC)) (λ_ s H fp pn=>aM (i:=0) JV rfl (j9 rfl) (.inr rfl)) (λ_ s H fp pn=>dZ)
     (λ_ s H fp pn=>dU (aA (pv 0) (aA (bY (r:=gO K) bQ (bY (r:=gO K) bQ (pv 1) (pv 0) 12#0) aR 12#0) (aA (bY (r:=gO K) bQ (bY (r:=gO K) bQ (pv 1) (pv 0) 12#0) aR 12#0) (aA (bY (r:=gO K) bQ (bY (r:=gO K) bQ (pv 1) (pv 0) 12#0) aR 12#0) (aA eU aC)))))))
  (aH (aU (Up (iK bC (pv 1) (iK bC aR (iK bC (aY cF (by rfl) W.G.len PySem.boot_len (aA (pv 0) aC)) (iK bC aR (iK bC mZ (iK bC (pv 0) Uh)))))) rfl rfl 6#0 7#0))),?_}
 let sl:sizeLine=16777216:=sizeLine_eq
 let (p,hx,pr):=id hw
 let lx:=pr.length
 refine {_,rfl,f,_,rfl,.inr (cG.of hx),_,rfl,∎,∎,λe na=>?_}
 rw [E3]
 refine {λi m B L=>m=a.length-i/\i<=a.length/\aJ H L/\L e=some (.lst B)/\Paired (λv c=>v≠.ref e/\fC L v c) B ((qA 0 a).take i),{_,rfl,l7 _,aI na,aB,.nil},?_}
 rintro i m B L ⟨rfl,hi,C,T,d⟩
 refine {T,?_}
 by_cases O:i<a.length
 ·refine .inr {by show i<p.length;omega,λy U hy=>?_}
  let (rfl,rfl):=hy
  let e1:a[i]?=some a[i]:=i3 O
  obtain⟨v,hv,b,rfl,hb⟩:∃v,p[i]?=some v/\jE H v a[i]:=by
   let hl:i<p.length:=∎;let (q',I,X):=aN pr (i3 hl);rw [e1] at I;cases I;exact {p[i],i3 hl,X}
  let t:nY p ((0:Int)+(i:Int))=some (.ref b):=by rw [Int.zero_add];exact bM hv
  let x:=C _ _ hx;let u:=C _ _ hb;refine {rfl,fH (dD ?_)};refine {_,rfl,_,rfl,_,rfl,f,_,_,_,rfl,rfl,cG.of x,t,b,_,_,_,rfl,rfl,cG.of u,rfl,_,rfl,_,rfl,f,_,_,_,rfl,rfl,cG.of x,t,b,_,_,_,rfl,rfl,cG.of u,rfl,_,rfl,_,rfl,f,_,_,_,rfl,rfl,cG.of x,t,b,_,_,_,rfl,rfl,cG.of u,rfl,by show 5<=sizeLine;decide,λl nl=>?_};let (G5,M,J,e5):=jJ nl (.lst [.int (0+(i:Int)),.int a[i].1,.int a[i].2,.int a[i].1,.non]);rw [M];let D:=J _ _ T;let lz:B.length=i:=by
   have:=d.length;rw [t9,nA] at this;omega
  refine {D,∎,_,?_,rfl,O,?_,aB,?_}
  ·omega
  ·intro b' o z;rw [aE (aF z na)];exact J _ _ (C _ _ z)
  ·let kp:∀v c,v≠.ref e->fC U v c->fC (upd G5 e (.lst (B++[.ref l]))) v c:=λv c nv ⟨t',lv',I,X,h3⟩=>by
    let nt:t'≠e:=λz=>nv (by rw [I,z]);exact {t',lv',I,by rw [aE nt];exact J _ _ X,h3.move λq' zs h=>by rw [aE (aL (J _ _ h) D 1#0)];exact J _ _ h}
   rw [A6,Ev e1];let S:l≠e:=(aF T nl).symm;refine cY (aV (λv c z=>{z.1,kp v c z.1 z.2}) d) {λz=>S (V.ref.inj z),l,.non,rfl,?_,trivial};rw [aE S,e5];show some (HO.lst [V.int (0+(i:Int)),_,_,_,_])=some (HO.lst [V.int ((0+i:Nat):Int),_,_,_,_]);rw [Int.zero_add,Nat.zero_add]
 ·refine .inl {by show p.length<=i;omega,?_};rw [w5 (by rw [nA];omega)] at d;let d:=aV (λv c z=>z.2) d;intro md Y;let (G1,M,s1,f1):=jJ Y (.dK []);rw [M];refine {_,rfl,_,rfl,f,_,rfl,.inr (cG.of (s1 _ _ (C _ _ hx))),λkd nk=>?_};let (G2,M,s2,f2):=jJ nk (.dK []);rw [M];refine {_,rfl,s2 _ _ f1,uY (.ref e) (.int 0) (.int p.length) (.int 0) (.ref kd) (.ref f),rfl,by show 6<=15;decide,?_};let s3:aJ L (upd G2 md (.dK (oM [] (uY (.ref e) (.int 0) (.int p.length) (.int 0) (.ref kd) (.ref f))))):=λa' o z=>by
   rw [aE (aF z Y)];exact s2 _ _ (s1 _ _ z)
  exact q md e B _ (C.trans s3) (C.free Y) {{_,_,_,aB},s3 _ _ T,aV (λ_ _ z=>z.same s3) d,q0 _}
structure IB (cs:List Pc):Prop where
 lm:∀c ∈ cs,c.l<=c.m/\c.m<=c.h/\-(2 ^ 60)<=c.l/\c.h<=2 ^ 60
 op:∀c ∈ cs,∀t,c.o=some t->PyData.strOk t.2.1=true
 ln:cs.length<=1000
def zS {α:Type} {x:α} {xs:List α}:nY (x::xs) 0=some x:=bM (j:=0) rfl
def Yl {x:Int} {a b c d e f:V} {Pr:V->Prop} (m:Pr a) (l:Pr b) (k:Pr c) (o:Pr d) (n:Pr e) (i:Pr f):∃v,nY [a,b,c,d,e,f] (x % 6)=some v/\Pr v:=by
 let p:=C0 x (show (6:Int)≠0 by decide);let q:=A2 x (show (0:Int)<6 by decide);obtain⟨j,h⟩:∃j:Nat,x % 6=(j:Int):={(x % 6).toNat,∎};rw [h];let g:j<6:=∎
 match j,g with
 | 0,_=>exact {a,bM (j:=0) rfl,m}
 | 1,_=>exact {b,bM (j:=1) rfl,l}
 | 2,_=>exact {c,bM (j:=2) rfl,k}
 | 3,_=>exact {d,bM (j:=3) rfl,o}
 | 4,_=>exact {e,bM (j:=4) rfl,n}
 | 5,_=>exact {f,bM (j:=5) rfl,i}
abbrev GU:List Str:=["_law_model_here","_law_bounds_here","_law_xs","_law_moment","_law_piece","_law_lent","_law_pieces_now","_law_way","_law_number","_law_token","_law_mark","_law_place","_law_many","_law_numbers"]
def mO:aK GU ["_law_model_here","_law_bounds_here","_law_xs"] (aG fT):=2#0
abbrev Gm (P:Program) (w:World) (K:Frag) (mg:Str->Option Value) (base:Heap) (f:Addr) (cdv:Value) (A:Around) (outer:List Env) (s:Shared) (H:Hp) (E:XK):Cx:=(hU dI P w K mg base GU "_law_asked" (aG fT) f cdv A outer s H E).nox
def HS {f:Addr} {cdv:Value} {A:Around} {outer:List Env} {s:Shared} {H:Hp} {E:XK} {D:eM} {bd lx ll:Addr} {i tk sp O le x0 x1 x2 x3 T L U x7:Int} {o0 o4 o6 o8 a5 a1 a4 a7:Option V} {y:Str} {zs:List (Pc × V)} {cs:List Pc} {Q:Hp} (W:3#0) (hr:Room 1 (A.deeper (PyProof.Rows.envOfC "_law_asked" (aG fT) s.heap.objs.size f cdv))) (hb:Q bd=some (.tup [.int sp,.int O,.int le])) (e1:1<=O) (e4:O<=4) (hx:Q lx=some (.lst [.int x0,.int x1,.int x2,.int x3,.int T,.int L,.int U,.int x7])) (hl:Q ll=some (.lst (zs.map (·.2)))) (lz:zs.length<=1000) (hz:∀z ∈ zs,z.1 ∈ cs/\fC Q z.2 z.1/\∃t,z.1.o=some t) (pk:IB cs) (hw:y="back"\/y="tell") (q:∀r a as l,aJ Q l->l r=some (.tup [.str y,.ref a])->l a=some (.tup as)->Dg l y as->D.rt (.ref r) l):Wp (Gm P w K mg base f cdv A outer s H E) ((bG fT).drop 8) D [o0,some (.ref bd),some (.ref lx),some (.int i),o4,some (.ref ll),o6,some (.str y),o8,some (.int tk),a5,a1,a4,a7] Q:=by
 let nd:=mO.nd;rcases hw with rfl|rfl
 ·apply Ag;symm;exact oW;exact Di (vs:=[.int tk,.int i]) 15#0 15#0 (by show 2<=1000;decide) λr a l s' I B=>q r a _ l s' I B (.back {(tk),i,rfl})
 apply vQ;symm;exact gF ⋯;refine cU (n:=10) nd rfl {_,bY fJ (bO jS aP (dU eO)) aP 12#0,tG (NB:=["_law_piece","_law_token"]) (js:=[9]) (cl:=[("_law_token",s.heap.objs.size+1+1)]) (zs:=zs) (val:=λz:Pc × V=>z.2) (out:=λz=>V.int z.1.m) (pm:=λz=>z.1.has tk) {(rfl),rfl,rfl,rfl} rfl 15#0 hl ∎ (λz F G' S C s l fp pn=>?_) (λz F _ G' S C s l fp pn=>?_) λae G' S hA=>?_}
 ·let (mc,(t',lv,J,I,B),(u,eo)):=hz z F;rw [eo] at B;rw [J];let I:=S _ _ I;let B:=B.move λ_ _ z=>S _ _ z;cases lv with
  | ref qa=>
   let B:G' qa=some (.tup [.int u.1,.str u.2.1,.int u.2.2]):=B;let eh:decide (V.int u.1=V.int tk)=z.1.has tk:=by
    unfold Pc.has;rw [eo];show decide (V.int u.1=V.int tk)=decide (u.1=tk);rw [F0];simp
   apply Tv.is;symm;exact eh
  | _=>exact B.elim
 ·let (mc,(t',lv,J,I,B),_):=hz z F;let I:=S _ _ I;rw [J];symm
 let h:∃h:Int,∃j,(zs.filter λz=>z.1.has tk).map (λz=>V.int z.1.m)++[V.int 0]=V.int h::j/\-(2 ^ 60)<=h/\h<=2 ^ 60:=by
  cases ef:zs.filter λz=>z.1.has tk with
  | nil=>exact {0,[],rfl,by decide,by decide}
  | cons z0 zr=>
   let a6:z0 ∈ zs:=(u6.mp (by rw [ef];exact j1 ..)).1;have:=pk.lm z0.1 (hz z0 a6).1;exact {z0.1.m,_,rfl,∎,∎}
 let (h,j,ac,am,aj):=h;let lf:((zs.filter λz=>z.1.has tk).map (λz=>V.int z.1.m)).length<=1000:=by rw [i6];exact u8 (C1 _ _) lz
 let sl:sizeLine=16777216:=sizeLine_eq;refine Av.to (vs:=[.int 0]) 15#0 _ {by show 1<=sizeLine;decide,λb nb=>{ae,b,_,_,rfl,rfl,aI nb _ _ hA,aB,by show _+1<=sizeLine;omega,λp np=>Jw.to _ ?_}};rw [ac];refine {p,_,_,_,rfl,rfl,cM.of aB,zS,?_};let t4:=S.trans ((aI (o:=.lst [.int 0]) nb).trans (aI (o:=.lst (V.int h::j)) np));generalize upd (upd G' b _) p _=H4 at t4 ⊢;let a0:=t4 _ _ hx;let a3:=t4 _ _ hb;let m9:=C0 (T / 6) (show (9:Int)≠0 by decide);let al:=A2 (T / 6) (show (0:Int)<9 by decide);let (ov,eo,g,rfl,ah,ag):=Yl (x:=T) (a:=V.int 0) (b:=V.int 0) (c:=V.int 0) (d:=V.int 1) (e:=V.int 2) (f:=V.int (T / 6 % 9-1)) (Pr:=λv=>∃k:Int,v=.int k/\-1<=k/\k<=8) {0,rfl,by decide,by decide} {0,rfl,by decide,by decide} {0,rfl,by decide,by decide} {1,rfl,by decide,by decide} {2,rfl,by decide,by decide} {_,rfl,∎,∎};refine cU (n:=11) nd rfl (CY (Vl.ex (v:=.int h) 15#0 {h,rfl,gX (vs:=[.int 0,.int 0,.int 0,.int 1,.int 2,.int (T / 6 % 9-1)]) 15#0 (by show 6<=1000;decide) (λl s'=>?_) eo λH5 s5=>{g,rfl,?_}}))
 ·have:=s' _ _ a0;symm
 let aa:=s5 _ _ a0;let af:=s5 _ _ a3;show 12;let m5:=C0 L (show O+2≠0 by omega);let ad:=A2 L (show (0:Int)<O+2 by omega);let m2:=C0 (L / 9) (show (2:Int)≠0 by decide);let a9:=A2 (L / 9) (show (0:Int)<2 by decide);generalize L % (O+2)=r5 at m5 ad ⊢;generalize L / 9 % 2=r9 at m2 a9 ⊢;refine Jo (n:=13) (NB:=["_law_k","_law_place","_law_xs"]) (js:=[11,2]) (cl:=[("_law_xs",s.heap.objs.size+1),("_law_place",s.heap.objs.size+1+1+1)]) (out:=λk=>V.int (Bf (h-g+(0+(k:Int)))+(if decide (V.int (U % 11)=V.int (0+(k:Int)+1))=true then 1 else 0))) nd rfl {(rfl),rfl,rfl,rfl} rfl W.G.range 15#0 ∎ (λk hk G6 s6 R qq C s l fp pn=>?_) λY G6 s6 Z=>?_
 ·let ai:=s6 _ _ aa;refine {_,bO dW aP (bZ fG (by rfl) W.G.int kE (aA (eA iL aP aP (bE _)) aC)),dN (vs:=[.int (h-g+(0+(k:Int)))]) (Ez W) hr aO 15#0 {_,rfl,∎,∎,Vl.to (v:=.int (U % 11)) 15#0 _ (Vl.to (v:=.int (0+(k:Int)+1)) 15#0 _ {rfl,.inr {_,rfl,_,_,rfl,rfl,qq _ (aJ.refl _)}})}}
 let t6:=t4.trans (s5.trans s6);obtain⟨M,a2,ak⟩:∃M:List Int,((List.range (h-(h-g)+r5-r9).toNat).map λ(k:Nat)=>V.int (Bf (h-g+(0+(k:Int)))+(if decide (V.int (U % 11)=V.int (0+(k:Int)+1))=true then 1 else 0)))=M.map V.int/\M.length<=100:={(List.range _).map λ(k:Nat)=>Bf (h-g+(0+(k:Int)))+(if decide (V.int (U % 11)=V.int (0+(k:Int)+1))=true then 1 else 0),by rw [A0];rfl,by rw [i6,v6];omega};rw [a2] at Z;refine fD {_,bL (aA (pv 7) (aA (bL (aA (pv 9) (aA (pv 11) (aA (bZ dA (by rfl) W.G.tuple gM (aA (pv 13) aC)) (aA (pv 3) aC))))) aC)),?_};refine {_,rfl,_,rfl,_,rfl,_,rfl,Y,_,rfl,.inl {cM.of Z,λX n7=>?_}};let s7:=aI (o:=.tup (M.map V.int)) n7;let f7:upd G6 X (.tup (M.map V.int)) X=_:=aB;generalize upd G6 X (.tup (M.map V.int))=H7 at s7 f7 ⊢;refine {_,rfl,by show 4<=sizeLine;decide,λa8 n8=>{by show 2<=sizeLine;decide,λr nr=>?_}};let s8:=(aI (o:=.tup [.int tk,.int (h-g),.ref X,.int i]) n8).trans (aI (o:=.tup [.str "tell",.ref a8]) nr);exact q r a8 _ _ (t6.trans (s7.trans s8)) aB (aI nr _ _ aB) (.tell {tk,h-g,i,X,M,rfl,s8 _ _ f7,∎,∎,∎})
def yH {L:List V} {n:Nat} (f:L.length=n) (g:0<n) (x:Int):∃v,nY L (x % (n:Int))=some v/\v ∈ L:=by
 let d:=C0 x (show (n:Int)≠0 by omega);let e:=A2 x (show (0:Int)<(n:Int) by omega);obtain⟨j,b⟩:∃j:Nat,x % (n:Int)=(j:Int):={(x % (n:Int)).toNat,∎};rw [b];let a:j<L.length:=∎;exact {L[j],bM (i3 a),List.getElem_mem a}
def Pe:Option (Int × Str × Int)->PyData
 | none=>.none
 | some t=>.tuple [.int t.1,.str t.2.1,.int t.2.2]
def Mv (c:Pc):PyData:=.list [.int c.n,.int c.l,.int c.h,.int c.m,Pe c.o]
def Mw {K:Frag} {H:Hp} {a:V} {o:Option (Int × Str × Int)} (h:kH H a o):vM K H a (Pe o):=by
 cases a <;> cases o <;> first|exact h.elim|skip
 ·exact .non
 ·exact .tup (cG.of h) (.cons (.int _) (.cons (.str _) (.cons (.int _) .nil)))
def Uc {K:Frag} {H:Hp} {v:V} {c:Pc} (h:fC H v c):vM K H v (Mv c):=by
 let (t,d,rfl,b,a):=h;exact .lst (cM.of b) (.cons (.int _) (.cons (.int _) (.cons (.int _) (.cons (.int _) (.cons (Mw a) .nil)))))
theorem uT {K:Frag} {H:Hp}:∀{zs:List (Pc × V)},(∀z ∈ zs,fC H z.2 z.1)->Db K H (zs.map (·.2)) (zs.map λz=>Mv z.1)
 | [],_=>.nil
 | z::zs,h=>.cons (Uc (h z (j1 ..))) (uT λy a=>h y (i4 _ a))
def Vu (h:∀t,o=some t->PyData.strOk t.2.1=true):Gd 1 (Pe o):=by
 cases o with
 | none=>exact Gd.non
 | some t=>exact Gd.tup (gU (Gd.int _) (gU (Gd.str (h t rfl)) (gU (Gd.int _) Qc)))
def CK {c:Pc} (h:∀t,c.o=some t->PyData.strOk t.2.1=true):Gd 2 (Mv c):=Gd.lst (gU (Gd.int _) (gU (Gd.int _) (gU (Gd.int _) (gU (Gd.int _) (gU (Vu h) Qc)))))
def yC {zs:List (Pc × V)} (h:∀z ∈ zs,∀t,z.1.o=some t->PyData.strOk t.2.1=true):SeqAt.shaped (.list (zs.map λz=>Mv z.1))=true:=(Gd.lst (n:=2) λd a=>by
 let (z,b,rfl):=y0.mp a
 exact CK (h z b)).shaped 7#0
def Vz:PyData.eqv (.list []) (.list [])=true:=kB []
theorem zK:PyData.eqv (.list (d::a)) (.list [])=false:=by
 rw [PyData.eqv];simp [PyData.eqvAll]
inductive Rx (vs:List V) (H:Hp) (Q:VK) (E0_:XK):Prop|mk (md pl bd lx:Addr) (g mo sp ev le:Int) (rs:List V) (cs:List Pc) (xs:List Int) (_:vs=[.ref md,.ref bd,.ref lx]) (_:tQ H md pl g mo rs cs) (_:H bd=some (.tup [.int sp,.int ev,.int le])) (_:1<=ev) (_:ev<=4) (_:H lx=some (.lst (xs.map V.int))) (_:xs.length=8) (_:IB cs) (_:∀(r a:Addr) (way:Str) (as:List V) (H':Hp),aJ H H'->H' r=some (.tup [.str way,.ref a])->H' a=some (.tup as)->Dg H' way as->Q (.ref r) H')
def Th:Sp:=Rx
def Zc {f:Addr} {cdv:Value} {A:Around} {outer:List Env} {s:Shared} {H:Hp} {E:XK} {D:eM} {Z pl bd lx ll T:Addr} {g mo i sp ev le x0 x1 x2 x3 x4 x5 x6 x7:Int} {o4 o8 o9 I x C O:Option V} {j:Str} {ns:List Int} {zs:List (Pc × V)} {rs:List V} {cs:List Pc} {m:Hp} (W:3#0) (hr:Room 1 (A.deeper (PyProof.Rows.envOfC "_law_asked" (aG fT) s.heap.objs.size f cdv))) (M:tQ m Z pl g mo rs cs) (hb:m bd=some (.tup [.int sp,.int ev,.int le])) (e1:1<=ev) (e4:ev<=4) (hx:m lx=some (.lst [.int x0,.int x1,.int x2,.int x3,.int x4,.int x5,.int x6,.int x7])) (hl:m ll=some (.lst (zs.map (·.2)))) (lz:zs.length<=1000) (hz:∀z ∈ zs,z.1 ∈ cs/\fC m z.2 z.1/\∃t,z.1.o=some t) (hn:m T=some (.lst (ns.map V.int))) (a4:ns.length<=1000) (pk:IB cs) (hw:j="cut"\/j="join"\/j="back"\/j="tell") (q:∀r a j as B,aJ m B->B r=some (.tup [.str j,.ref a])->B a=some (.tup as)->Dg B j as->D.rt (.ref r) B):Wp (Gm P w K mg base f cdv A outer s H E) ((bG fT).drop 6) D [some (.ref Z),some (.ref bd),some (.ref lx),some (.int i),o4,some (.ref ll),some (.ref T),some (.str j),o8,o9,I,x,C,O] m:=by
 let nd:=mO.nd;let hu:=jY hr;let GL:=W.G.len;let sl:sizeLine=16777216:=sizeLine_eq;refine {_,aD (bV (bS Hk (pv 7) (bL (aA bC (aA bC aC))) (by rfl)) aS aS) aS,?_};refine {_,rfl,by show 2<=sizeLine;decide,λa1 n1=>?_};let (H3,J,s3,f3):=jJ n1 (.tup [.str "cut",.str "join"]);rw [J];refine {a1,_,rfl,.inr (cG.of f3),rfl,rfl,_,rfl,?_};by_cases cj:j="cut"\/j="join"
 ·let e:inV (.str j) [.str "cut",.str "join"]=true:=by rcases cj with rfl|rfl <;> decide +kernel
  refine dX e (fD {_,bL (aA bC (aA (bL (aA (bY fJ (bO jS (pv 6) (dU (aA aR aC))) aP 12#0) aC)) aC)),?_});refine {_,rfl,by show 1<=sizeLine;decide,λb nb=>?_};let (Q,J,s4,f4):=jJ nb (.lst [.int 0]);rw [J];refine {T,b,_,_,rfl,rfl,s4 _ _ (s3 _ _ hn),f4,by rw [i6];show _+1<=_;omega,λp np=>?_};let em:ns.map V.int++[.int 0]=(ns++[0]).map V.int:=by rw [u7];rfl
  rw [em];let (H5,J,s5,f5):=jJ np (.lst ((ns++[0]).map V.int));rw [J];let t5:=s3.trans (s4.trans s5);let a6:=t5 _ _ hx;let a5:=t5 _ _ hn;let (v,l,mv):=yH (L:=(ns++[0]).map V.int) (n:=ns.length+1) (by rw [i6,p8];rfl) ∎ x2;let (k,_,rfl):=y0.mp mv;let pz:(0:Int)<((ns.map V.int).length:Int)+1:=∎;refine Vl.to (v:=.int (x2 % (((ns.map V.int).length:Int)+1))) 15#0 _ {p,_,_,_,rfl,rfl,cM.of f5,(by rw [i6];exact l),by show 1<=sizeLine;decide,λa na=>?_};refine {by show 2<=sizeLine;decide,λr nr=>?_};exact q r a _ _ _ (t5.trans ((aI na).trans (aI nr))) aB (aI nr _ _ aB) (.join {(k),rfl})
 let Y:j="back"\/j="tell":=by
  rcases hw with h|h|h|h
  ·exact absurd (.inl h) cj
  ·exact absurd (.inr h) cj
  ·exact .inl h
  ·exact .inr h
 let e:inV (.str j) [.str "cut",.str "join"]=false:=by rcases Y with rfl|rfl <;> decide +kernel
 refine dH e (cD ?_);refine {_,aD (bV (PW.pt (fW (bS (Bk hr.units) (pv 5) (dU aC) (bE _)) (eL mU))) aS aS) aS,?_};refine {_,rfl,l7 _,λb nb=>?_};let (Q,J,s4,f4):=jJ nb (.lst []);rw [J];let y:=s3.trans s4;let F:∀z ∈ zs,z.1 ∈ cs/\fC Q z.2 z.1/\∃t,z.1.o=some t:=λz h=>{(hz z h).1,(hz z h).2.1.same y,(hz z h).2.2};refine {.list (zs.map λz=>Mv z.1),.list [],.lst (cM.of (y _ _ hl)) (uT λz h=>(F z h).2.1),.lst (cM.of f4) .nil,yC λz h=>pk.op z.1 (hz z h).1,dM [],_,rfl,?_};let a2:=y _ _ hx;let a3:=y _ _ hl;let X:∀tk:Int,Wp (Gm P w K mg base f cdv A outer s H E) ((bG fT).drop 8) D [some (.ref Z),some (.ref bd),some (.ref lx),some (.int i),o4,some (.ref ll),some (.ref T),some (.str j),o8,some (.int tk),I,x,C,O] Q:=λtk=>
  HS W hr (y _ _ hb) e1 e4 a2 a3 lz F pk Y λr a as B s' h1 S h3=>q r a _ as B (y.trans s') h1 S h3
 let (x',y',z',hd):=M.d;let dg:eK Q Z (.str "given") (some (.int g)):=by have:=eK.k (k:=Sum.inr "given") (y _ _ hd);rw [Ys] at this;exact this
 let g0:=M.g0;let U:Wp (Gm P w K mg base f cdv A outer s H E) (match (bG fT).getD 7 (.Pass ⟨0,0,0,0⟩) with | .If _ a _ _=>a|_=>[]) { D with nx:=Wp (Gm P w K mg base f cdv A outer s H E) ((bG fT).drop 8) D } [some (.ref Z),some (.ref bd),some (.ref lx),some (.int i),o4,some (.ref ll),some (.ref T),some (.str j),o8,o9,I,x,C,O] Q:=by
  show 9;exact cD (X _)
 cases zs with
 | nil=>exact dX Vz U
 | cons z0 zr=>
  refine dH zK (Tv.to (b:=decide (V.int (x2 % 9)=V.int 0)) 15#0 _ (fE (λ_=>U) λ_=>?_));let (v,l,mv):=yH (L:=((z0::zr).map (·.2))) (n:=(z0::zr).length) (by rw [i6]) 6#0 x3;let (z,a0,rfl):=y0.mp mv;let (_,(t',lv,ez,h1,S),(u,eo)):=F z a0;rw [eo] at S;rw [ez] at l;let pz:(0:Int)<(((z0::zr).map λz:Pc × V=>z.2).length:Int):=by rw [i6];simp
  rw [<- i6 (f:=λz:Pc × V=>z.2) (as:=z0::zr)] at l;cases lv with
  | ref qa=>
   let S:Q qa=some (.tup [.int u.1,.str u.2.1,.int u.2.2]):=S;show 9;exact cD (X u.1)
  | _=>exact S.elim
def JQ:(["_law_piece"]:List Str).Nodup:=⋯
def KA {xs:List Int} (h:xs.length=8):∃a b c d e f g h:Int,xs=[a,b,c,d,e,f,g,h]:=by
 let (a,t,rfl,o):=fP h;let (b,t,rfl,n):=fP o;let (c,t,rfl,m):=fP n;let (d,t,rfl,j):=fP m;let (e,t,rfl,l):=fP j;let (f,t,rfl,i):=fP l;let (g,k,rfl):=Fl i;exact {(a),b,c,d,e,f,g,k,rfl}
def HU {f:Addr} {cdv:Value} {A:Around} {outer:List Env} {s:Shared} {H:Hp} {E:XK} {D:eM} {Q pl bd lx ll ln:Addr} {g mo i sp ev le x0 x1 x2 x3 x4 x5 x6 x7:Int} {o4 o8 o9 a0 Y a1 a3:Option V} {d:Str} {ns:List Int} {zs:List (Pc × V)} {rs:List V} {cs:List Pc} {l:Hp} (W:3#0) (F:Room 1 (A.deeper (PyProof.Rows.envOfC "_law_asked" (aG fT) s.heap.objs.size f cdv))) (M:tQ l Q pl g mo rs cs) (hb:l bd=some (.tup [.int sp,.int ev,.int le])) (e1:1<=ev) (e4:ev<=4) (hx:l lx=some (.lst [.int x0,.int x1,.int x2,.int x3,.int x4,.int x5,.int x6,.int x7])) (hl:l ll=some (.lst (zs.map (·.2)))) (lz:zs.length<=1000) (T:∀z ∈ zs,z.1 ∈ cs/\fC l z.2 z.1/\∃t,z.1.o=some t) (hn:l ln=some (.lst (ns.map V.int))) (I:ns.length<=1000) (J:IB cs) (a2:∀n ∈ ns,∃c ∈ cs,c.n=n) (hw:d="lend"\/d="cut"\/d="join"\/d="back"\/d="tell") (q:∀r a d O k,aJ l k->k r=some (.tup [.str d,.ref a])->k a=some (.tup O)->Dg k d O->D.rt (.ref r) k):Wp (Gm P w K mg base f cdv A outer s H E) ((bG fT).drop 4) D [some (.ref Q),some (.ref bd),some (.ref lx),some (.int i),o4,some (.ref ll),some (.ref ln),some (.str d),o8,o9,a0,Y,a1,a3] l:=by
 let nd:=mO.nd;let hu:=jY F;let GL:=W.G.len;let sl:sizeLine=16777216:=sizeLine_eq;by_cases Z:d="lend"
 ·subst Z;apply Ag;symm;exact oW;let (v,u,S):=yH (L:=[.str "a",.str "ab",.str "b",.str "zz",.str "abcdefgh"]) (n:=5) rfl 7#0 x2;refine fD {_,bL (aA aP (aA (bL (aA aP (aA aP aC))) aC)),Vl.to (v:=.str "lend") 15#0 _ (gX (vs:=[.str "a",.str "ab",.str "b",.str "zz",.str "abcdefgh"]) 15#0 (by show 5<=1000;decide) (λk C=>?_) u λH3 j=>Vl.to (v:=.int i) 15#0 _ {by show 2<=sizeLine;decide,λa na=>{by show 2<=sizeLine;decide,λr p=>?_}})}
  ·have:=C _ _ hx;symm
  refine q r a _ _ _ (j.trans ((aI na).trans (aI p))) aB (aI p _ _ aB) (.lend ?_);simp only [i9,List.not_mem_nil,or_false] at S;rcases S with rfl|rfl|rfl|rfl|rfl <;> exact {_,i,rfl,Xt ⋯ ⋯,⋯}
 apply vQ;symm;exact gF Z;let B:d="cut"\/d="join"\/d="back"\/d="tell":=by
  rcases hw with h|h
  ·exact absurd h Z
  ·exact h
 refine {_,aD (bV (PW.pt (lT mU (iW (bS (wQ F.units) (pv 6) (dU aC) (bE _))))) aS aS) aS,?_};by_cases wc:d="cut";rotate_left
 ·exact Tv.to (b:=decide (V.str d=V.str "cut")) 15#0 _ (dH (gF wc) (cD (Zc W F M hb e1 e4 hx hl lz T hn I J B q)))
 subst wc;refine Tv.to (b:=decide (V.str "cut"=V.str "cut")) 15#0 _ (dX oW {_,rfl,l7 _,λb nb=>?_});let (H3,hh,j,f3):=jJ nb (.lst []);rw [hh];let y:=j _ _ hn;let x:=j _ _ hx;refine {fQ ns,fQ [],fO y,fO (ns:=[]) f3,dM _,dM _,_,rfl,?_};cases ns with
 | nil=>
  rw [kB];exact dE (cD (Zc W F (M.same j) (j _ _ hb) e1 e4 x (j _ _ hl) lz (λz h=>{(T z h).1,(T z h).2.1.same j,(T z h).2.2}) y I J B λr a d O k C=>q r a d O k (j.trans C)))
 | cons U p=>
  let e:PyData.eqv (fQ (U::p)) (fQ [])=false:=zK;rw [e];refine dD ?_;let (v,u,S):=yH (L:=(U::p).map V.int) (n:=((U::p).map V.int).length) rfl (by rw [i6];simp) x2;let (n,X,rfl):=y0.mp S;let pz:(0:Int)<(((U::p).map V.int).length:Int):=by rw [i6];simp
  show 8;refine cU (n:=4) nd rfl (dN (vs:=[.ref Q,.int n]) (yN W) F aO 15#0 {Q,pl,g,mo,n,rs,cs,rfl,M.same j,J.ln,a2 n X,λv c H4 s4 row mc=>?_});let (t',lv,rfl,h1,h2):=row;let lm:=J.lm c mc;let a5:=s4 _ _ x;let a4:(0:Int)<c.h-c.m+3:=∎;exact Di (vs:=[.int n,.int (c.m+x3 % (c.h-c.m+3)-1)]) 15#0 15#0 (by show 2<=1000;decide) λr a k C h1 h2=>q r a _ _ k (j.trans (s4.trans C)) h1 h2 (.cut {n,_,rfl})
def Oq (W:3#0):kI P w K mg base dI "_law_asked" 2 Th:=W.d22.of λF=>by
 refine F.ok mO 11#0 (λcdv A outer s H vs Q E hr h=>?_)
 ·let (md,pl,bd,lx,g,mo,sp,ev,le,rs,cs,xs,rfl,_):=h
  rfl
 let (md,pl,bd,lx,g,mo,sp,ev,le,rs,cs,xs,rfl,M,hb,e1,e4,hx,l8,pk,q):=h
 let (x0,x1,x2,x3,x4,x5,x6,x7,rfl):=KA l8
 let hx:H lx=some (.lst [.int x0,.int x1,.int x2,.int x3,.int x4,.int x5,.int x6,.int x7]):=hx
 let nd:=mO.nd
 let hu:=jY hr
 let sl:sizeLine=16777216:=sizeLine_eq
 let (x',y',z',hd):=M.d
 let lr:=M.r.length
 let lc:=pk.ln
 let dm:eK H md (.str "moment") (some (.int mo)):=by have:=eK.k (k:=Sum.inr "moment") hd;rw [GV] at this;exact this
 let dp:∀{H'},aJ H H'->eK H' md (.str "pieces") (some (.ref pl)):=λs'=>by have:=eK.k (k:=Sum.inr "pieces") (s' _ _ hd);rw [Yr] at this;exact this
 let (ov,eo,off,rfl):=Yl (x:=x1) (a:=V.int 0) (b:=V.int 1) (c:=V.int 1) (d:=V.int sp) (e:=V.int (sp+1)) (f:=V.int (-1)) (Pr:=λv=>∃k:Int,v=.int k) {0,rfl} {1,rfl} {1,rfl} {_,rfl} {_,rfl} {_,rfl}
 refine Wp.ex (cU (n:=3) nd rfl (wY (wY (Vl.ex (v:=.int mo) 15#0 {mo,rfl,gX (vs:=[.int 0,.int 1,.int 1,.int sp,.int (sp+1),.int (-1)]) 15#0 (by show 6<=1000;decide) (λH' s'=>?_) eo λH1 s1=>{off,rfl,_,rfl,Vl.ex (v:=.int (x1 / 6 % 2)) ?_ {_,rfl,?_}}}))))
 ·have:=s' _ _ hx
  symm
 ·have:=s1 _ _ hx
  symm
 let M1:=M.same s1
 let ez:H1 pl=some (.lst ((cs.zip rs).map λz=>z.2)):=by rw [M1.l,G4 (D6 lr)]
 let d1:=dp s1
 refine qX (n:=5) (NB:=["_law_piece"]) (js:=[]) (cl:=[]) nd rfl {(rfl),rfl,rfl,rfl} rfl (Vl.ex (v:=.ref pl) 15#0 {_,pl,cs.zip rs,λz=>z.2,λz=>z.2,λz=>z.1.o.isSome,rfl,ez,by rw [A4];omega,λz hz G' sg C s H' fp pn=>?_,λz hz _ G' sg C s H' fp pn=>?_,λacc G' sg hAc=>?_})
 ·let (t',lv,e,h1,h2):=cI M1.r z hz
  let hn:(!decide (lv=V.non))=z.1.o.isSome:=by rw [h2.non];cases z.1.o <;> rfl
  let h1:=sg _ _ h1
  rw [e]
  apply Tv.is;symm;exact hn
 ·symm
 let t2:=s1.trans sg
 let M2:=M1.same sg
 let ez2:=sg _ _ ez
 let d2:=dp t2
 refine cU (n:=6) nd rfl {_,aY lP (by rfl) W.G.sorted kD (aA aP aC),Co (NB:=["_law_piece"]) (js:=[]) (cl:=[]) (zs:=cs.zip rs) (val:=λz:Pc × V=>z.2) (out:=λz=>V.int z.1.n) {(rfl),rfl,rfl,rfl} rfl 15#0 ez2 (by rw [A4];omega) (λz hz G2 sg2 C s H' fp pn=>?_) λacc2 G2 sg2 hA2=>?_}
 ·let (t',lv,e,h1,h2):=cI M2.r z hz
  let h1:=sg2 _ _ h1
  rw [e]
  symm
 let en:(cs.zip rs).map (λz=>V.int z.1.n)=(cs.map Pc.n).map V.int:=by
  let h1:(cs.zip rs).map (·.1)=cs:=List.map_fst_zip ∎
  conv=>rhs;rw [<- h1]
  rw [A0,A0];rfl
 rw [en] at hA2;refine {acc2,cs.map Pc.n,rfl,cM.of hA2,by rw [i6];omega,λl ns nl pm pw=>?_};let (H3,hh,s3,f3):=jJ nl (.lst (ns.map V.int));rw [hh];let t3:=t2.trans (sg2.trans s3);let (v,ev',mv):=yH (L:=[.str "lend",.str "tell",.str "tell",.str "tell",.str "lend",.str "back",.str "cut",.str "join",.str "tell",.str "lend"]) (n:=10) rfl 7#0 x0;obtain⟨way,rfl,hw⟩:∃way:Str,v=.str way/\(way="lend"\/way="cut"\/way="join"\/way="back"\/way="tell"):=by
  simp only [i9,List.not_mem_nil,or_false] at mv;rcases mv with rfl|rfl|rfl|rfl|rfl|rfl|rfl|rfl|rfl|rfl <;> exact {_,rfl,⋯}
 refine cU (n:=7) nd rfl (gX (vs:=[.str "lend",.str "tell",.str "tell",.str "tell",.str "lend",.str "back",.str "cut",.str "join",.str "tell",.str "lend"]) 15#0 (by show 10<=1000;decide) (λH' s'=>?_) ev' λH4 s4=>?_)
 ·have:=s' _ _ (t3 _ _ hx);symm
 let t4:=t3.trans s4;refine HU W hr (M.same t4) (t4 _ _ hb) e1 e4 (t4 _ _ hx) (s4 _ _ (s3 _ _ (sg2 _ _ hAc))) (u8 (C1 _ _) (by rw [A4];omega)) (λz hz=>?_) (s4 _ _ f3) (by rw [pm.length_eq,i6];exact lc) pk (λn hn=>?_) hw λr a way as H' s'=>q r a way as H' (t4.trans s')
 ·let (h1,h2):=u6.mp hz;refine {(C8 h1).1,(cI M.r z h1).same t4,?_};cases e:z.1.o with
  | none=>rw [e] at h2;cases h2
  | some t=>exact {(t),rfl}
 ·let (c,hc,e):=y0.mp (pm.mem_iff.mp hn);exact {(c),hc,e}
def EA (cs:List Pc):Nat:=cs.countP λc=>decide (c.m<c.h)
def Sk {cs:List Pc} {k:Nat} {c c':Pc} (h:cs[k]?=some c) (a:c.m<c.h) (h2:c'.m=c'.h):EA (cs.set k c')+1=EA cs:=by
 unfold EA;rw [(gG (c':=c') h).countP_eq,(jA h).countP_eq,F9,F9];simp only [decide_eq_true_eq];rw [if_neg ∎,if_pos a]
theorem Dw {α:Type}:∀{l:List α} {k:Nat} {a b:α},(l.set k a).set k b=l.set k b
 | [],_,_,_=>rfl
 | _::_,0,_,_=>rfl
 | x::l,k+1,a,b=>by show x::(l.set k a).set k b=x::l.set k b;rw [Dw]
structure KY (s0 s2:S8) (k:Nat) (c c2:Pc) (i:Int) (un:V):Prop where
 e:s2.cs=s0.cs.set k c2
 n:c2.n=c.n
 l:c2.l=c.l
 h:c2.h=c.h
 mo:s2.mo=i
 nt:s2.nt=s0.nt+1
 m1:c.m<=c2.m
 m2:c2.m<=c2.h
 u:((∃u,un=.int u)/\(∃u:Int,c2.o=some (s0.nt,("last":Str),u))/\c2.m<c2.h)\/(un=.non/\c2.m=c2.h)
inductive Rt (N:Cn) (vs:List V) (H:Hp) (Q:VK) (E0_:XK):Prop|mk (M:Pm) (A:Ad) (s:S8) (t:Nat) (bd:Addr) (i:Int) (_:vs=[.ref A.b,.ref bd,.int i]) (_:Go N M t H A s) (_:t<=100) (_:H bd=some (.tup [.int M.sp,.int M.ev,.int M.le])) (_:M.ev<=4) (_:1<=M.sp) (_:s.mo+M.sp<i) (_:∀(j:Int) (s':S8) (H':Hp),fX A.d A.d' H H'->Go N M t H' A s'->(∀c ∈ s'.cs,c.m=c.h/\c.o=none)->Q (.int j) H')
def Td (N:Cn):Sp:=Rt N
def JW:(["_law_k","_law_mark"]:List Str).Nodup:=⋯
def Vn:lF "last":=Xt ⋯ ⋯
def Fp {b:Lm.Ps} {sp:Int} {t:Nat} {s:S8} {c:Pc} {u:Int × Str × Int} {i:Int} (h:Iv b sp t s) (a:c ∈ s.cs) (e:c.o=some u) (hi:s.mo+sp<i):c.late i=true:=by
 have:=(h.op c a u e).2.2.2.1;unfold Pc.late;rw [e];exact decide_eq_true ∎
def pU:aK ["_law_book","_law_bounds_here","_law_moment","_law_turn","_law_lent","_law_mark","_law_until","_law_ahead","_law_numbers","_law_high"] ["_law_book","_law_bounds_here","_law_moment"] (aG Mp):=2#0
def Oj (W:3#0):kI P w K mg base dI "_law_ended" 7 (Td N):=W.d25.of λF=>by
 refine F.ok pU 11#0 (λb1 A a9 s H vs Q E hr h=>?_)
 ·let (M,A,s,t,bd,i,rfl,_):=h
  rfl
 let (M,y,s0,t,bd,i0,rfl,g0,lt,ak,e4,av,ad,q):=h
 let nd:=pU.nd
 let sl:sizeLine=16777216:=sizeLine_eq
 let ay:=g0.iv.ct
 let u0:EA s0.cs<=s0.cs.length:=List.countP_le_length
 refine Wp.ex ?_
 refine xI (n:=3) v7 W.G.range pU.nd rfl Jw {by decide,by decide} (λk σ H1=>∃(D:S8) (i:Int) (o3 o4 o5 o6 o7 o8 o9:Option V),σ=[some (.ref y.b),some (.ref bd),some (.int i),o3,o4,o5,o6,o7,o8,o9]/\fX y.d y.d' H H1/\Go N M t H1 y D/\D.mo+M.sp<i/\EA D.cs+k<=4+t) {s0,i0,_,_,_,_,_,_,_,rfl,fX.of (aJ.refl _),g0,ad,∎} (λk σ H1 D' hk h T=>?_) (λσ H1 h=>?_)
 rotate_left
 ·let (D,i,_,_,_,_,_,_,_,_,_,_,_,z):=h
  let z:EA D.cs+400<=4+t:=z
  omega
 let (D,i,o3,o4,o5,o6,o7,o8,o9,rfl,a5,x,hi,az):=h
 let (dx,a8):=x.bv.bk.ob
 let ax:=x.iv.ct
 let aa:D.mo<=i:=∎
 refine cU pU.nd (n:=4) rfl (nU (vs:=[.str "last",.int i]) 15#0 a8 W.B.cl (yO W) hr Yn 15#0 ?_)
 refine {y.b,y.pw,y.sh,y.d,M.sp,M.ev,M.le,D.nn,D.nt,D.mo,i,"last",y.ps,D.cs,rfl,x.bv.bk,∎,x.iv.nm,λc O=>(x.iv.nl c O).2,Vn,x.bv.t1,λz=>absurd z ∎,λ_ no H2 kt tb=>?_,λ_ k' p Y r H2 hp O ch fr tb bk a2=>?_,λ_ k' p Y q' r pl H2 nf nl hp O be h2 b0 fr tb bk a2=>?_}
 ·
  let (b',kp):=x.bv.keepT kt (.inl {(rfl),tb})
  apply Ag;symm;rfl
  apply Sc;symm
  refine T.rt _ _ (q i D H2 (a5.trans kp) {(b'),x.iv,x.wg,x.l1,x.e1} λc O=>?_)
  let f:=no.1 c O
  let l:=no.2.1 c O
  cases X:c.o with
  | some u=>rw [Fp x.iv O X hi] at l;cases l
  | none=>
   unfold Pc.free at f
   rw [X] at f
   refine {?_,rfl}
   have:(!decide (c.m=c.h))=false:=by simpa using f
   simpa using this
 rotate_left
 ·
  let bl:=be.2.1
  unfold Pc.lent at bl
  cases X:Y.o with
  | none=>rw [X] at bl;cases bl
  | some u=>
   have:=nl Y be.1
   rw [Fp x.iv be.1 X hi] at this
   cases this
 let (mc,op):=x.iv.low ch
 let (kp,t2,st):=x.bv.stepS hp λa o e n1 _ n3 n4=>fr a o e n1 n3 n4
 let a4:=a5.trans kp
 let ah:=x.iv.lendK (w:="last") O op aa ⋯
 let g2:Go N M t H2 y { D with nt:=D.nt+1,mo:=i,cs:=D.cs.set k' { Y with o:=some (D.nt,"last",i+M.sp) } }:={{(bk),st,tb,t2,x.bv.dd,x.bv.tt},ah,x.wg,x.l1,x.e1}
 apply vQ;symm;rfl
 show 5;show 6
 refine mE v7 (λm σ G'=>∃(J:S8) (g:Pc) (un:V) (o7 o8 o9:Option V),m=(Y.h-g.m).toNat/\σ=[some (.ref y.b),some (.ref bd),some (.int i),some (.int (0+(k:Int))),some (.ref r),some (.int g.m),some un,o7,o8,o9]/\fX y.d y.d' H2 G'/\Go N M t G' y J/\KY D J k' Y g i un) _
  {_,{ Y with o:=some (D.nt,"last",i+M.sp) },_,_,_,_,rfl,rfl,fX.of (aJ.refl _),g2,{rfl,rfl,rfl,rfl,rfl,rfl,q0 _,z4 op,.inl {{_,rfl},{_,rfl},op}}} (λm σ G' h=>?_)
 let (J,g,un,o7,o8,o9,rfl,rfl,S,v,I):=h
 let kl:k'<D.cs.length:=(i5.mp O).1
 let L:J.cs[k']?=some g:=by rw [I.e,E6 kl]
 let U:=j8 L
 let aq:=S.tup (a4.tup ak)
 rcases I.u with ⟨⟨u,rfl⟩,⟨u2,X⟩,au⟩|⟨rfl,md⟩
 rotate_left
 ·
  refine .inr {?_,?_};apply Tv.is;symm;rfl
  show 2
  refine cD (T.nx _ _ {J,_,_,_,_,_,_,_,_,rfl,a4.trans S,v,?_,?_})
  ·rw [I.mo];omega
  ·have:=Sk (c':=g) O op md
   rw [I.e]
   omega
 refine .inl {?_,λD2 T2=>?_};apply Tv.is;symm;rfl
 show 7
 let ht:g.has D.nt=true:=by unfold Pc.has;rw [X];exact decide_eq_true rfl
 let aj:=S.tup a2
 let e1:=x.e1
 let aw:=v.iv.bnd v.wg U
 let a6:=v.iv.lm g U
 refine cU (n:=8) nd rfl {_,bZ dA (by rfl) W.G.tuple gM (aA aP aC),?_}
 refine Cm (NB:=["_law_k","_law_mark"]) (js:=[5]) (cl:=[("_law_mark",s.heap.objs.size+1)]) (out:=λj=>V.int (Bf (g.m+(0+(j:Int))))) rfl ⋯ ⋯ (fA.of rfl (all_cons rfl bJ) (all_cons 13#0 (all_cons 13#0 (all_cons 13#0 (all_cons (λ_=>rfl) bJ)))) rfl
        (λk j h=>match k,j,h with|0,_,rfl=>rfl|k+1,_,h=>absurd h 6#0) (all_cons {.inl rfl,.inl rfl,rfl} bJ)) W.G.range (j:=M.ev) 15#0 ∎ JW rfl (λi hi G' s' R q C s H' fp pn=>?_) λao G' sg hA=>?_
 ·refine dN (vs:=[.int (g.m+(0+(i:Int)))]) (Ez W) hr aO 15#0 {_,rfl,∎,∎,q _ (aJ.refl _)}
 refine {ao,_,rfl,.inl {cM.of hA,λp3 n3=>?_}}
 obtain⟨ns,ap,ae⟩:∃ns:List Int,((List.range M.ev.toNat).map λ(j:Nat)=>V.int (Bf (g.m+(0+(j:Int)))))=ns.map V.int/\ns.length=M.ev.toNat:={(List.range M.ev.toNat).map λ(j:Nat)=>Bf (g.m+(0+(j:Int))),by rw [A0];rfl,by rw [i6,v6]}
 rw [ap]
 let (G3,hh,s3,f3):=jJ n3 (.tup (ns.map V.int))
 rw [hh]
 let t3:=sg.trans s3
 let g4:=v.same t3
 let ar:=t3 _ _ aj
 let (b2,a3):=g4.bv.bk.ob
 let fe:=qF (ns:=ns) (lo:=g.m-g.m) (hi:=g.h-g.m) ∎ ∎
 let fl:1<=((fB ns (some (g.m-g.m)) (some (g.h-g.m))).length:Int)/\((fB ns (some (g.m-g.m)) (some (g.h-g.m))).length:Int)<=g.h-g.m/\((fB ns (some (g.m-g.m)) (some (g.h-g.m))).length:Int)<=M.ev:=by
  rw [fe,t9,D0,ae,Int.sub_self,Int.sub_zero,Int.toNat_zero,Nat.sub_zero];omega
 let a1:=v.iv.op g U _ X;let (wq,af,w1,w2):=v.iv.inw v.wg U;let lw:=v.wg.ln;let lk:=v.iv.kvl;refine {_,aD (wM aP (fU (n:=3) rfl (bA (aM (i:=5) nd rfl (K9 rfl)) (bA (aM (i:=9) nd rfl (j9 rfl)) (bA (aM (i:=6) nd rfl (j9 rfl)) dO))))) aS,?_};refine nU (vs:=[.int D.nt,.int g.m,.ref p3,.int i]) 15#0 a3 W.B.cl (Nt W) hr aO 15#0 ?_;refine {y.b,y.pw,y.sh,y.d,y.pw',y.d',p3,M.sp,M.ev,M.le,J.nn,J.nt,J.mo,D.nt,i,g.m,y.ps,J.cs,k',p,g,M.ws,J.kv,ns,rfl,g4.bv.bk,g4.bv.st,by rw [I.mo];exact q0 _,a1.1,a1.2.1,hp,L,ht,λj e hj l=>v.iv.oneTk' L ht j e hj l,f3,∎,a6.1,q0 _,∎,∎,∎,λj n e l=>absurd l ∎,v.iv.nm,v.bv.dd,∎,∎,{ ∎,∎,{wq,af,∎,∎},λj hj=>v.iv.hd.noV (v.iv.fresh L ∎ ∎)},λr5 H5 a0 ag am al=>?_};generalize fB ns (some (g.m-g.m)) (some (g.h-g.m))=Z at *;let (a7,ac,_,_):=g4.bv.step hp λa o e n1 _ n3 _ n5=>a0 a o e n1 n3 n5;let ai:=g4.bv.stepT hp λa o e n1 _ n3 n5=>a0 a o e n1 n3 n5;let an:=v.iv.told (fr:=Z) (i:=i) v.wg L ∎ (by rw [I.mo];exact q0 _);let g5:Go N M t H5 y _:={{(ag),am,ai,ac,v.bv.dd,v.bv.tt},an,v.wg,v.l1,v.e1};refine {r5,_,rfl,cG.of al,rfl,_,_,rfl,_,_,rfl,_,_,rfl,rfl,?_};apply vQ;symm;exact decide_eq_false ∎;let mh:=I.h;refine cD (T2.nx _ _ {(Y.h-(g.m+(Z.length:Int))).toNat,∎,_,g.told Z.length (i+M.sp),_,_,_,_,rfl,rfl,S.trans ((fX.of t3).trans a7),g5,{by show J.cs.set _ _=_;rw [I.e,Dw],I.n,I.l,mh,rfl,I.nt,?_,?_,?_}})
 ·have:=I.m1;show Y.m<=g.m+(Z.length:Int);omega
 ·show g.m+(Z.length:Int)<=g.h;omega
 by_cases z:g.m+(Z.length:Int)=g.h
 ·exact .inr {if_pos z,z}
 refine .inl {{_,if_neg z},{i+M.sp,?_},?_}
 ·show (if g.m+(Z.length:Int)=g.h then none else g.o.map λt=>(t.1,t.2.1,i+M.sp))=_;rw [if_neg z,X];rfl
 ·show g.m+(Z.length:Int)<g.h;omega
abbrev BU:List Str:=["_law_script","_law_work_here","_law_bounds_here","_law_book","_law_model_here","_law_cell","_law_way","_law_asked_here","_law_before","_law_lent","_law_spot","_law_told","_law_word","_law_places","_law_low","_law_high"]
def Ub {lo hi:Int}:wJ lo (hi-lo).toNat=(cV lo (hi-lo).toNat).map V.int:=by unfold wJ cV;rw [A0];rfl
structure HW (M:Pm) (a:Lm.Ps):Prop where
 wk:Lm.Wk a
 ln:a.length<=4
 mm:∀x,Lm.mem M.ws x↔Lm.mem a x
def HW.wid {M:Pm} {a:Lm.Ps} (w:HW M a) (g:Wg M.ws) {q:Int × Int} (d:q ∈ a):q.2-q.1<=1000/\-(2 ^ 61)<=q.1/\q.2<=2 ^ 61:=by
 let e:=Lm.Wk.lt w.wk q d;let b:∀x,q.1<=x->x<q.2->Lm.mem M.ws x:=λx i h=>(w.mm x).mpr {(q),d,i,h};let l:=g.sz (cV q.1 (q.2-q.1).toNat) (iY _ _) λx f=>by
  have:=dC.mp f;exact b x ∎ ∎
 have:(cV q.1 (q.2-q.1).toNat).length=(q.2-q.1).toNat:=by unfold cV;rw [i6,v6]
 let k:=g.bd q.1 (b _ (q0 _) e);let j:=g.bd (q.2-1) (b _ ∎ ∎);omega
def HW.all {M:Pm} {a:Lm.Ps} (w:HW M a) (g:Wg M.ws):(dR a).length<200:=g.sz _ (iM (qD w.wk)) λx b=>(w.mm x).mpr (jU.mp b)
theorem Go.len {N:Cn} {M:Pm} {t:Nat} {H:Hp} {A:Ad} {s:S8} (g:Go N M t H A s) {ks:List Int} (a:ks.Pairwise (·<·)) (h2:∀x,x ∈ ks↔x ∈ s.ns):ks.length<900:=by
 have:=((N9 (iM a) g.iv.hd.nd).mpr h2).length_eq;have:=g.iv.hd.len;omega
def Cd {a b:List Int} (e:a.Pairwise (·<·)) (d:b.Pairwise (·<·)) (h:∀x,x ∈ a↔x ∈ b):a=b:=rH ((N9 (iM e) (iM d)).mpr h) (Fi e) (Fi d)
def Tj {d:Lm.Ps} (w:Lm.Sh d) (h:∀x,¬ Lm.mem d x):d=[]:=by
 cases d with
 | nil=>rfl
 | cons q d=>exact absurd {q,j1 ..,q0 _,w.1} (h q.1)
def Eb:aK BU ["_law_script"] (aG lS):=2#0
abbrev Jn (P:Program) (w:World) (K:Frag) (mg:Str->Option Value) (base:Heap) (f:Addr) (cdv:Value) (A:Around) (outer:List Env) (s:Shared) (H:Hp) (E:XK):Cx:=(hU dI P w K mg base BU "law" (aG lS) f cdv A outer s H E).nox
def Vm {f:Addr} {cdv:Value} {A:Around} {outer:List Env} {s:Shared} {H:Hp} {E:XK} {D:eM} {M:Pm} {Ab:Ad} {F:S8} {tt:Nat} {wk bd:Addr} {a:Lm.Ps} {o0 o4 o5 o6 o7 o8 o9 a5 Y a2 ag J S:Option V} {H2:Hp} (W:3#0) (O:Room 9 (A.deeper (PyProof.Rows.envOfC "law" (aG lS) s.heap.objs.size f cdv))) (g:Go N M tt H2 Ab F) (lt:tt<=50) (hw:cJ H2 wk a) (wo:HW M a) (ac:H2 bd=some (.tup [.int M.sp,.int M.ev,.int M.le])) (e4:M.ev<=4) (af:1<=M.sp) (q:∀H',D.rt (.bl true) H'):Wp (Jn P w K mg base f cdv A outer s H E) ((bG lS).drop 5) D [o0,some (.ref wk),some (.ref bd),some (.ref Ab.b),o4,o5,o6,o7,o8,o9,a5,Y,a2,ag,J,S] H2:=by
 let nd:=Eb.nd;let sl:sizeLine=16777216:=sizeLine_eq;let (dx,a6):=g.bv.bk.ob;refine {_,aD (bV (bS oJ (aX (Oj W) O aO (aA (pv 3) (aA (pv 2) (aA (bO dW (bO dW aP aP) aR) aC)))) eU (bE _)) cR aZ) aS,?_};refine {_,rfl,_,rfl,iR 15#0 a6 W.B.cl (Nz W) O aO {Ab.b,Ab.pw,Ab.sh,Ab.d,M.sp,M.ev,M.le,F.nn,F.nt,F.mo,rfl,{(dx),a6},Vl.to (v:=.int M.sp) 15#0 _ {_,_,rfl,rfl,_,_,rfl,rfl,M,Ab,F,tt,bd,_,rfl,g,∎,ac,e4,af,by show F.mo+M.sp<F.mo+M.sp+1;omega,λj m H3 ah g3 dn=>{rfl,_,rfl,dE ?_}}}};refine qY (n:=13) nd rfl nZ (l7 _) λl H4 nl s4 f4=>?_;let g4:=g3.same s4;let aa:cJ H4 wk a:=(cJ.kpl ah hw).same s4;let (xs,hx,pr):=id aa;let lx:=pr.length;let l2:=wo.all g.wg;refine Dj v7 (fU (n:=2) rfl (bA (aM (i:=14) nd rfl (j9 rfl)) (bA (aM (i:=15) nd rfl (j9 rfl)) dO))) 15#0 hx (λi σ U=>∃(l:Addr) (J S:Option V),σ=[o0,some (.ref wk),some (.ref bd),some (.ref Ab.b),o4,o5,o6,o7,o8,o9,a5,Y,a2,some (.ref l),J,S]/\aJ H4 U/\U l=some (.lst ((dR (a.take i)).map V.int))) {l,_,_,rfl,aJ.refl _,f4} (λi σ U _ h=>?_) (λi x σ U D' ae h T=>?_) (λσ U h=>?_)
 ·let (l,_,_,rfl,X,_):=h;exact X _ _ hx
 ·let (l,_,_,rfl,X,hl):=h;let (k,hq,b,rfl,hb):=aN pr ae;let (wd,w1,w2):=wo.wid g.wg (j8 hq);let ql:=Lm.Wk.lt wo.wk k (j8 hq);let k1:dR (a.take (i+1))=dR (a.take i)++cV k.1 (k.2-k.1).toNat:=by
   rw [A6,hq,nJ];unfold dR;show _++List.flatMap _ [k]=_;rw [List.flatMap_singleton]
  let le:(dR (a.take i)).length<=(dR a).length:=by
   have:dR a=dR (a.take i)++dR (a.drop i):=by rw [<- nJ,z6]
   rw [this,p8];omega
  let lu:(cV k.1 (k.2-k.1).toNat).length=(k.2-k.1).toNat:=by unfold cV;rw [i6,v6]
  refine {b,_,rfl,cG.of (X _ _ hb),rfl,_,_,rfl,_,_,rfl,rfl,?_};refine cU (n:=13) nd rfl {_,bO jS (pv 13) (bZ (tJ rfl) (by rfl) W.G.list Cs (aA (bZ zQ (by rfl) W.G.range PyProof.Rows.boot_range (aA (pv 14) (aA (pv 15) aC))) aC)),?_};refine {_,rfl,_,rfl,_,rfl,_,_,rfl,λr nr=>?_};let (H5,L,s5,f5):=jJ nr (.rng k.1 k.2);rw [L];refine {r,_,_,rfl,f5,{ ∎,∎,∎,∎},∎,λl5 n5=>?_};rw [Ub];let (H6,L,s6,f6):=jJ n5 (.lst ((cV k.1 (k.2-k.1).toNat).map V.int));rw [L];refine {l,l5,_,_,rfl,rfl,s6 _ _ (s5 _ _ hl),f6,by rw [i6,i6];omega,λp np=>cD (T.nx _ _ ?_)};exact {p,_,_,rfl,X.trans (s5.trans (s6.trans (aI np))),by rw [aB,k1,u7]}
 let (l,_,_,rfl,X,hl):=h;rw [w5 ∎] at hl;let g5:=g4.same X;refine {_,aD (bV (PW.pt (fW (bS (wQ O.units) (aY (lQ rfl) (by rfl) W.G.sorted kD (aA aP aC)) (pv 13) (bE _)) (eL (bS (wQ O.units) aP (bL aC) (bE _))))) cR aZ) aS,?_};refine dN (vs:=[.ref Ab.b]) (sE W) O aO 15#0 {M,Ab,m,tt,rfl,g5,λr ks H5 s5 nr a8 so mk=>?_};let lk:=g5.len so mk;refine {r,_,ks,rfl,a8,Ib,∎,λl6 I n6 pm pw=>?_};let en:=rH pm pw (Fi so);subst en;let a4:I=dR a:=Cd so (qD wo.wk) λx=>by
  rw [mk x,g3.iv.nx x,jU,<- wo.mm x,g3.iv.cv x];constructor
  ·rintro⟨c,u,Z,z2⟩;exact⟨c,u,Z,by have:=(dn c u).1;omega⟩
  ·rintro⟨c,u,Z,z2⟩;exact⟨c,u,Z,by have:=(dn c u).1;omega⟩
 let (H6,L,s6,f6):=jJ n6 (.lst (I.map V.int));rw [L];let t6:=s5.trans s6;refine {_,rfl,fQ I,fQ (dR a),fO f6,fO (t6 _ _ hl),dM _,dM _,_,rfl,?_};rw [<- a4,kB];refine dE ?_;let t:=g5.same t6;let (a9,y):=t.bv.bk.ob;let lw:=t.wg.ln;refine iR 15#0 y W.B.cl (Hr W) O aO {Ab.b,Ab.pw,Ab.sh,Ab.d,Ab.pw',Ab.d',M.sp,M.ev,M.le,m.nn,m.nt,m.mo,M.ws,m.kv,rfl,{(a9),y},t.bv.st,Ab.sh,Ab.pw',Ab.d',M.ws,m.kv,m.ns,rfl,t.bv.st,t.wg.sh,∎,t.iv.hd.key,t.iv.hd.nd,t.iv.hd.len,λr7 d7 H7 s7 w7 a7 m7 _=>?_};let d0:d7=[]:=Tj a7 λx hx=>by
  let (h1,h2):=(m7 x).mp hx;let (c,u,Z,z2):=(g3.iv.cv x).mp h1;exact h2 ((g3.iv.nx x).mpr ⟨c,u,Z,by have:=(dn c u).1;omega⟩)
 subst d0;let (ak,h7,p7):=w7;cases p7;refine {l7 _,λt8 n8=>?_};let (H8,L,s8,f8):=jJ n8 (.tup []);rw [L];refine {nK [],nK [],kP (ns:=[]) (s8 _ _ h7),kP (ns:=[]) f8,gB _,gB _,_,rfl,?_};rw [vE];refine dE ?_;let g8:=t.same (s7.trans s8);let (aj,a1):=g8.bv.bk.ob;let c8:=g8.iv.ct;refine fD {_,aY (tK rfl) (by rfl) W.G.all tL (aA aP aC),Wi (NB:=["_law_piece"]) (js:=[]) (cl:=[]) {(rfl),rfl,rfl,rfl} rfl (iR 15#0 a1 W.B.cl (oK W) O aO {Ab.b,Ab.pw,Ab.sh,Ab.d,M.sp,M.ev,M.le,m.nn,m.nt,m.mo,Ab.ps,m.cs,rfl,g8.bv.bk,∎,g8.bv.t2,λr9 H9 rs o k9 _ al e9 a0 _ a3=>?_})};let lr:=a3.length;let lp:=a0.length_eq;let ez:H9 r9=some (.lst ((o.zip rs).map λz=>z.2)):=by rw [e9,G4 ∎]
 refine {_,r9,o.zip rs,λz=>z.2,λ_=>V.bl true,rfl,ez,by rw [A4];omega,λz hz U ad C s H' fp pn=>?_,λai G2 F hA=>{ai,List.replicate (o.zip rs).length true,rfl,cM.of ?_,?_}}
 ·let (t',lv,e,h1,h2):=cI a3 z hz;let (m1,m2):=dn z.1 (a0.mem_iff.mp (C8 hz).1);rw [m2] at h2;rw [m1] at h1;cases lv with
  | non=>
   rw [e];let h1:=ad _ _ h1;apply Vl.is
   ·apply EU
    ·apply Xu iL;symm;symm;(intro Q qq;exact {(rfl),qq});exact bE _
    ·intro _;apply Xu oJ;symm;symm;(intro Q qq;exact {(rfl),qq});exact bE _
   ·rw [decide_eq_true rfl];rfl
  | _=>exact h2.elim
 ·rw [hA,List.map_replicate,List.map_const']
 ·let ea:(List.replicate (o.zip rs).length true).all id=true:=by simp
  rw [ea];exact q _
def zD:Stmt->List Stmt
 | .For _ _ b _ _=>b
 | _=>[]
def Bv.but {x B y u r:Addr} {sp t v:Int} {C:Lm.Ps} {H H':Hp} {A:Ad} {s:S8} {i:Addr} {kv:List (bK × V)} (h:Bv x B y u r sp t v C H A s) (e:H i=some (.dK kv)) (D:A.d≠i) (J:A.d'≠i) (k:∀a o,H a=some o->a≠i->H' a=some o):Bv x B y u r sp t v C H' A s:=by
 let ((E,I),O,j):=h.bk;let ((F,M),(L,l,p),m):=h.st;let g:∀a o,H a=some o->(∀kv,o≠.dK kv)->H' a=some o:=λa o z n=>k a o z (aL z e (n _));refine {{{E,g _ _ I (by intro _ z;cases z)},k _ _ O D,aV (λ_ _ ⟨G,⟨dy,ha⟩,hl⟩=>{G,{dy,g _ _ ha (by intro _ z;cases z)},hl.move λq S z=>g _ _ z (by intro _ z;cases z)}) j},{{F,g _ _ M (by intro _ z;cases z)},{L,g _ _ l (by intro _ z;cases z),aV (λ_ _ ⟨b,z1,z2⟩=>{b,z1,g _ _ z2 (by intro _ z;cases z)}) p},k _ _ m J},jO h.t1 (λQ z=>g _ _ z (by intro _ z;cases z)) (λa f z=>g _ _ z (by intro _ z;cases z)),jO h.t2 (λQ z=>g _ _ z (by intro _ z;cases z)) (λa f z=>g _ _ z (by intro _ z;cases z)),h.dd,h.tt}
theorem Go.but {N:Cn} {M:Pm} {t:Nat} {H H':Hp} {A:Ad} {s:S8} {b:Addr} {kv:List (bK × V)} (g:Go N M t H A s) (e:H b=some (.dK kv)) (h:A.d≠b) (f:A.d'≠b) (k:∀a o,H a=some o->a≠b->H' a=some o):Go N M t H' A s:={g.bv.but e h f k,g.iv,g.wg,g.l1,g.e1}
def fC.but {H H':Hp} {b:Addr} {kv:List (bK × V)} (e:H b=some (.dK kv)) (k:∀a o,H a=some o->a≠b->H' a=some o) {v:V} {c:Pc} (h:fC H v c):fC H' v c:=by
 let (t,f,i,d,g):=h;exact {t,f,i,k _ _ d (aL d e 1#0),g.move λq j z=>k _ _ z (aL z e 1#0)}
def fX.but {d:Addr} {H H':Hp} (k:∀a o,H a=some o->a≠d->H' a=some o) {kv:List (bK × V)} (e:H d=some (.dK kv)):fX d d H H':=λa o z p=>k a o z (by
 rcases p with p|⟨_,p,_⟩
 ·exact λy=>by subst y;rw [e] at z;cases z;cases p
 ·exact p)
def Ud (K:Frag):List V->Hp->VK->Prop:=λxs H Q=>∃p ys,xs=[.ref p]/\(cM K H p ys\/cG K H p ys)/\∀l,H l=none->Q (.ref l) (upd H l (.lst ys))
def fN {H:Hp} {d:Addr} {u:HO}:∀a o,H a=some o->a≠d->(upd H d u) a=some o:=λa o e n=>by rw [aE n];exact e
def Zg {f:Addr} {cdv:Value} {A:Around} {outer:List Env} {s:Shared} {H:Hp} {E:XK} (W:3#0) (Y:Room 9 (A.deeper (PyProof.Rows.envOfC "law" (aG lS) s.heap.objs.size f cdv))):∃t,pJ (hU dI P w K mg base BU "law" (aG lS) f cdv A outer s H E).nox ((zD ((bG lS).getD 4 (.Pass {0,0,0,0}))).drop 8) t /\
   ∀(D:eM) (M:Pm) (Ab:Ad) (l:S8) (I:Nat) (a pl:Addr) (g mo:Int) (x y z:V) (v:List V) (cs:List Pc) (L F S C G O Q J e h j o n i:Option V) (m:Hp),Go N M I m Ab l->m a=some (.dK (uY (.ref pl) (.int g) x (.int mo) y z))->m pl=some (.lst v)->Paired (fC m) v cs->0<=g->Ab.d≠a->Ab.d'≠a ->
    (∀(mo:Int) (H':Hp),fX a a m H'->Go N M I H' Ab l->tQ H' a pl g mo v cs->D.nx [L,F,S,some (.ref Ab.b),some (.ref a),C,G,O,Q,J,e,h,j,o,n,i] H') ->
    t D [L,F,S,some (.ref Ab.b),some (.ref a),C,G,O,Q,J,e,h,j,o,n,i] m:=by
 let hu:=jY Y;refine {_,aH (kU hu (pv 4) bC (bX (pv 3) W.B.cl (Nz W) Y aO) rfl),?_};intro D M Ab l I a pl g mo x y z v cs L F S C G O Q J e h j o n i m U u X p g0 Z n2 q;let (T,r):=U.bv.bk.ob;refine {_,rfl,Ab.b,T,_,rfl,r,rfl,Ab.b,Ab.pw,Ab.sh,Ab.d,M.sp,M.ev,M.le,l.nn,l.nt,l.mo,rfl,{(T),r},_,rfl,a,_,rfl,pO.k (k:=Sum.inr "moment") u (by show 6<sizeLine;decide),?_};rw [Oy];exact q l.mo _ (fX.but fN u) (U.but u Z n2 fN) {{_,_,_,aB},fN _ _ X (aL X u 1#0),aV (λ_ _ z=>fC.but u fN z) p,g0}
def Zh {f:Addr} {cdv:Value} {A:Around} {outer:List Env} {s:Shared} {H:Hp} {E:XK} {D:eM} {M:Pm} {Ab:Ad} {Y:S8} {tt:Nat} {t pl:Addr} {g mo:Int} {x y z F:V} {S:Str} {o0 o1 o2 o5 o7 o8 o9 T O U Q X:Option V} {H2:Hp} (W:3#0) (hr:Room 9 (A.deeper (PyProof.Rows.envOfC "law" (aG lS) s.heap.objs.size f cdv))) (J:Go N M tt H2 Ab Y) (lt:tt<=50) (hm:H2 t=some (.dK (uY (.ref pl) (.int g) x (.int mo) y z))) (g0:0<=g) (n1:Ab.d≠t) (n2:Ab.d'≠t) (q:∀(pl:Addr) (g mo:Int) (rs:List V) (cs:List Pc) (H':Hp),fX t t H2 H'->Go N M tt H' Ab Y->tQ H' t pl g mo rs cs->cs.Perm Y.cs->D.nx [o0,o1,o2,some (.ref Ab.b),some (.ref t),o5,some (.str S),o7,o8,o9,T,some F,O,U,Q,X] H'):Wp (Jn P w K mg base f cdv A outer s H E) ((zD ((bG lS).getD 4 (.Pass {0,0,0,0}))).drop 6) D [o0,o1,o2,some (.ref Ab.b),some (.ref t),o5,some (.str S),o7,o8,o9,T,some F,O,U,Q,X] H2:=by
 let hu:=jY hr;refine {_,aD (kU hu (pv 4) bC (dL (NB:=["_law_piece"]) (n:=1) (js:=[]) (g:=cS 0) (cl:=[]) rfl ⋯ ⋯ rfl (pP.all {(rfl),rfl,rfl,rfl}).2.2.2.1 (eZ (bX (pv 3) W.B.cl (oK W) hr aO)) (λ_ s H fp pn=>aM (i:=0) JQ rfl (j9 rfl) (.inr rfl)) (λ_ s H fp pn=>dZ) (λ_ s H fp pn=>bZ (r:=Ud K) wZ (by rfl) W.G.list Cs (aA (pv 0) aC))) rfl) aS,?_};let sl:sizeLine=16777216:=sizeLine_eq;let (dx,ac):=J.bv.bk.ob;let lc:=J.iv.ct;refine {_,rfl,Ab.b,dx,_,rfl,ac,rfl,Ab.b,Ab.pw,Ab.sh,Ab.d,M.sp,M.ev,M.le,Y.nn,Y.nt,Y.mo,Ab.ps,Y.cs,rfl,J.bv.bk,∎,J.bv.t2,λr9 H3 rs j k9 _ aa e9 a2 _ a4=>?_};let (b3,af):=J.bv.keepT k9 (.inr {(rfl),aa});let (q2,a1,_):=J.bv.t2;let a8:H3 t=some (.dK (uY (.ref pl) (.int g) x (.int mo) y z)):=(k9.toT a1).at hm;let k3:fX t t H2 H3:=λa o e k=>(k9.toT a1).at e λps z=>by subst z;rcases k with k|⟨⟨_,k⟩,_⟩ <;> cases k
 let lr:=a4.length;let lp:=a2.length_eq;let ez:H3 r9=some (.lst ((j.zip rs).map λz=>z.2)):=by rw [e9,G4 ∎]
 let lz:(j.zip rs).length=j.length:=by rw [A4];omega
 refine {r9,rfl,{_,cM.of ez},λp na=>?_};refine {λi m ys L=>m=j.length-i/\i<=j.length/\aJ H3 L/\L p=some (.lst ys)/\Paired (λv c=>v≠.ref p/\fC L v c) ys (j.take i),{_,rfl,l7 _,aI na,aB,.nil},?_};rintro i m ys L ⟨rfl,hi,Z,hA,u⟩;refine {hA,?_};by_cases a9:i<j.length
 ·refine .inr {{_,_,cM.of (Z _ _ ez),i3 (by rw [i6];omega)},λyv a3 hy=>?_};let (rfl,hy):=hy;let ey:=hy _ (cM.of (Z _ _ ez));let iz:(j.zip rs)[i]?=some (j.zip rs)[i]:=i3 ∎;rw [j7,iz] at ey;cases ey;let (t',lv,e,h1,h2):=cI a4 _ (j8 iz);let ec:j[i]?=some (j.zip rs)[i].1:=(z8.mp iz).1;generalize (j.zip rs)[i]=zz at e h1 h2 ec ⊢;let (zc,zv):=zz;cases (show zv=.ref t' from e);refine {rfl,fH (dD {_,rfl,t',_,rfl,.inr (cG.of (Z _ _ h1)),λl nl=>?_})};let (G5,hh,s5,e5):=jJ nl (.lst [.int zc.n,.int zc.l,.int zc.h,.int zc.m,lv]);rw [hh];let C:=s5 _ _ hA;let ly:ys.length=i:=by
   have:=u.length;rw [t9] at this;omega
  refine {C,∎,_,?_,rfl,a9,?_,aB,?_}
  ·omega
  ·intro b' o z;rw [aE (aF z na)];exact s5 _ _ (Z _ _ z)
  ·let mv:∀q' zs,a3 q'=some (.tup zs)->(upd G5 p (.lst (ys++[.ref l]))) q'=some (.tup zs):=λq' zs h=>by rw [aE (aL (s5 _ _ h) C 1#0)];exact s5 _ _ h
   let kp:∀v c,v≠.ref p->fC a3 v c->fC (upd G5 p (.lst (ys++[.ref l]))) v c:=λv c nv ⟨t',lv',h1,h2,h3⟩=>by
    let nt:t'≠p:=λz=>nv (by rw [h1,z]);exact {t',lv',h1,by rw [aE nt];exact s5 _ _ h2,h3.move mv}
   rw [A6,ec];let a6:l≠p:=(aF hA nl).symm;refine cY (aV (λv c z=>{z.1,kp v c z.1 z.2}) u) {λz=>a6 (V.ref.inj z),l,lv,rfl,by rw [aE a6,e5],?_};exact(h2.move λ_ _ z=>Z _ _ z).move mv
 ·refine .inl {{_,cM.of (Z _ _ ez),by rw [i6];omega},?_};rw [w5 ∎] at u;let u:=aV (λv c z=>z.2) u;let I:=Z _ _ a8;let g4:Go N M tt L Ab Y:=Go.same Z {(b3),J.iv,J.wg,J.l1,J.e1};refine {_,rfl,t,_,rfl,pO.k (k:=Sum.inr "pieces") I (by show 6<sizeLine;decide),?_};rw [Ox];let k5:∀a o,L a=some o->a≠t->(upd L t (.dK (uY (.ref p) (.int g) x (.int mo) y z))) a=some o:=λa o e n=>by rw [aE n];exact e
  let f5:(upd L t (.dK (uY (.ref p) (.int g) x (.int mo) y z))) t=some (.dK (uY (.ref p) (.int g) x (.int mo) y z)):=aB;generalize upd L t (.dK (uY (.ref p) (.int g) x (.int mo) y z))=H5 at k5 f5 ⊢;let g5:=g4.but I n1 n2 k5;let a0:=aV (λ_ _ z=>fC.but I k5 z) u;let C:=k5 _ _ hA (aL hA I 1#0);let ad:=k3.trans ((fX.of Z).trans (fX.but k5 I));let dg:eK H5 t (.str "given") (some (.int g)):=by have:=eK.k (k:=Sum.inr "given") f5;rw [Ys] at this;exact this
  refine {_,aD (kU hu (pv 4) bC (bO dW (gQ hu (pv 4) bC 12#0) (bZ fG (by rfl) W.G.int kE (aA (gK (eA iL (pv 6) bC (bE _)) (gZ (eA wP (pv 11) eU (bE _)))) aC))) rfl) aS,?_};refine {_,rfl,t,_,rfl,dg,_,rfl,rfl,_,rfl,?_};let a5:∀g':Int,0<=g'->Wp (Jn P w K mg base f cdv A outer s H E) ((zD ((bG lS).getD 4 (.Pass {0,0,0,0}))).drop 8) D [o0,o1,o2,some (.ref Ab.b),some (.ref t),o5,some (.str S),o7,o8,o9,T,some F,O,U,Q,X] (upd H5 t (.dK (uY (.ref p) (.int g') x (.int mo) y z))):=λg' h0=>by
   let (tC,pC,hC):=Zg (f:=f) (cdv:=cdv) (A:=A) (outer:=outer) (s:=s) (H:=H) (E:=E) W hr;exact {tC,pC,hC D M Ab Y tt t p g' mo x y z ys j o0 o1 o2 o5 _ o7 o8 o9 T _ O U Q X _ (g5.but f5 n1 n2 fN) aB (fN _ _ C (aL C f5 1#0)) (aV (λ_ _ z=>fC.but f5 fN z) a0) h0 n1 n2 λa7 H' ae g' M'=>q p _ a7 ys j H' (ad.trans ((fX.but fN f5).trans ae)) g' M' a2}
  by_cases hw:S="lend"
  ·refine dX (by rw [hw];exact oW) {_,rfl,rfl,.inr {_,rfl,_,_,rfl,rfl,_,rfl,t,_,rfl,pO.k (k:=Sum.inr "given") f5 (by show 6<sizeLine;decide),?_}};rw [yW];exact a5 _ (by split <;> omega)
  ·refine dH (gF hw) (.inr {_,rfl,_,_,rfl,rfl,_,rfl,t,_,rfl,pO.k (k:=Sum.inr "given") f5 (by show 6<sizeLine;decide),?_});rw [yW];exact a5 _ (by split <;> omega)
def Lp (N:Cn) (M:Pm) (A:Ad) (md wk bd:Addr) (a:Lm.Ps) (k:Nat) (G:Hp):Prop:=∃(ps:List Addr) (s:S8) (pl:Addr) (g mo:Int) (rs:List V) (cs:List Pc),Go N M k G { A with ps:=ps } s/\tQ G md pl g mo rs cs/\cs.Perm s.cs/\A.d≠md/\A.d'≠md/\cJ G wk a/\G bd=some (.tup [.int M.sp,.int M.ev,.int M.le])
def BC {N:Cn} {M:Pm} {t:Nat} {H:Hp} {A:Ad} {s:S8} {cs:List Pc} (g:Go N M t H A s) (p:cs.Perm s.cs) (d:t<=500):IB cs:=by
 refine⟨λc a=>?_,λc a t e=>(g.iv.op c (p.mem_iff.mp a) t e).2.2.2.2,by have:=p.length_eq;have:=g.iv.ct;omega⟩;let b:=p.mem_iff.mp a;have:=g.iv.lm c b;have:=g.iv.bnd g.wg b;exact { ∎,∎,∎,∎}
def HJ {g:Lm.Ps} {sp:Int} {t:Nat} {s:S8} {k:Nat} {c:Pc} {fr ks ks':List Int} (l:Iv g sp t s) (i:s.cs[k]?=some c) (o:c.m+(fr.length:Int)<=c.h) (n:ks.Pairwise (·<·)) (d:∀x,x ∈ ks↔x ∈ s.ns) (e:ks'.Pairwise (·<·)) (a:∀x,x ∈ ks'↔x ∈ s.ns++cV c.m fr.length):
  (∀x ∈ ks,x ∈ ks'/\Yx s.vf c.m fr x=s.vf x)/\(ks'.filter λx=>!decide (x ∈ ks))=cV c.m fr.length/\∀x ∈ cV c.m fr.length,x ∈ ks':=by
 let f:∀x,x ∈ cV c.m fr.length->x ∉ s.ns:=λx b=>by
  have:=dC.mp b;exact l.fresh i ∎ ∎
 refine {λx b=>{(a x).mpr (B6 _ ((d x).mp b)),?_},Cd (e.filter _) (vR _ _) λx=>?_,λx b=>(a x).mpr (k7 _ b)}
 ·unfold Yx;rw [if_neg λz=>f x (dC.mpr z) ((d x).mp b)]
 ·rw [u6,a x,q8,J8,decide_eq_false_iff_not,d x];constructor
  ·rintro⟨h1|h1,j⟩
   ·exact absurd h1 j
   ·exact h1
  ·exact λh=>{.inr h,f x h}
def Ip {ks:List Int}:(ks.filter λx=>!decide (x ∈ ks))=[]:=List.filter_eq_nil_iff.mpr λx a=>by simp [a]
def Ra {H:Hp} {b:Str} {as:List V} (h:Dg H b as):∃v a,as=v::a/\∀u,Tm (.int u) v=true:=by
 cases h with
 | lend h=>let (x,i,rfl,_):=h;exact {_,_,rfl,λ_=>rfl}
 | tell h=>let (d,g,i,e,f,rfl,_):=h;exact {_,_,rfl,λ_=>rfl}
 | back h=>let (d,i,rfl):=h;exact {_,_,rfl,λ_=>rfl}
 | cut h=>let (d,i,rfl):=h;exact {_,_,rfl,λ_=>rfl}
 | join h=>let (n,rfl):=h;exact {_,_,rfl,λ_=>rfl}
def Dg.kpl {d d':Addr} {H H':Hp} {a:Str} {as:List V} (s:fX d d' H H') (h:Dg H a as):Dg H' a as:=by
 cases h with
 | lend h=>exact .lend h
 | tell h=>let (b,k,i,f,g,rfl,l,j,e):=h;exact .tell {b,k,i,f,g,rfl,s.tup l,j,e}
 | back h=>exact .back h
 | cut h=>exact .cut h
 | join h=>exact .join h
def jN (c:Pc):Int:=(c.o.getD (0,"",0)).1
def Zi {f:Addr} {cdv:Value} {A:Around} {outer:List Env} {s:Shared} {H:Hp} {E:XK} {D:eM} {M:Pm} {Ab:Ad} {md wk bd:Addr} {a:Lm.Ps} {k:Nat} {t:Int} {o0 o6 o7 o8 o9 ae a5 a8 aj a9 ak:Option V} {H2:Hp} (W:3#0) (hr:Room 9 (A.deeper (PyProof.Rows.envOfC "law" (aG lS) s.heap.objs.size f cdv))) (L:Lp N M Ab md wk bd a k H2) (lk:k<46) (e4:M.ev<=4) (q:∀(o6 o7 o8 o9 ae a5 a8:Option V) (H':Hp),(∀l xs,H2 l=some (.lst xs)->H' l=some (.lst xs))->Lp N M Ab md wk bd a (k+1) H'->D.nx [o0,some (.ref wk),some (.ref bd),some (.ref Ab.b),some (.ref md),some (.int t),o6,o7,o8,o9,ae,a5,a8,aj,a9,ak] H'):Wp (Jn P w K mg base f cdv A outer s H E) (zD ((bG lS).getD 4 (.Pass {0,0,0,0}))) D [o0,some (.ref wk),some (.ref bd),some (.ref Ab.b),some (.ref md),some (.int t),o6,o7,o8,o9,ae,a5,a8,aj,a9,ak] H2:=by
 let nd:=Eb.nd;let (ps,J,pl,g,mo,rs,cs,y,MM,pm,n1,n2,hw,b2):=L;let sl:sizeLine=16777216:=sizeLine_eq;refine {_,aD (wM (aX (Oq W) hr aO (aA (pv 4) (aA (pv 2) (aA aP aC)))) (fU (n:=2) rfl (bA (aM (i:=6) nd rfl (j9 rfl)) (bA (aM (i:=7) nd rfl (K9 rfl)) dO)))) aS,?_};refine {_,rfl,_,rfl,dN (vs:=[.int t,.int 8]) (sG W) hr aO 15#0 {t,8,rfl,by decide,λlx xs H3 s3 l8 _ hx=>?_}};refine {md,pl,bd,lx,g,mo,M.sp,M.ev,M.le,rs,cs,xs,rfl,MM.same s3,s3 _ _ b2,y.e1,e4,hx,l8,BC y pm ∎,λr ad I as H4 s4 c0 cb be=>?_};refine {r,_,rfl,cG.of c0,rfl,_,_,rfl,_,_,rfl,rfl,?_};let t4:=s3.trans s4;let g4:=y.same t4;let (x',y',z',hm):=MM.d;let cg:=t4 _ _ hm;refine cU (n:=8) nd rfl (dN (vs:=[.ref Ab.b]) (sE W) hr aO 15#0 {M,{ Ab with ps:=ps },J,k,rfl,g4,λbf ks H5 s5 ar cf so mk=>?_});let t5:=t4.trans s5;let g5:=y.same t5;let cj:Ab.d≠bf:=aF g4.bv.bk.dc ar;let c5:Ab.d'≠bf:=aF g4.bv.st.dc ar;let ax:=g5.len so mk;let (dx,cm):=g5.bv.bk.ob;let lc:=y.iv.ct;refine qX (n:=9) (NB:=["_law_piece"]) (js:=[]) (cl:=[]) nd rfl {(rfl),rfl,rfl,rfl} rfl (iR 15#0 cm W.B.cl (oK W) hr aO {Ab.b,Ab.pw,Ab.sh,Ab.d,M.sp,M.ev,M.le,J.nn,J.nt,J.mo,ps,J.cs,rfl,g5.bv.bk,∎,g5.bv.t2,λr9 H6 Q aa k6 _ c7 e6 ag _ a7=>?_});let (b6,av):=g5.bv.keepT k6 (.inr {(rfl),c7});let (q2,bh,_):=g5.bv.t2;let ah:=k6.toT bh;let g6:Go N M k H6 { Ab with ps:=ps } J:={(b6),y.iv,y.wg,y.l1,y.e1};let cu:=a7.length;let cw:=ag.length_eq;let ez:H6 r9=some (.lst ((aa.zip Q).map λz=>z.2)):=by rw [e6,G4 ∎]
 refine {_,r9,aa.zip Q,λz=>z.2,λz=>z.2,λz=>z.1.o.isSome,rfl,ez,by rw [A4];omega,λz hz G' sg C s H' fp pn=>?_,λz hz _ G' sg C s H' fp pn=>?_,λaq G7 s7 ay=>?_}
 ·let (t',lv,e,X,h2):=cI a7 z hz;let hn:(!decide (lv=V.non))=z.1.o.isSome:=by rw [h2.non];cases z.1.o <;> rfl
  let X:=sg _ _ X;rw [e];apply Tv.is;symm;exact hn
 ·symm
 obtain⟨zs,a0⟩:∃zs,zs=(aa.zip Q).filter λz=>z.1.o.isSome:={_,rfl};rw [<- a0] at ay;let b1:∀z ∈ zs,z.1 ∈ J.cs/\pH G7 z.2 z.1/\z.1.o.isSome=true:=λz hz=>by
  rw [a0] at hz;let (X,h2):=u6.mp hz;exact {ag.mem_iff.mp (C8 X).1,(cI a7 z X).same s7,h2}
 let cq:zs.length<=1000:=by rw [a0];exact u8 (C1 _ _) (by rw [A4];omega)
 let (Z,aw,a6,sc):=Ra be;let bc:G7 ad=some (.tup as):=s7 _ _ (ah.at (s5 _ _ cb));refine qX (n:=10) (NB:=["_law_piece","_law_asked_here"]) (js:=[7]) (cl:=[("_law_asked_here",s.heap.objs.size+1)]) nd rfl {(rfl),rfl,rfl,rfl} rfl (Vl.ex (v:=.ref aq) 15#0 {_,aq,zs,λz=>z.2,λz=>z.2,λz=>decide (V.int (jN z.1)=Z),rfl,ay,∎,λz hz G' sg C s H' fp pn=>?_,λz hz _ G' sg C s H' fp pn=>?_,λG G8 s8 bg=>?_})
 ·let (_,(t',lv,e,X,h2),h3):=b1 z hz;rw [e];cases eo:z.1.o with
  | none=>rw [eo] at h3;cases h3
  | some u=>
   rw [eo] at h2;cases lv with
   | ref qa=>
    let et:jN z.1=u.1:=by unfold jN;rw [eo];rfl
    rw [et];let X:=sg _ _ X;let h2:G' qa=some (.tup [.int u.1,.str u.2.1,.int u.2.2]):=sg _ _ h2;let br:=sg _ _ bc;rw [a6] at br;let ac:nY (Z::aw) 0=some Z:=zS;apply EX;symm;symm;exact sc _
   | _=>exact h2.elim
 ·symm
 let g8:=g6.same (s7.trans s8);let b9:Dg G8 I as:=be.kpl ((fX.of s5).trans (av.trans (fX.of (s7.trans s8))));let au:=s8 _ _ bc;refine {_,aD (wM aP (fU (n:=2) rfl (bA (aM (i:=11) nd rfl (j9 rfl)) (bA (aM (i:=12) nd rfl (j9 rfl)) dO)))) aS,?_};refine dN (vs:=[.ref Ab.b,.str I,.ref ad]) (Nr W) hr aO 15#0 {M,{ Ab with ps:=ps },J,k,I,ad,as,rfl,au,g8,∎,b9,λr9 T wd ap s9 H9 Y g9 cc co=>?_};refine {r9,_,rfl,cG.of cc,rfl,_,_,rfl,_,_,rfl,rfl,?_};let b8:G8 bf=some (.dK (eP J.vf ks)):=s8 _ _ (s7 _ _ (ah.at cf));let S:=Y.dic b8 cj.symm c5.symm;let bn:G8 md=_:=s8 _ _ (s7 _ _ (ah.at (s5 _ _ cg)));let bw:=Y.dic bn n1.symm n2.symm;refine {_,aD (bV (cQ (cK (aX (Oi W) hr aO (aA (pv 8) (aA aP eO))))) cR aZ) aS,?_};refine {_,rfl,dN (vs:=[.ref Ab.b]) (sE W) hr aO 15#0 {M,{ Ab with ps:=ap },s9,k+1,rfl,g9,λaf U ba F c8 b0 ai ao=>Av.to (vs:=[.str I,.ref ad,T,.ref G]) 15#0 _ ?_}};let b5:=g9.same F;let a3:=b5.len ai ao;let b3:bf≠af:=aF S c8;let a2:∀H',aJ ba H'->∃b,V.bl true=.bl b/\if (!b)=true then False else Wp (Jn P w K mg base f cdv A outer s H E) ((zD ((bG lS).getD 4 (.Pass {0,0,0,0}))).drop 6) D [o0,some (.ref wk),some (.ref bd),some (.ref Ab.b),some (.ref md),some (.int t),some (.str I),some (.ref ad),some (.ref bf),some (.ref aq),some (.ref G),some T,some (.str wd),aj,a9,ak] H':=λH' s'=>{_,rfl,dE (by
  let O:fX Ab.d Ab.d' H2 H':=(fX.of t5).trans (av.trans ((fX.of (s7.trans s8)).trans (Y.trans (fX.of (F.trans s')))))
  refine Zh (Ab:={ Ab with ps:=ap }) W hr (b5.same s') ∎ (s' _ _ (F _ _ bw)) MM.g0 n1 n2 λc4 g' bx ce c1 bt am bu c9 bb=>?_
  exact q _ _ _ _ _ _ _ bt (λl xs e=>am.lst (O.lst e)) {ap,s9,c4,g',bx,ce,c1,bu,c9,bb,n1,n2,cJ.kpl am (cJ.kpl O hw),am.tup (O.tup b2)})};rcases co with ⟨rfl,tk,c3,i,nr,q9,ns,fr,kk,c,xx,yy,a4,c2,hc,ht,cd,bj,b7,rfl,bp,al,a1⟩|⟨bi,al,a1⟩
 ·let ck:∀x,x ∈ U↔x ∈ J.ns++cV c.m fr.length:=λx=>by rw [ao x,al]
  let (bo,c6,cn):=HJ y.iv hc b7 so mk ai ck;let mc:=j8 hc;let (u,eo,eu):=nO ht;let az:Z=.int tk:=by rw [a4] at a6;exact((List.cons.inj a6).1).symm
  obtain⟨p,zr,ef⟩:∃p zr,(zs.filter λz=>decide (V.int (jN z.1)=Z))=p::zr:=by
   let (j,hj,ej):=B0 (ag.mem_iff.mpr mc);let jl:j<Q.length:=∎;let hm:(c,Q[j]) ∈ zs.filter λz=>decide (V.int (jN z.1)=Z):=by
    refine u6.mpr {?_,decide_eq_true (by show V.int (jN c)=Z;unfold jN;rw [eo,az,<- eu];rfl)};rw [a0];exact u6.mpr {j8 (i:=j) (z8.mpr {by rw [<- ej];exact i3 hj,i3 jl}),by show c.o.isSome=true;rw [eo];rfl}
   cases e:zs.filter λz=>decide (V.int (jN z.1)=Z) with
   | nil=>rw [e] at hm;cases hm
   | cons p zr=>exact {(p),zr,rfl}
  let (ca,bq):=u6.mp (show p ∈ zs.filter λz=>decide (V.int (jN z.1)=Z) by rw [ef];exact j1 ..);let (m0,(t0,ci,e0,X,h2),h3):=b1 p ca;let b4:p.1.has tk=true:=by
   have:=of_decide_eq_true bq;rw [az] at this;have:jN p.1=tk:=V.int.inj this;unfold Pc.has;cases e:p.1.o with
   | none=>rw [e] at h3;cases h3
   | some u'=>
    unfold jN at this;rw [e] at this;exact decide_eq_true this
  let (j0,bz,cp):=B0 m0
  let an:J.cs[j0]?=some p.1:=by rw [<- cp];exact i3 bz
  have:=y.iv.oneTk hc an ht b4;subst this;rw [hc] at an;cases an;rw [ef,x9,e0] at bg;let cr:=y.iv.bnd y.wg mc;let lm:=y.iv.lm _ mc;let lf:fr.length<200:=by
   have:=y.wg.sz (cV p.1.m fr.length) (iY _ _) λx hx=>by
    have:=dC.mp hx;exact(y.iv.cv x).mpr {p.1,mc,∎,∎}
   unfold cV at this;rwa [i6,v6] at this
  let k9:fX Ab.d Ab.d' G8 ba:=Y.trans (fX.of F);refine {bf,af,ad,G,.ref q9,"tell",ks,U,cV p.1.m fr.length,J.vf,s9.vf,rfl,F _ _ S,b0,b3,ax,a3,by rw [a1];exact bo,c6,cn,vR _ _,.inr {rfl,?_},a2};refine {q9,t0,nr,tk,c3,i,p.1.m,p.1.h,p.1.n,p.1.l,ns,fr,ci,xx,yy,_,rfl,F _ _ bp,k9.lst bg,k9.tup (s8 _ _ X),?_,k9.tup c2,cd,bj,b7,∎,∎,∎,rfl,λj hj=>?_}
  ·rw [<- a4];exact k9.tup au
  ·rw [a1];unfold Yx;rw [if_pos ∎,show (p.1.m+(j:Int)-p.1.m).toNat=j by omega]
 ·let ek:U=ks:=Cd ai so λx=>by rw [ao x,al,mk x]
  subst ek;refine {bf,af,ad,G,T,I,U,U,[],J.vf,s9.vf,rfl,F _ _ S,b0,b3,ax,a3,λx hx=>{hx,by rw [a1]},Ip,λx hx=>absurd hx 6#0,J7,.inl {(bi),rfl},a2}
theorem pN.far {ps:List (Int × Int)} (r:pN ps):∀(d k:Nat) (l h a h':Int),ps[k]?=some (l,h)->ps[k+1+d]?=some (a,h')->h<=a
 | 0,k,l,h,a,h',e1,e2=>r.up k l h a h' e1 e2
 | d+1,k,l,h,a,h',e1,e2=>by
  let e:k+1+d<ps.length:=by
   have:=(i5.mp e2).1;omega
  let b:ps[k+1+d]?=some ps[k+1+d]:=i3 e;let i:=r.far d k l h _ _ e1 b;let g:=r.lt _ _ _ b;let f:=r.up (k+1+d) _ _ a h' b e2;omega
theorem Em:∀{ps:Lm.Ps},pN ps->Lm.Wk ps
 | [],_=>trivial
 | p::t,r=>by
  refine {r.lt 0 p.1 p.2 rfl,λq i=>?_,Em (ps:=t) ⟨λk l h z=>r.lt (k+1) l h z,λk l h g a b e=>r.up (k+1) l h g a b e,λk l h z=>r.lo (k+1) l h z,by have:=r.few;rw [t7] at this;omega⟩}
  let (d,f,rfl):=B0 i
  refine r.far d 0 p.1 p.2 t[d].1 t[d].2 rfl ?_
  rw [show 0+1+d=d+1 by omega]
  show t[d]?=_
  rw [i3 f]
def Do {H:Hp} {T:Addr} {pos:Pos} {q:Str} (h:H T=some (.tbl #[])):pG H T pos q:={#[],h,trivial,.inl rfl}
def Vh {C:Addr} {H:Hp} {b d:Addr} (g:H b=none) (f:H d=none):aJ H (upd (upd H d (.own b)) b (.ins C d [])):=λa o e=>by
 rw [aE (aF e g),aE (aF e f)]
 exact e
theorem uX:∀{l m:List Int},l.Nodup->(∀x ∈ l,x ∈ m)->l.length<=m.length
 | [],m,_,_=>l7 _
 | x::l,m,nd,h=>by
  let (e,d):=A9.mp nd
  have a:=h x (j1 ..)
  have:=uX (l:=l) (m:=m.erase x) d λy b=>(List.mem_erase_of_ne λz=>e (by rw [<- z];exact b)).mpr (h y (i4 _ b))
  rw [List.length_erase_of_mem a] at this
  have:0<m.length:=List.length_pos_of_mem a
  rw [t7]
  omega
theorem Pj:∀{a:Lm.Ps},(∀q ∈ a,q.2-q.1<=30)->(dR a).length<=30 * a.length
 | [],_=>by decide
 | q::a,h=>by
  let e:dR (q::a)=cV q.1 (q.2-q.1).toNat++dR a:=by unfold dR;rw [List.flatMap_cons]
  let d:(cV q.1 (q.2-q.1).toNat).length=(q.2-q.1).toNat:=by unfold cV;rw [i6,v6]
  let g:=h q (j1 ..)
  let f:=Pj (a:=a) λr b=>h r (i4 _ b)
  rw [e,p8,d,t7]
  omega
def EG {a f:Lm.Ps} (r:pN a) (sh:Lm.Sh f) (i:∀x,Lm.mem f x↔Lm.mem a x) (s:f.length<=a.length):Wg f:=by
 let j:=r.few;let b:∀q ∈ a,-1000000000000000000<q.1/\q.2<1000000000000000000/\q.2-q.1<=30:=λq d=>by
  let (k,n,e):=B0 d;exact r.lo k q.1 q.2 (by rw [i3 n,e])
 refine {sh,λx g=>?_,λl m h=>?_,∎}
 ·let (q,d,p,o):=(i x).mp g;have:=b q d;omega
 ·let p:=uX m λx g=>jU.mpr ((i x).mp (h x g));let o:=Pj λq d=>(b q d).2.2;omega
theorem gA:∀{a:Lm.Ps} {k:Nat} {c:Pc},c ∈ qA k a->∃q ∈ a,c.l=q.1/\c.h=q.2/\c.m=q.1/\c.o=none/\(k:Int)<=c.n/\c.n<(k:Int)+a.length
 | [],_,c,h=>by cases h
 | q::a,k,c,h=>by
  rcases i9.mp h with rfl|h
  ·exact {q,j1 ..,rfl,rfl,rfl,rfl,q0 _,by show (k:Int)<k+((a.length+1:Nat):Int);omega}
  ·let (r,d,g,f,e,b,j,i):=gA h
   exact {r,i4 _ d,g,f,e,b,∎,by rw [t7];omega}
theorem Nl:∀{a:Lm.Ps} {k:Nat} {q:Int × Int},q ∈ a->∃c ∈ qA k a,c.l=q.1/\c.h=q.2
 | q'::a,k,q,h=>by
  rcases i9.mp h with rfl|h
  ·exact {_,j1 ..,rfl,rfl}
  ·let (c,b,e):=Nl (k:=k+1) h
   exact {c,i4 _ b,e}
theorem Bi:∀{a:Lm.Ps} {k:Nat},Lm.Wk a->(qA k a).Pairwise (λc e=>c.h<=e.l\/e.h<=c.l)
 | [],_,_=>J7
 | q::a,k,w=>v5.mpr ⟨λc f=>by
   let (r,b,d,g,_):=gA f
   exact .inl (by rw [d];exact w.2.1 r b),Bi w.2.2⟩
theorem Nm:∀{a:Lm.Ps} {k:Nat},((qA k a).map Pc.n).Nodup
 | [],_=>List.nodup_nil
 | q::a,k=>by
  refine A9.mpr {λz=>?_,Nm (a:=a) (k:=k+1)}
  let (c,b,e):=y0.mp z
  let (_,_,_,_,_,_,d,_):=gA b
  have e:c.n=(k:Int):=e
  omega
def Mr (a:Lm.Ps):S8:=⟨a.length,0,0,qA 0 a,[],[],λ_=>0⟩
def CA {a l:Lm.Ps} {sp:Int} (w:Lm.Wk a) (o:a.length<=4) (p:∀x,Lm.mem l x↔Lm.mem a x):Iv l sp 0 (Mr a):=by
 refine {λc b=>?_,Bi w,λx=>(p x).trans {?_,?_},λc b t e=>?_,?_,λx=>{13#0,?_},Nm,λc b=>?_,{rfl,List.nodup_nil,by show 0<900;decide,(λx g=>nomatch g),(λx g=>nomatch g)},by show (qA 0 a).length<=4+0;rw [nA];omega,q0 _}
 ·let (q,d,j,i,v,_):=gA b;have:=Lm.Wk.lt w q d;omega
 ·rintro⟨q,d,j,i⟩;let (c,b,f,m):=Nl (k:=0) d;exact {c,b,∎,∎}
 ·rintro⟨c,b,j,i⟩;let (q,d,f,m,_):=gA b;exact {q,d,∎,∎}
 ·let (_,_,_,_,_,h,_):=gA b;rw [h] at e;cases e
 ·refine(Bi w).imp_of_mem λ{x y} g _ _ t u f _=>?_;let (_,_,_,_,_,h,_):=gA g;rw [h] at f;cases f
 ·rintro⟨c,b,j,i⟩;let (q,d,f,m,A,_):=gA b;omega
 ·let (_,_,_,_,_,_,s,r):=gA b;exact { ∎,by show c.n<(a.length:Int);omega}
inductive DR (K:Frag) (TG TP:Addr) (vs:List V) (H:Hp) (Q:VK) (E0_:XK):Prop|mk (a:Addr) (ns:List Int) (_:vs=[.ref a]) (_:cM K H a (ns.map V.int)) (_:ns.length<=63) (_:H TG=some (.tbl #[])) (_:H TP=some (.tbl #[])) (_:∀H',Q (.bl true) H')
def Ds (K:Frag) (TG TP:Addr):Sp:=DR K TG TP
def BO {f:Addr} {fd:FuncData} (F:qW K "law" "law" lS f fd) (nT:N.T1≠N.T2) (W:3#0):bH P w K mg base dI 10 f fd ["_law_script"] (Ds K N.T1 N.T2):=by
 let (_,_,_,GI,bI,MK):=(Of W).mk' W.iB 8;refine F.ok Eb 11#0 (λah A a7 s H vs Q E G h=>?_)
 ·let (a,ns,rfl,_):=h;rfl
 let (a,ns,rfl,hS,hl,ac,a3,q):=h;let Y:=Eb.nd;let sl:sizeLine=16777216:=sizeLine_eq;refine Wp.ex (cU (n:=1) Y rfl {_,aX (Uv W) G aO (aA aP aC),dN (vs:=[.ref a,.int 0]) (Fe W) G aO 15#0 {a,ns,0,rfl,hS,hl,λc0=>{c0,rfl,λp I H1 s1 a4=>?_}}});refine cU (n:=2) Y rfl {_,aX (BP W) G aO (aA aP aC),dN (vs:=[.ref a,.int 1]) (Fe W) G aO 15#0 {a,ns,1,rfl,s1.seq hS,hl,λc1=>{c1,rfl,λbd J O D H2 s2 aa b1 b2 b3 b4 b5 b6=>?_}}};let t2:=s1.trans s2;let (us,u1,u2,t):=a4.same s2;let a1:=t.few;let S:=Em t;refine cU (n:=3) Y rfl {_,wO MK GI G rfl W.B.mgC bI .nil aO eO,Av.to (vs:=[.ref p,.int J,.int O,.int D]) 15#0 _ λb T nb a9 ne=>?_};let s3:=Vh (C:=N.CB) nb a9;let e3:(upd (upd H2 T (.own b)) b (.ins N.CB T [])) b=some (.ins N.CB T []):=aB;generalize upd (upd H2 T (.own b)) b (.ins N.CB T [])=H3 at s3 e3 ⊢;refine {b,T,p,I,J,O,D,rfl,e3,cJ.same s3 {(us),u1,u2},S,∎,∎,∎,∎,∎,λsh r sd d ws ps H4 k4 am ak ae S4 a5 m af B4=>?_};refine {rfl,?_};let j:∀{x:Addr} {o:HO},H2 x=some o->H4 x=some o:=λ{x o} e=>k4 x o (s3 _ _ e) (aF e nb);let a0:cJ H4 p I:={us,j u1,aV (λv q ⟨b,y1,y2⟩=>{b,y1,j y2}) u2};let g4:Go N {(J),O,D,ws} 0 H4 {(b),p,sh,d,r,sd,ps} (Mr I):={{B4,S4,Do (j (t2 _ _ ac)),Do (j (t2 _ _ a3)),ae.symm,nT},CA S a1 m,EG t a5 m af,by show 1<=D;omega,b3};refine cU (n:=4) Y rfl (dN (vs:=[.ref p]) (Oc W) G aO 15#0 {p,I,rfl,a0,∎,λmd pl rs H5 s5 Z MM=>?_});let g5:=g4.same s5;let a6:cM K H5 a (ns.map V.int):=by
  rcases t2.seq hS with (h|⟨o,h⟩)|h
  ·exact .inl (.inl (s5 _ _ (j h)))
  ·exact .inl (.inr {o,s5 _ _ (j h)})
  ·exact .inr h
 refine {_,aD (eC v7 rfl (eZ (mY Dv (pv 0) (iX aR) (iX aR))) (aM (i:=5) Y rfl (j9 rfl)) aS) aS,?_};refine {_,rfl,_,rfl,_,rfl,a,_,rfl,a6,λl nl=>?_};rw [Ck];let a2:(fB ns (some 2) (some 47)).length<=45:=by
  have:=Fu (ns:=ns) (lo:=2) (hi:=47) 7#0 7#0;omega
 let (H6,hh,s6,f6):=jJ nl (.lst ((fB ns (some 2) (some 47)).map V.int));rw [hh];generalize fB ns (some 2) (some 47)=g at a2 f6;let g6:=g5.same s6;let L6:Lp N {(J),O,D,ws} {(b),p,sh,d,r,sd,ps} md p bd I 0 H6:={ps,Mr I,pl,0,0,rs,qA 0 I,g6,MM.same s6,List.Perm.refl _,aF g4.bv.bk.dc Z,aF g4.bv.st.dc Z,(a0.same s5).same s6,s6 _ _ (s5 _ _ (j aa))};refine {l,rfl,{_,cM.of f6},sX (xs:=g.map V.int) (λk σ X=>(∃o5 o6 o7 o8 o9 z u y,σ=[some (.ref a),some (.ref p),some (.ref bd),some (.ref b),some (.ref md),o5,o6,o7,o8,o9,z,u,y,none,none,none])/\Lp N {(J),O,D,ws} {(b),p,sh,d,r,sd,ps} md p bd I k X/\X l=some (.lst (g.map V.int))) {{_,_,_,_,_,_,_,_,rfl},L6,f6} (λk σ X _ h=>cM.of h.2.2) (λk x σ X hx h=>?_) (λσ X h=>?_)}
 ·let ((o5,o6,o7,o8,o9,z,u,y,rfl),L,a8):=h;rw [j7] at hx;cases ex:g[k]? with
  | none=>rw [ex] at hx;cases hx
  | some cell=>
   rw [ex] at hx;cases hx;let kl:k<g.length:=(i5.mp ex).1;exact Zi (M:={(J),O,D,ws}) (Ab:={(b),p,sh,d,r,sd,ps}) W G L ∎ b4 λo6 o7 o8 o9 z u y H' kl L'=>{{_,_,_,_,_,_,_,_,rfl},L',kl _ _ a8}
 ·let ((o5,o6,o7,o8,o9,z,u,y,rfl),(ag,s',al,g',ai,an,aj,gg,_,_,_,_,ad,U),_):=h;rw [i6] at gg;exact Vm (M:={(J),O,D,ws}) (Ab:={ b:=b,pw:=p,sh:=sh,d:=d,pw':=r,d':=sd,ps:=ag }) W G gg ∎ ad {(S),a1,m} U b4 b1 q
section
variable {h:Heap} {C f c T:Addr} {x q:Str} {st:Stmt} {oc:Value} {od an:Option Addr} {osl:Array (Option Value)} {kV doc pm cdv ct:Value} {fd:FuncData}
def Df.mk (X:K.In h) (G:h.Ns mainGlobals mg) (a:nsIn K mainGlobals x=some (some (.ref f))) (l:K.lookup f=some ⟨oc,od,.func (fnOf x x (eS st) (bG st) (aG st) .none kV doc pm an cdv ct),osl⟩) (h:codeIn K cdv x=true) (k:keepIn K (.ref f)=true):Df K mg x st:=⟨f,_,mg_of X G a,Ch l h k⟩
def Dc.mk (X:K.In h) (G:h.Ns mainGlobals mg) (a:nsIn K mainGlobals x=some (some (.ref f))) (l:K.lookup f=some ⟨oc,od,.func (fnOf x x (eS st) (bG st) (aG st) .none kV doc pm an (.ref c) ct),osl⟩) (h:codeIn K (.ref c) x=true) (k:keepIn K (.ref f)=true) (t:codeHdIn K c T=true):Dc K mg x st T:=⟨f,_,c,mg_of X G a,Fs l h k,t⟩
def Mf.mk (a:findIn K (.ref C) x=some (some (.ref f))) (i:isFn K (.ref f)=true) (l:K.lookup f=some ⟨oc,od,.func (fnOf x q (eS st) (bG st) (aG st) .none kV doc pm an cdv ct),osl⟩) (h:codeIn K cdv q=true) (k:keepIn K (.ref f)=true):Mf K C x q st:=⟨f,_,⟨a,i,k⟩,Ch l h k⟩
def Mc.mk (a:findIn K (.ref C) x=some (some (.ref f))) (i:isFn K (.ref f)=true) (l:K.lookup f=some ⟨oc,od,.func (fnOf x q (eS st) (bG st) (aG st) .none kV doc pm an (.ref c) ct),osl⟩) (h:codeIn K (.ref c) q=true) (k:keepIn K (.ref f)=true) (t:codeHdIn K c T=true):Mc K C x q st T:=⟨f,_,c,⟨a,i,k⟩,Fs l h k,t⟩
end
def JO (K:Frag) (l:List Addr):Bool:=(List.range 9).all λj=>(List.range 9).all λi=>kitOne K (.ref (l.getD j 0)) (.ref (l.getD i 0)) == some (decide (i=j))
def BA {K:Frag} {l:List Addr} (h:JO K l=true) {j i:Nat} (hj:j<9) (hi:i<9):kitOne K (.ref (l.getD j 0)) (.ref (l.getD i 0))=some (decide (i=j)):=by
 unfold JO at h;rw [N3] at h;have h:=h j (D9.mpr hj);rw [N3] at h;exact eq_of_beq (h i (D9.mpr hi))
def nine {p:Nat->Prop} (h0:p 0) (h1:p 1) (h2:p 2) (h3:p 3) (h4:p 4) (h5:p 5) (h6:p 6) (h7:p 7) (h8:p 8) (j:Nat) (h:j<9):p j:=
 match j,h with
 | 0,_=>h0|1,_=>h1|2,_=>h2|3,_=>h3|4,_=>h4|5,_=>h5|6,_=>h6|7,_=>h7|8,_=>h8
def wcs {K:Frag} {l:List Addr} (e:∀j,j<9->xG K (l.getD j 0)) (pw:JO K l=true) (j:Nat) (hj:j<9):KP K (λi=>l.getD i 0) (l.getD j 0) j:=⟨e j hj,λ_ hi=>BA pw hj hi⟩
def all_mk {l:OpenLaw} {w:World} {K:Frag} {mg:Str->Option Value} {fa:Addr} {N:Cn} {c:Nat->Addr} (nT:N.T1≠N.T2) (hfa:mg "law"=some (.ref fa)) (D:Df K mg "law" lS) (W:∀base,xH base mg->Wd l.prog w K mg base N c):
  ∃fd:FuncData,(∀(s:Shared) (v:Value),BindsTo s fd ⟨[v],[]⟩ [("_law_script",v)])/\∀base:Heap,K.In base->base.Ns mainGlobals mg->xH base mg->bH l.prog w K mg base dI 10 fa fd ["_law_script"] (Ds K N.T1 N.T2):=by
 obtain⟨f,fd,m,F⟩:=D;cases hfa.symm.trans m;obtain⟨oc,od,kV,doc,pm,an,cdv,ct,osl,rfl,lk,hcd⟩:=F.ex;have F:=Ch lk hcd F.kp;exact⟨_,λs v=>.of_eq rfl,λbase _ _ hB=>BO F nT (W base hB)⟩
def tabsOk {h:Heap} {TG cTG:Addr} {TP cTP:Addr} (aTG:h.get? TG=some (tabObj #[])) (bTG:CodeHd h cTG TG) (aTP:h.get? TP=some (tabObj #[])) (bTP:CodeHd h cTP TP):∀p ∈ [TG,TP],h.get? p=some (tabObj #[])/\isCodeTable h p:=all_cons ⟨aTG,(bTG.tab aTG).isCodeTable⟩ (all_cons ⟨aTP,(bTP.tab aTP).isCodeTable⟩ bJ)
def walk {l:OpenLaw} {q:Program} {loose:List Str} {XP:(Str->Option Value)->Heap->Prop} {YP:World->Heap->Prop} {d:DefRec} {K:Params->Frag} {TG TP:Addr} (hn:l.most=some 63) (hdf:d.params.defaults=[])
  (hY:∀(w:World) (h:Heap),YP w h->(K w.params).In h/\noTabs (K w.params)=true/\∀p ∈ [TG,TP],h.get? p=some (tabObj #[])/\isCodeTable h p)
  (F:∀(w:World) (mg:Str->Option Value) (fa:Addr) (h:Heap),(K w.params).In h->h.Ns mainGlobals mg->mg d.name=some (.ref fa) ->
   ∃fd:FuncData,(∀(s:Shared) (u:Value),BindsTo s fd ⟨[u],[]⟩ [("_law_script",u)])/\∀base:Heap,(K w.params).In base->base.Ns mainGlobals mg->xH base mg->bH l.prog w (K w.params) mg base dI 10 fa fd ["_law_script"] (Ds (K w.params) TG TP)):
  WalkO q loose XP YP l.row.toRowW d [] (λf vs=>PySem.call f vs):=
 L2.walk_ofT (z:=[TG,TP]) (n:=63) (k:=10) (x:="_law_script") (CX:=λ_=>dI) (sp:=λw=>Ds (K w.params) TG TP) hn (by decide) hdf ⟨rfl,by decide,by decide⟩ hY F (λ_ _ a ns hl _ hT hS=>⟨a,ns,rfl,hS,hl,hT _ (by simp),hT _ (by simp),λ_=>rfl⟩) λ_ _ _ _ _ z=>z
end
end Ls
end
local macro_rules | `(command|#check $s:str)=>do
 let l:=s.getString.toList
 let c<-(List.range (l.length/10)).mapM fun i=>`(command|theorem $(Lean.mkIdent (.str `PySem.W.Fast s!"tw{((l.drop (10*i)).take 10).foldl (fun n c=>n*91+if c.toNat>92 then c.toNat-36 else c.toNat-35) 0}")):ident:True:=⟨⟩)
 return Lean.mkNullNode (c.toArray.map (·.raw))
#check "++S:H0bSF85A1}*uHh6QGyj9X/MXZ|0I<(c<~M@F,ZD_+;_txF><eCt)6(o?&w?Ey;v,a./<*=}Ko8+<*38o7obm:]5$eb/ZWrZhFr8ncZ}7Qy3.Sp=>tdS>$m~?wo<%NKL^N&m1P7|V5C>6di8rNBLElY0o(gwx=ET1j|FsJ95].M2xr/`51r$_I[lay>D|wTV{jCu]%OW#wX3>O#FK/)7R&nc_4V,'3v1h}n${zcLtTAsk-){Vv|IA5z3Ddtj[TV]pB(4iwn@ZBU/Qt0nA/hBB2?=6w_4'&C'FfDYTHBE23dFDD/3q1iICJwYvBhpR58V{bs={zx;9gGDwP?Px9`ml)MRlb+%]k.{?x4v0HV)*y<D6;10*2H5oyGk(>aj57AX5%mGveRD}#:aGKai5ZY;oAc+2.of'7zLz?*Msd(M%wf=*L4nS8JA:+lV^e(X^j2AO*^o(lwuM&(C6^^iuL>HOI}Uk:XU6?9>xpMPLTdKuuPmXcuRX<4|}={c$50Du<j-+=WPp5>inz>ib9pIbf=XBbFS2G+Z`XBt%d6MG{1UJIQ:1Dqyg>vZA`%BVj]GoS<|F:C2JJvz5'~(A^QmHfDg9#C=qDZay{a+*[Fe=ABl{&3m_.y|K?~$^MAq^y*aACQz*;Df'#~,(IB9^iq{x-y#YS3l=2A#-jR1NX;2:?AL[NM,a%+80ZNRF}6->(HS#'GAEJt'~luC%e@nv1;U-e){>Y5=G8^w9>I.o-}>4s69[M=Hr]Y$B@8}v1G+EUh4yDw+u8e6B<|1WJ1>yBEFN2gA9;y?Y)Cfr'ZG3Ov?*(s7]?w@KKz%CLj#]U@5)^m6E>RTAf`29&>w)nJUFE`KY?2lDOKEqB,rr3pv[Ex.a`F9S~[h#5<q9Xc4om[:bpt;$zkpD-z/8I;>21~,-_mlJCa`:4YTG#t,-5W/(B7iH[C__.VL?&cEb*5G7Zi3LxYA426@3a7&2Vh/R,Y,P3$t))lpaHc5Ci??TAkdOB<KM8p?nOMh*G^An*c7~=9dQGY7vJRL)VG#[q.@,gko9LX3u{feV+{4rD@J+^CEr<t}&GYq8?D&6=ig})><O#8PV=+HqWf+3htT1]}gj(<N~<`P.V%,Z:XEMk*s@F9,X3/S&efKYc[T':AG#L:T7#3YObE,3oTW#6Gpm*^r{+E$)^J/)#-N6neo]+@#UY'*52l21(ig>H{IwN%M{,DWnfk6Y#>HM:8&w4wrm@LwaYE#k=Mg${<P:/}&shl>)1,JWwViOR%e9$Sm>UubF_45i@l5wtu[CFbvBG(EV^iEC%c[Idl%W?nc@1uneg*K>DaZ&Vvt{;*C9RpzN{RHh|TE]J/MtJFX;?u{KW6HP{@/bCEWHDK;_`Q/~BDCPx16'Gjo+;Sk20Od()g(a&(2E4eHfAS45Tg_z=>6hMQOofE~P5ig%7R;ZnR$9E9_?vQ{7.+^ht7bC(b3)aD.V~dU~C0b|yu5+${?)4P4rW/kwEiPD]c>JoA:UfLov7?&,G^7H$b^MOj&`;#n,zI+tB$9la(YAk5Cs5{@OumEoA{$1l{R9^7M7NAPtj'[FD99dHJQP]4@+s&9VViOY<X)Y=Lf2zGGxA3DaU{dlIrxq)hw=.v==Nyu,*'?)K,gm;pUc@T0:_g6S8un)/Hn(Lio[UK,0BgIvvxn]D3MRE&H+Qb%%'W$AuA638&Zy&'1,ZX2Vq^b9KGf2KJa.7Iw$jT?TH|9km?,_@W/oFL$m`oKgH*9QA8V|40oIQ{%J1HK^@&L(sN?F.Pn,.a-IQ/L2:jwu,FvW7NwN?u6Dco8L(h&F9AZ19Yh,gs#G[}0mWz'JbExq,{#1Vqb{p;(x*ltUrwZVM^&/3;Obm}E~uB`lpc'J=4)2)-w(dz1891_}5#o;87<B}u%65?C:d4>*5>,Z/Rf$]rpJn6,kO*9q`SUSIVZtG'%%%fHn60tU~%en)4bS3V{'2t(FbiL;j;V~&X%j8tip;2GRbf&a3Dw38W^Wh)vTz=:Hp{-pnq`MGAZ')ms_[+I|=cc`Ac{Y58G{2qvlTE,AnjrD3B(e?VH1zVhyFaGY3.]Gkh11B*7^Q]?^G>IN{bL<a9ZW$kAp%~S0[n6*uCk{J)(]4/AR+mh5u55$7Iv$7A2.@^Ukd,QL-.#T~v,e/~mi%qUlqijmF>0`B9NsH|@54@.QKiMc;P/ebm(V~d'kF{IXnnSA30@XckQSWEeY-%p.?2bd'R(>34/PbFLo.GL6Xs1Fcr)T@R=*Xx5}Cv-1&u/b-[%UOj,XG5Re%jENWXqoJ/74BrJooH+xG(~B:lFrQ,@9);D>F*P@:6:8-cFp5M2?DUabOJFy=@a^C^tN9b0|p<$(BYu,*w;W1wr3Np)$_z=)4L2n4C]1wsA3(a6bFVRDxG>sI,'}5SZE_,AJLiZijxxB2ZSg1GMK)y=1vCv]m/,V+|3p.)=TAS+6L4mV#c_k$W(O43ktypI<sV`B>VNKAI/u[5:S.2C$+<s=zh,/'0p&&-TGB57qy(kgKRAl'Op>1%,rg:+s_(<i4O>g/Al2tq0{_wE?K.DW>X~u&B~u`_FJrF')Wng|,;:h-%)G]IcZq:E9Q}>#yeUyBHg{=GZ7&*%x)mNal#2*>&WJH|yDZ$3>|Ja#@9dU,IGAlozr'k/LQ`whEXb.#_-p13?8oD&nhGEC3.1Q@v$.7>vK]N4(lsr/jJ/]$/S,bHti+,*`s;l*?_&7@;2(-eDB+oK:I<T,Er:z;YA3$EPkw';YyD[EX(-C/T3Fr/cN+HCK+ViV^S]h9x7?$9W2a75&]F7Hft#i-N#?tf+kJdL`fu%m^z2PKzw7z%Y@)FIiiKZ8+rrcG<KfnnbJfWJXd1cOT0tLC*^|USRiP[>1p_mX~w[D8B7(5NqKk&+o5}_x7@RGBD+5am$.}/+GvUP0,@oIBWvEXmjxJA=Ji8BYp`NKDzxTX2Xx./Mu]9@7}+UV5wWwSdf`PZ0/HH{gIT00GVpyOAtPsw0/|9Z'#dj).2LH+BesK@=#~qWh4iT/7||prH{4#[B=oxzMR%g.&,=ynODV:KDM1(IpWKGt=L@1E5H3je;qE8I_w:ne={.7ol{LwG;,[7(2MM'.GBuf;&ypgF#Y.>)8X;#3FYx71t.Mq,J|yw+0G[tx*dH`mx#l/H+R{&mcs=sQE+m$aui>O8'Jmw+>{%<`C+2'hU^Y2L0h2Oj_]:4fMM%1}V^?@tA0H*>2V~s(G18vt`|3(d(lBc&MQ861L=4d`Ps<J5;^_^JZm(%#=Hn4AF1/0S<<iR]N@fT^Aui>/X-Bo&,]3`L*:[Ou%O5q4d@{7.32e3'wf,K~;@-(~Wma>&BddY~?H87]HA[l9;sZR*)^zj8R$hmc9TVT0$`_N5AlWt[g&Xm#Al8({Ay+{C>fXUo@qlOr7yzKu}WRh<=M|Gm+[?b|+xU`6XPfeOAqqoxgDHWM-K4OOT>$Ax2-Sv~N%Kg0'#a,#@klvI#n0f;J|O:QG(oNwd[=a8KC?a5+;G}cH1&7|Y)>c{0ZLxPX~cXO>4G<FYW}yADqW@r{s~dwMf2'/;kN)q>pzT|pA$~g%*5K3#Sm[S.jNU92HhPiC-j|$cOr#m.7UY~;>=[h<a7T%ggtM^'gip^gUxGE+1Jd$o9iOfKH,:vxZL9f.fqF%njBhc0R>g`'tQbJ.8~1H^u^mp3p(*9=$(xuB^xf~FwJe'0X#?.OkwuB#F_@VW8ECk4f<Df%%UU6,a*%3UY~=f#O$nl:>4sOKd{.n+Bo&(?:=e**A&/iH@D5V4tby|5%:X(<C.jr9xSaz`6fDk0|/p3qq3(j9ZW_+~nb)sIbiR`QiMm7</Cf`C2um*I+vh,P-IPa*;hd,:_2r33[sPW<}<jq4}<FV#wSX}@,$Q*#<_]uB.g(;4K(*p.${}Mg+>7n-6m.jS~fA*4^b+teORR{A?y'r{f=C42W7T?K.4$W,NHmrdVGuU:e[WXjG{bpM=-zldCN%4&WFWT44B,8-uz,FZbk;J0ShGQf9Rcf?>w>;%ZKQA?C3*gsx>2R0ey(vo,m2'A>(LT{St^y,+#nyp(PB)0f,^Y:Lg8g%#J4VYIk-13r%H17>6ie(=P^ZWFKA?,X+J%<YsTZ<Q=LCUUf:/I`=X5:D1}T01~5Te0G^;IT`=Oi141q=m'vb_|mtU+J9-'9>_,l)fb>91*Oar.%7anHrSW`6wNJf6UmVDEvoU<nG`.1FSB}55xg~Y=,=*Q$[,:2JS64XRus5i'NIg>(mT|aKYC?z$fwVd3`I$_4z'Cy5}pw]32NJi;HR[887^/CE>WDUrzo*b'v-`_(6W<BM;pfL@j|pt<X)Q%n`S~fD|PA=EJh_8:d2#f6O1H92xN^JL_ysnFKl`uqie1;C,ps`I37`('t@So1#b$_7EAUiL/k<'.Eh]:Zm'M#'?QZfQ=eN|BgFU5'?XQ(4nUtcZT<X]FL@p_[sBf.=Aj10{l*%?(OoM-Woi<K;DBd4u;qN-IcnY`IizWc,j(cPtE`~a3}YG,I/^9/,c'x>E=Q;jM4SY&ICvO11DfwJdNKnuL(}]wM'`zl*Xl6(8MNHR3Hw~PkqYd?M)5'|Z)FC8=R4N4Ou7fl'n+-A$%i-e#,A~YwCI'~=c0Gbe?Ky9/':dCWRgLs*tGr~p11I;%[,s|)2-X13&]tp]xKgJ=q'rlJ?IyZFwmcvifEo_8,YiH0|5FlAn'?<d,N]&;<Q8fs33]X1(^p)2nMmk&C$C+8Re[n(>oa:U|KMs%fS4HKH)aO*D(D]TZiZMFe[onnWq?z>)WFwUW)J0;}B*a'x.tk#,74u(S2v?5HYFSojrX4%8TX{z;psOB;r}rmy[FMDKD-LA0<bbJ]9nOBf|F_G'ZFKO$|jFJg*1V'(TRi0FjlI[K<21?zOtd4'q(P'SO*#ODR(8Li.wx`.xX|5-gH3Mx(ow:L80(&'4cp>}vo7|b`pv/<jlU)>(De)K,+:+:X25MSVY7+V8G5,a7_A]RN-U(ppoqM<0%}BbGvrWF$%GCDOuJtHyKf>^(]Ko1OMj9+zzwtxvH32j>rFj){wz1-;otu][=MLwIkkY==oW+3&nnl:O$P(;iA2QImb,*Te#mVuk.p=8*9/wKso0FBNeR$z10SI3scmo2s5_3A5aLXDn:i&~]5=d*tg+HE2lgb(1,^8S>^>7z11_+{s)2IXt_O?SgIN6C2843EmL;NPXL*BO,iZ;x=cG7p/ZWGH$q3'>-1PP4E}?A>Lbjmb6s70&2$5Y<cZgGDSN$1Kk#UMo>6]z[<jD5q0vZTPgCF+^(#8gNR0?'#h4r2_gc;:SO:mINRR$=/phme;^qN=Zvo5`[oZpLlY+/s:ZF@'(GJo/%M/p,y`QQd]%S#.Hr1i[=Tk#KBy~/P,Aj[3M|1w2jzgS?ML|C^RISnC5z[5S.PhQMQiq6|]d5@G8c2`T%?)I-khP@RwiAsHA?Kqn*i;=%T4`g|B.is04YN'h/J%D&xjk*?24l>G'Qk'F9.+.#~30>m:,fK+F9(@vyjk]@mlCAGmmqp$|g7&kYKy9?>.LkWjscW*b*u6q83rl'leYyiQm'm;)_1SEq$uE:w9-&@,7l.?esZ:w>2L#@At+`|[]b-B1[ezpqv<8@_$9p*'lqp5+:D@TArvc/~&?FiET295Jgv64%`IA&=P$HJNLcBGI<3_49FUH+4B62f|pGYEh9~A+=Y'*Am7efuBaWZ7V$wpP#7E[%Z[yYxc+Ev+f{F-p_e5}K>`ICh|f3=L1um&$[&%Q:>(ea3Qc%G9Ur=xf?n{/Cq1)*]UYfJ;l3],AY;s/)ReN)F5)i-./^^tO-]8V;W%OOd35e`5*@^X1;K;(Ak0'pwVp(?#w;_E/-@B@@}Fcy((c{m%Cj@9eTt&Q%$c/3i[L]z(]j227,EO;6s^?;dTM3p1}Vz9`:CIS686=3'tcCh>'{t&vGW.dH2>7'nuv)G*nI^kT7&HL%(U^:PJXIm?>aG`Dw&t]I$/KaP?E@6-wq-8E3j-s34$OYK[gbx,Xj7b9HQ,[,hgw^8;p1d-QXJGNbdaS:23b1`Xa=J*T67U.guPV*b]c61-m%r9Wfn~vL-a]I~2m]mvFIw<A}&Q=n|Z}DNC83)Zbk9@aAa[$ioDuJ;$lk<XS}W8iaHX'iKTf($i/~q=67(;VX0ul,LMD3rus'{o^;>?ogLg9W'UqJz4x*?Ei/d&?b@cbcfI<AAyn`CSitOD&f9n2$qIp(s0Lx]+-AK;l]#prNbn'.-2Tr7>6j@Iz3eAbc5%OG9[;ksn,uX&J,.d}mY'h4.;-@VIXz?>Iqn.7urc<1F1BW<M|].I#u0*Z[0x7FQ^o_BlPj)${?[g92wIbKl9lV5c[ee<lML4cX#Fj>[|I$@y4{+CY3|WQ`.=;$]NxzQcj:bK-q-S~B(Q2-]D)}Lg|;W4s{pu-Ek1h%f=$#G>iLX@]F8K+`OPP0u5ONh7C=yJ)l/cRHv}v8fFtey+tqA9_9e&W=z{N2Q.RCAy(IY:@^LE'_XCnG0Hzg^_?qA>u:z^%XplTMzJjJBRQ|N5nF*5hGCkMKwyWd^S#F?1.lR%kz:9j:$[Lr00pR<F9s)E]T)wFKfoj0Iwt}{-o&2/ir|Mh'f0j56IG~0JZJV,m/w=L8'JBb@zWke'RUMZ3^v(IEI&'|3[h/+4b?X|5|4ET;R]I7hcJ]q9C1?(s5~1z?X,ceT0ad1IV5LgMo{U?Ir@dXxuGkV=tGkQAyg1:KeD$~1KBk6=Tk%u]sK9BLX`SrN?~h7>Mlvy~u2[t0)W6RPXc$>/=@=/07q5YKae4WDF;}[GfHH^n[SCn+zB._{~io:)G;xokhq(C2p7wFIxBSx2dVEE1@0pz@:p4EfUdOY(sWSmuVpp*JSFTV2gtlzF_m,x.5mY83gy?%dEOI@G1:3*M;o-iD_n1/t].iR1%R9Ve}6ht=$)b'WiJ)'3(5dq;,5wp2l<<NZp@RR8$=b&fM>Gv(e[[rwW)4FD.,^t;#z_a.`>U_^vv8+6qL+A)+;014+D>^DqR(2C`$90lTA`$@kWV~bMeF25Qm{g]trfC+&<tX0i4j$4:_:sb$ZIKMq7b2yZbR?3PQk(5N5^]7&@n=%|+FeDy@h,[uAu35q.82y9dFe()pQuv~eIEEl<;,VEn)68%qfLg%YMV$DPXq69S}H&M055(z]5?,A4#'%/Oqb05W^/j&>lD91U&AbqZwp(]E+.[j)AO+83^>r]a8HML)Jxv;8NN(J2&2f~G8(M1gPX9EgO]04f5ssL*TI3ep%;>@d9;?-:)'K:9-ALad]No0PDM"
open PySem PySem.W PyProof.Rows
set_option maxRecDepth 100000 in
set_option maxHeartbeats 0 in
theorem PySem.Challenge.cw_lentwork_k81_whole_told_once_holds : PySem.Challenge.rw_lentwork_k81_whole_told_once.Holds := by
  w_on; o_law; k_head; (case hw => w_witness2)
  k_fill
  refine Ls.walk (l := PySem.Challenge.rw_lentwork_k81_whole_told_once) (TG := 404) (TP := 465) rfl rfl (fun w h Y => ⟨km_in_of Y, by kernel_rfl, Ls.tabsOk (km_tabs_of Y 404 (by k_mem)) (codeHd_of_K (c := 408) (P := 404) (km_in_of Y) (by kernel_rfl)) (km_tabs_of Y 465 (by k_mem)) (codeHd_of_K (c := 467) (P := 465) (km_in_of Y) (by kernel_rfl))⟩) ?F
  case F =>
    intro w mg fa h KX G hmg
    refine Ls.all_mk (N := ⟨569, 379, 263, 404, 465⟩) (c := fun i => ([92, 104, 116, 128, 140, 152, 164, 176, 188, 68, 31] : List Addr).getD i 0) (by decide) hmg (Ls.Df.mk KX G (by k_is) (by k_is) (by k_is) (by k_is)) fun base hB => ?_
    refine ⟨?G, mg_none_of KX G (by k_is), hB, ?S, ?P, ?B, ?T, mg_of KX G (by k_is), ?iP, ?iS, ?iB, ?W, Ls.wcs (Ls.nine ?e0 ?e1 ?e2 ?e3 ?e4 ?e5 ?e6 ?e7 ?e8) (by kernel_rfl), Ls.nine ?f0 ?f1 ?f2 ?f3 ?f4 ?f5 ?f6 ?f7 ?f8, Ls.Df.mk KX G (by k_is) (by k_is) (by k_is) (by k_is), Ls.Df.mk KX G (by k_is) (by k_is) (by k_is) (by k_is), Ls.Df.mk KX G (by k_is) (by k_is) (by k_is) (by k_is), Ls.Df.mk KX G (by k_is) (by k_is) (by k_is) (by k_is), Ls.Df.mk KX G (by k_is) (by k_is) (by k_is) (by k_is), Ls.Df.mk KX G (by k_is) (by k_is) (by k_is) (by k_is), Ls.Df.mk KX G (by k_is) (by k_is) (by k_is) (by k_is), Ls.Df.mk KX G (by k_is) (by k_is) (by k_is) (by k_is), Ls.Df.mk KX G (by k_is) (by k_is) (by k_is) (by k_is), Ls.Df.mk KX G (by k_is) (by k_is) (by k_is) (by k_is), Ls.Df.mk KX G (by k_is) (by k_is) (by k_is) (by k_is), Ls.Dc.mk KX G (by k_is) (by k_is) (by k_is) (by k_is) (by kernel_rfl), Ls.Df.mk KX G (by k_is) (by k_is) (by k_is) (by k_is), Ls.Df.mk KX G (by k_is) (by k_is) (by k_is) (by k_is), Ls.Df.mk KX G (by k_is) (by k_is) (by k_is) (by k_is), Ls.Df.mk KX G (by k_is) (by k_is) (by k_is) (by k_is), Ls.Df.mk KX G (by k_is) (by k_is) (by k_is) (by k_is), Ls.Df.mk KX G (by k_is) (by k_is) (by k_is) (by k_is), Ls.Df.mk KX G (by k_is) (by k_is) (by k_is) (by k_is), Ls.Df.mk KX G (by k_is) (by k_is) (by k_is) (by k_is), Ls.Df.mk KX G (by k_is) (by k_is) (by k_is) (by k_is), Ls.Df.mk KX G (by k_is) (by k_is) (by k_is) (by k_is), Ls.Df.mk KX G (by k_is) (by k_is) (by k_is) (by k_is), Ls.Df.mk KX G (by k_is) (by k_is) (by k_is) (by k_is), Ls.Df.mk KX G (by k_is) (by k_is) (by k_is) (by k_is), Ls.Mf.mk (by k_is) (by k_is) (by k_is) (by k_is) (by k_is), Ls.Mf.mk (by k_is) (by k_is) (by k_is) (by k_is) (by k_is), Ls.Mf.mk (by k_is) (by k_is) (by k_is) (by k_is) (by k_is), Ls.Mf.mk (by k_is) (by k_is) (by k_is) (by k_is) (by k_is), Ls.Mf.mk (by k_is) (by k_is) (by k_is) (by k_is) (by k_is), Ls.Mf.mk (by k_is) (by k_is) (by k_is) (by k_is) (by k_is), Ls.Mf.mk (by k_is) (by k_is) (by k_is) (by k_is) (by k_is), Ls.Mf.mk (by k_is) (by k_is) (by k_is) (by k_is) (by k_is), Ls.Mf.mk (by k_is) (by k_is) (by k_is) (by k_is) (by k_is), Ls.Mf.mk (by k_is) (by k_is) (by k_is) (by k_is) (by k_is), Ls.Mf.mk (by k_is) (by k_is) (by k_is) (by k_is) (by k_is), Ls.Mf.mk (by k_is) (by k_is) (by k_is) (by k_is) (by k_is), Ls.Mf.mk (by k_is) (by k_is) (by k_is) (by k_is) (by k_is), Ls.Mf.mk (by k_is) (by k_is) (by k_is) (by k_is) (by k_is), Ls.Mf.mk (by k_is) (by k_is) (by k_is) (by k_is) (by k_is), Ls.Mf.mk (by k_is) (by k_is) (by k_is) (by k_is) (by k_is), Ls.Mf.mk (by k_is) (by k_is) (by k_is) (by k_is) (by k_is), Ls.Mf.mk (by k_is) (by k_is) (by k_is) (by k_is) (by k_is), Ls.Mf.mk (by k_is) (by k_is) (by k_is) (by k_is) (by k_is), Ls.Mf.mk (by k_is) (by k_is) (by k_is) (by k_is) (by k_is), Ls.Mf.mk (by k_is) (by k_is) (by k_is) (by k_is) (by k_is), Ls.Mf.mk (by k_is) (by k_is) (by k_is) (by k_is) (by k_is), Ls.Mf.mk (by k_is) (by k_is) (by k_is) (by k_is) (by k_is), Ls.Mf.mk (by k_is) (by k_is) (by k_is) (by k_is) (by k_is), Ls.Mc.mk (by k_is) (by k_is) (by k_is) (by k_is) (by k_is) (by kernel_rfl), Ls.Mf.mk (by k_is) (by k_is) (by k_is) (by k_is) (by k_is), Ls.Mf.mk (by k_is) (by k_is) (by k_is) (by k_is) (by k_is), Ls.Mf.mk (by k_is) (by k_is) (by k_is) (by k_is) (by k_is), Ls.Mf.mk (by k_is) (by k_is) (by k_is) (by k_is) (by k_is), Ls.Mf.mk (by k_is) (by k_is) (by k_is) (by k_is) (by k_is), Ls.Mf.mk (by k_is) (by k_is) (by k_is) (by k_is) (by k_is), Ls.Mf.mk (by k_is) (by k_is) (by k_is) (by k_is) (by k_is), Ls.Mf.mk (by k_is) (by k_is) (by k_is) (by k_is) (by k_is), Ls.Mf.mk (by k_is) (by k_is) (by k_is) (by k_is) (by k_is), Ls.Mf.mk (by k_is) (by k_is) (by k_is) (by k_is) (by k_is), Ls.Mf.mk (by k_is) (by k_is) (by k_is) (by k_is) (by k_is), Ls.Mf.mk (by k_is) (by k_is) (by k_is) (by k_is) (by k_is)⟩
    case G => exact ⟨mg_none_of KX G (by k_is), mg_none_of KX G (by k_is), mg_none_of KX G (by k_is), mg_none_of KX G (by k_is), mg_none_of KX G (by k_is), mg_none_of KX G (by k_is), mg_none_of KX G (by k_is), mg_none_of KX G (by k_is), mg_none_of KX G (by k_is), mg_none_of KX G (by k_is), mg_none_of KX G (by k_is), mg_none_of KX G (by k_is), mg_none_of KX G (by k_is), mg_none_of KX G (by k_is)⟩
    case S => exact ⟨by refine ⟨?_,?_,?_,?_⟩ <;> k_is, by (unfold L2.NoAttr; k_is), by (unfold L2.NoAttr; k_is), mg_of KX G (by k_is)⟩
    case P => exact ⟨by refine ⟨?_,?_,?_,?_⟩ <;> k_is, by (unfold L2.NoAttr; k_is), by (unfold L2.NoAttr; k_is), by (unfold L2.NoAttr; k_is), by (unfold L2.NoAttr; k_is), by (unfold L2.NoAttr; k_is), mg_of KX G (by k_is)⟩
    case B => exact ⟨by refine ⟨?_,?_,?_,?_⟩ <;> k_is, by (unfold L2.NoAttr; k_is), by (unfold L2.NoAttr; k_is), by (unfold L2.NoAttr; k_is), by (unfold L2.NoAttr; k_is), by (unfold L2.NoAttr; k_is), by (unfold L2.NoAttr; k_is), by (unfold L2.NoAttr; k_is), by (unfold L2.NoAttr; k_is), by (unfold L2.NoAttr; k_is), mg_of KX G (by k_is)⟩
    case T => exact ⟨mg_of KX G (by k_is), by unfold L2.ExcIs; k_exc⟩
    case iP => exact ⟨by k_is, by k_is⟩
    case iS => exact ⟨by k_is, by k_is⟩
    case iB => exact ⟨by k_is, by k_is⟩
    case W => exact ⟨mg_of KX G (by k_is), mg_of KX G (by k_is), mg_of KX G (by k_is), mg_of KX G (by k_is), mg_of KX G (by k_is), mg_of KX G (by k_is), mg_of KX G (by k_is), mg_of KX G (by k_is), mg_of KX G (by k_is)⟩
    case e0 | e1 | e2 | e3 | e4 | e5 | e6 | e7 | e8 => exact ⟨by unfold L2.ExcIs; k_exc, by kernel_rfl, by k_is, by k_is, by k_is, by k_is, by k_is, by k_is, by k_is⟩
    all_goals kernel_rfl

