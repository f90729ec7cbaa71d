import PyProof.Rows.All
import Wide.All
import OpenK.AllK
import Wide.FinOn
import Lean
import PyProof.EqAt
import PyProof.EqKinds
import PyProof.TupleCall
import PySem.Challenge.RW_lentwork_k82_whole_from_the_mark
set_option Elab.async false
set_option linter.all false
set_option maxRecDepth 100000
set_option compiler.extract_closed false
set_option autoImplicit true
open Lean Parser Tactic in
local macro_rules(kind:=«term{_}»)|s=>return s.setKind ``Term.anonymousCtor
open Lean Parser Tactic in
local macro_rules(kind:=Lean.Parser.Tactic.tacticLet__)
|s=>do
 let p:=s[2][0]
 let f s:=mkNode ``rcasesPatLo #[mkNode ``rcasesPatMed #[mkNullNode #[s]],mkNullNode]
 if p[0].isOfKind ``Term.tuple then
  let q<-p[0].rewriteBottomUpM fun s=>return if s.isIdent then f (mkNode ``rcasesPat.one #[s]) else if s.isOfKind ``Term.hole then f (mkNode ``rcasesPat.ignore s.getArgs) else if s.isOfKind ``Term.tuple then f (mkNode ``rcasesPat.tuple #[mkAtom "",mkNullNode (#[s[1][0],s[1][1]]++s[1][2].getArgs),mkAtom ""]) else s
  return mkNode ``obtain #[mkAtom "",mkNullNode #[q[0]],mkNullNode,mkNullNode #[p[3],mkNullNode #[p[4]]]]
 else return s.setKind ``tacticHave__
local macro_rules|`(∎)=>`(by omega)
local macro_rules|`(⋯)=>`(by decide +kernel)
theorem ρ {α:Sort u} {a:α}:a=a:=rfl
set_option maxHeartbeats 4000000
open scoped BitVec
set_option hygiene false
local macro_rules|`(1#0)=>`((by intro z;cases z))
local macro_rules|`(2#0)=>`({ρ,ρ,ρ,⋯,ρ,⋯,⋯})
local macro_rules|`(3#0)=>`((Wd P w K mg base N c))
local macro_rules|`(4#0)=>`((model X.prog X.w))
local macro_rules|`(5#0)=>`((aV X pins σ H s))
local macro_rules|`(6#0)=>`((jI CB CP H b pw sh d sp ev le nn nt mo ps cs))
local macro_rules|`(7#0)=>`((model prog w))
local macro_rules|`(8#0)=>`((by decide))
local macro_rules|`(9#0)=>`((by simp))
local macro_rules|`(10#0)=>`((Addr × Obj))
local macro_rules|`(11#0)=>`((λvs H Q E h=>?_))
local macro_rules|`(12#0)=>`((NI prog w A E s κ a₀ rk))
local macro_rules|`(13#0)=>`((X.blkF NB scope cl t.heap.objs.size t (upd S E.heap.objs.size (.lst [])) G (X.pn++f)))
local macro_rules|`(14#0)=>`((X.blkF NB scope cl f.heap.objs.size f (upd K t.heap.objs.size (.lst [])) B (X.pn++a)))
local macro_rules|`(15#0)=>`((by symm))
local macro_rules|`(16#0)=>`((s.heap.objs.size+1))
local macro_rules|`(17#0)=>`({_,ρ,c j,j,ρ,aB,W.X j l,l,λu G=>{_,ρ,_,ρ,by show 2<=sizeLine;decide,λr m=>T S j e l f p O u G r m}})
local macro_rules|`(18#0)=>`((by intro z;injection z with _ _ z;injection z with z;injection z with z;exact absurd z ⋯))
local macro_rules|`(19#0)=>`((λ_ _=>rfl))
local macro_rules|`(20#0)=>`((λz=>nomatch z))
local macro_rules|`(21#0)=>`((Obj.mapSeq λ_=>(#[]:Array Value)))
local macro_rules|`(22#0)=>`((cM (pv 0) rfl))
local macro_rules|`(23#0)=>`({_,ρ,_,ρ,by show 2<=sizeLine;decide,λr m=>x v _ k f e z y U I (.inl {(o),sc,Z,ρ}) r m})
local macro_rules|`(24#0)=>`((eval o X.env >>= λd=>standAt apos.atName >>= λ_=>holding [d] (getMethod d m pl) >>= λg=>callWith pos g.1 g.2 (backTo pos (starEach (e::es) X.env)) (backToKw pos (keywordEach [] X.env))))
local macro_rules|`(25#0)=>`(["self","token","place","numbers","moment"])
local macro_rules|`(26#0)=>`((Room 9 (A.deeper (PyProof.Rows.envOfC "law" (aG xT) s.heap.objs.size f cdv))))
local macro_rules|`(27#0)=>`((x == ("__debug__":Str)))
local macro_rules|`(28#0)=>`((.Call (.Attribute o m apos) (e::es) [] pos))
local macro_rules|`(29#0)=>`((E5 rfl))
local macro_rules|`(30#0)=>`((∀j e,cs[j]?=some e->j<k->e.has tk=false))
local macro_rules|`(31#0)=>`((FS P w K mg base ["_law_e","_law_found","_law_word","_law_good"] "_law_word_of" (aG vX) f cdv A outer s H₀))
local macro_rules|`(32#0)=>`((ns.map V.int))
local macro_rules|`(33#0)=>`((by rfl))
local macro_rules|`(34#0)=>`((bN X.prog X.w X.K X.mg X.base CX k f fd ps sp))
local macro_rules|`(35#0)=>`((envOfC qual scope s₀.heap.objs.size f cd::outer))
local macro_rules|`(36#0)=>`((arrOf st'))
local macro_rules|`(37#0)=>`((false,eval e X.env))
local macro_rules|`(38#0)=>`((tF (mo<=·) u=true->∀tk,v=.int tk->0<=tk->tk<nt->(∀c ∈ cs,c.has tk=false)->∀H',aJ H H'->E (.ref CL) none H'))
local macro_rules|`(39#0)=>`({(rfl),ρ,ρ,ρ})
local macro_rules|`(40#0)=>`((starEach es X.env))
local macro_rules|`(41#0)=>`((seqObj "list" #[] 0))
local macro_rules|`(42#0)=>`((show false=true from z))
local macro_rules|`(43#0)=>`((arrOf st))
local macro_rules|`(44#0)=>`((EP X pins σ Q))
local macro_rules|`(45#0)=>`((.dK kvs))
local macro_rules|`(46#0)=>`((Iv ws sp t s))
local macro_rules|`(47#0)=>`((.dK (wY (.ref pl) (.int g) x (.int mo) y z)))
local macro_rules|`(48#0)=>`((upd (upd (upd L p (.ins N.CB g (cZ "sheet" (.ref x) (w4 q j l k)))) d (.dK [])) p (.ins N.CB g (bf q x d j l k 0 0 0))))
local macro_rules|`(49#0)=>`((.ref p))
local macro_rules|`(50#0)=>`((MG P w))
local macro_rules|`(51#0)=>`((i8 ?_))
local macro_rules|`(52#0)=>`(((bQ xT).getD 7 (.Pass {0,0,0,0})))
local macro_rules|`(53#0)=>`(((relabel scope X.env).names.lookup x=some .cell\/(relabel scope X.env).names.lookup x=some .free))
local macro_rules|`(54#0)=>`((Hy (E':=E) λ_ _ _ z=>z))
local macro_rules|`(55#0)=>`((uM PySem.F.plainAttrs_list PySem.F.slot_list_append PySem.F.type_list_append fI aR (aA (bY fG) aF)))
local macro_rules|`(56#0)=>`((congr (congrArg (@ite _ _ _) rfl) (congrArg (bind _) (funext λst=>congr (congrArg bind (congrArg (forIn _ _) (funext λn=>funext λc=>congrArg (bind _) (funext λc=>?_)))) (funext λc=>?_)))))
local macro_rules|`(57#0)=>`((beq_iff_eq.mpr z))
local macro_rules|`(58#0)=>`((upd (upd S p (.ins j v (pf c.n c.l c.h c.m (.ref q)))) b (.ins g y (bf pw sh d sp I G nn (nt+1) i))))
local macro_rules|`(59#0)=>`((.ref f))
local macro_rules|`(60#0)=>`((∀(j:Nat) n,ns[j]?=some n->pl+(j:Int)<c.m->cW kvs (Sum.inl (pl+(j:Int)):bJ)=some (.int n)))
section
open PySem PySem.Spec PyProof.Rows PySem.W
abbrev d0:=@wpAny_bind
abbrev e7:=@List.getElem?_eq_getElem
abbrev e8:=@List.getElem?_eq_some_iff
abbrev g6:=@List.mem_cons_of_mem
abbrev g7:=@List.length_map
abbrev g8:=@Heap.get?_push_of_some
abbrev g9:=@Nat.le_refl
abbrev i3:=@List.mem_cons
abbrev i4:=@List.mem_cons_self
abbrev i5:=@List.mem_of_getElem?
abbrev i6:=@wpS_bind
abbrev i7:=@Heap.lt_size
abbrev i8:=@wpAny_pure
abbrev i9:=@Nat.zero_le
abbrev j0:=@List.mem_append_right
abbrev j1:=@List.getElem?_map
abbrev j3:=@Heap.get?_push_size
abbrev j5:=@List.length_append
abbrev j6:=@List.mem_append
abbrev j7:=@List.size_toArray
abbrev j8:=@Int.le_refl
abbrev j9:=@Nat.ne_of_lt
abbrev k7:=@wpS_pure
abbrev l4:=@Bool.false_ne_true
abbrev l7:=@List.mem_iff_getElem?
abbrev p8:=@List.length_cons
abbrev p9:=@Nat.lt_of_lt_of_le
abbrev u5:=@List.map_append
abbrev u6:=@List.length_take
abbrev u7:=@List.pairwise_cons
abbrev u8:=@Nat.le_trans
abbrev u9:=@Array.length_toList
abbrev v3:=@List.mem_filter
abbrev v5:=@Array.toList_append
abbrev v6:=@List.take_of_length_le
abbrev v7:=@List.getElem?_drop
abbrev v8:=@List.mem_map
abbrev v9:=@List.mem_singleton
abbrev w5:=@List.append_assoc
abbrev w9:=@wpAny_holding
abbrev x9:=@List.map_cons
abbrev y0:=@Array.getElem?_eq_getElem
abbrev y4:=@List.pairwise_iff_getElem
abbrev y6:=@wpAny_mono
abbrev y7:=@List.getElem?_take_of_lt
abbrev y9:=@Int.le_of_lt
abbrev z5:=@PassesOwn.never
abbrev z6:=@wpAny_field
abbrev z7:=@Bool.false_eq_true
abbrev z8:=@Int.emod_lt_of_pos
abbrev z9:=@List.take_append_drop
abbrev A0:=@List.nodup_cons
abbrev A1:=@List.length_zip
abbrev A2:=@List.getElem?_zip_eq_some
abbrev A3:=@Nat.lt_irrefl
abbrev A4:=@List.length_range
abbrev A5:=@List.take_add_one
abbrev A6:=@Heap.get?_update_other
abbrev A7:=@Int.le_trans
abbrev A8:=@Bool.and_eq_true
abbrev A9:=@List.getD_eq_getElem?_getD
abbrev B0:=@wpAny_callSpecial?_slot
abbrev B1:=@List.getElem?_append_left
abbrev B2:=@Nat.min_eq_left
abbrev B5:=@Int.emod_nonneg
abbrev B7:=@List.getElem?_eq_none
abbrev B8:=@wpAny_newObj_type
abbrev B9:=@List.mem_append_left
abbrev C0:=@wpAny_passesOwn
abbrev C1:=@List.mem_of_mem_take
abbrev C2:=@List.map_map
abbrev C3:=@List.getElem_of_mem
abbrev C4:=@wpAny_truthy_bool
abbrev C5:=@Nat.le_of_lt
abbrev C6:=@wpAny_of_eq
abbrev C7:=@List.pairwise_append
abbrev C8:=@List.getElem?_append_right
abbrev C9:=@Heap.SameBut.update
abbrev D0:=@wpAny_ite_false
abbrev D3:=@List.drop_eq_getElem_cons
abbrev D4:=@List.length_replicate
abbrev D5:=@List.length_filter_le
abbrev D6:=@Nat.le_of_eq
abbrev D7:=@wpAny_Call_Name_kw
abbrev D8:=@List.length_drop
abbrev D9:=@wpAny_call_entry
abbrev E1:=@List.mem_range
abbrev E2:=@True.intro
abbrev E3:=@Bool.eq_iff_iff
abbrev E4:=@List.of_mem_zip
abbrev E5:=@Or.inl
abbrev E6:=@List.getElem?_set_self
abbrev E7:=@List.drop_drop
abbrev E8:=@PyProof.Rows.slot_tuple_getitem
abbrev E9:=@List.getElem?_set_ne
abbrev F0:=@List.append_nil
abbrev F1:=@wpAny_rule
abbrev F2:=@wpS_forRange
abbrev F3:=@List.mem_of_mem_drop
abbrev F4:=@Bool.eq_false_iff
abbrev F6:=@Ne.symm
abbrev F7:=@wpAny_setField
abbrev F8:=@List.filter_cons
abbrev F9:=@List.map_snd_zip
abbrev G7:=@codeAny_mono
abbrev G9:=@List.filter_append
abbrev J0:=@Heap.get?_update_self
abbrev J3:=@wpAny_attempt
abbrev J4:=@Int.toNat_natCast
abbrev J5:=@List.Pairwise.nil
abbrev J6:=@Nat.lt_succ_of_lt
abbrev J7:=@List.extract_eq_take_drop
abbrev J8:=@Array.toList_reverse
abbrev J9:=@wpAny_seqItems
abbrev K0:=@Or.inr
abbrev K1:=@List.all_eq_true
abbrev K2:=@List.replicate_succ
abbrev K3:=@PyProof.Rows.boot_range
abbrev K4:=@List.any_cons
abbrev K5:=@List.mem_filterMap
abbrev K6:=@wpAny_execs_nil
abbrev K7:=@codeAny_builtin
abbrev K8:=@List.find?_cons
abbrev K9:=@wpAny_setField_rec
abbrev L0:=@Nat.eq_or_lt_of_le
abbrev L1:=@Nat.not_lt_zero
abbrev L3:=@Nat.le_succ
abbrev L4:=@Calls.callWith_builtin
abbrev L5:=@List.drop_of_length_le
abbrev L6:=@Bool.not_eq_true'
abbrev L7:=@Nat.add_sub_of_le
abbrev L8:=@List.nodup_append
abbrev L9:=@Nat.lt_trichotomy
abbrev M0:=@Nat.ne_of_gt
abbrev M3:=@Heap.size_push
abbrev M4:=@List.length_singleton
abbrev M5:=@F.slot_enumerate_next
abbrev M6:=@wpS_get
abbrev M7:=@wpAny_tryCatch
abbrev M8:=@PyProof.Rows.callWith_type1
abbrev M9:=@wpAny_call
abbrev N0:=@Calls.evalArgs_plain
abbrev N1:=@wpS_mono
abbrev N2:=@Array.toList_extract
abbrev N3:=@List.countP_cons
abbrev N4:=@Around.under_plainId
abbrev N5:=@wpAny_standAt
abbrev N6:=@wpAny_newFunctionEnv_cells
abbrev N7:=@Array.getElem?_eq_some_iff
abbrev N8:=@Array.perm_iff_toList_perm
abbrev N9:=@List.filterMap_cons
abbrev O0:=@List.reverse_append
abbrev O1:=@List.length_nil
abbrev O2:=@PyProof.Rows.evalArgs_kw2
abbrev O3:=@Array.size_push
abbrev O4:=@List.getElem?_eq_none_iff
abbrev O5:=@Option.isSome_iff_exists
abbrev O6:=@List.map_nil
abbrev O7:=@Obj.data_mapFields
abbrev O8:=@Nat.zero_add
abbrev O9:=@Int.not_lt
abbrev P0:=@wpS_modify
abbrev P1:=@List.drop_zero
abbrev P2:=@List.take_take
abbrev P3:=@wpAny_pyIter_list
abbrev P4:=@List.flatten_cons
abbrev P5:=@Array.toList_push
abbrev P6:=@Array.size_append
abbrev P7:=@PassesOwn.leaving
abbrev P8:=@List.getElem?_set
abbrev P9:=@List.ext_getElem?
abbrev Q0:=@wpAny_letGo
abbrev Q1:=@List.drop_eq_nil_of_le
abbrev Q3:=@List.filter_eq_nil_iff
abbrev Q4:=@wpAny_newList
abbrev Q5:=@Nat.lt_succ_self
abbrev Q6:=@wpAny_isInstance
abbrev Q7:=@Nat.le_add_right
abbrev Q8:=@Nat.succ_le_succ
abbrev Q9:=@Obj.isFreed_of_fields
abbrev R0:=@Array.getElem?_toList
abbrev R1:=@wpAny_loadPart'
abbrev R4:=@List.length_set
abbrev R5:=@codeAny_call_builtin
abbrev R6:=@Array.Perm.refl
abbrev R7:=@List.filter_eq_self
abbrev R8:=@List.flatMap_append
abbrev R9:=@wpAny_ite_true
abbrev S0:=@wpAny_newTuple
abbrev S5:=@wpS_lift
abbrev S7:=@wpAny_pyIter_tuple
abbrev S9:=@Calls.spliced_cons
abbrev T0:=@List.zip_cons_cons
abbrev T3:=@Nat.lt_of_le_of_lt
abbrev T4:=@List.take_add
end
namespace L2
open PySem PySem.Spec PyProof.Rows
section
variable {H:Hp} {σ:St} {s:Shared} {u:Value} {pins:List 10#0} {x:Str} {h:Heap} {us:List Value} {a b C L:Addr} {E:Value->Shared->Prop} {pos:Pos} {P:Program} {i k t' n:Nat} {e tg:Expr} {v:V} {xs vs:List V} {o:HO} {M:Model} {Q:Unit->Shared->Prop} {X:Cx} {op:CmpOp} {g:TG} {tb:TS} {r:R2} {pl:Sem Bool} {ch:List Addr} {te:TE} {f:Value->Value->Sem Value} {kw:List (Str × Value)} {ps:List Str} {d:Scope}
abbrev bJ:=Sum Int Str
def uU:bJ->Value->Bool
 | .inl k,v=>Value.isInt k v
 | .inr x,v=>Value.isStrOf x v
def LM (w:World):bJ->Int
 | .inl k=>hashInt k
 | .inr x=>hashStr w x
theorem dL:∀{k:bJ} {v:Value},uU k v=true->(∃i t,k=Sum.inl i/\v=Value.int i t)\/(∃x t,k=Sum.inr x/\v=Value.str x t)
 | .inl i,v,h=>by
  let (t,e):=Value.isInt_shape (k:=i) (v:=v) h
  exact .inl {(i),t,ρ,e}
 | .inr x,v,h=>by
  let (t,e):=Value.isStrOf_shape (x:=x) (v:=v) h
  exact .inr {(x),t,ρ,e}
def Ix (i:Int) (t:Tok):uU (.inl i) (.int i t)=true:=by simp [uU,Value.isInt]
def Iw (x:Str) (t:Tok):uU (.inr x) (.str x t)=true:=by simp [uU,Value.isStrOf]
def EA (a b:Int):decide ((Sum.inl a:bJ)=Sum.inl b)=(a == b):=by
 by_cases e:a=b
 ·subst e;simp
 ·let h:¬ (Sum.inl a:bJ)=Sum.inl b:=λq=>e (Sum.inl.inj q);rw [decide_eq_false h];exact(beq_eq_false_iff_ne.mpr e).symm
def DX (a b:Str):decide ((Sum.inr a:bJ)=Sum.inr b)=decide (a=b):=by
 by_cases e:a=b
 ·subst e;simp
 ·let h:¬ (Sum.inr a:bJ)=Sum.inr b:=λq=>e (Sum.inr.inj q);rw [decide_eq_false h,decide_eq_false e]
def DZ (a:Int) (b:Str):decide ((Sum.inl a:bJ)=Sum.inr b)=false:=decide_eq_false (λq=>nomatch q)
def DY (a:Str) (b:Int):decide ((Sum.inr a:bJ)=Sum.inl b)=false:=decide_eq_false (λq=>nomatch q)
def cD (prog:Program) (w:World):PySem.KeyKind prog w bJ where
 is:=uU
 hash:=LM w
 inj:=λv a b ha hb=>by
  rcases dL ha with ⟨i,t,rfl,rfl⟩|⟨x,t,rfl,rfl⟩
  ·rcases dL hb with ⟨j,u,rfl,e⟩|⟨y,u,rfl,e⟩
   ·injection e with e1 _;rw [e1]
   ·exact nomatch e
  ·rcases dL hb with ⟨j,u,rfl,e⟩|⟨y,u,rfl,e⟩
   ·exact nomatch e
   ·injection e with e1 _;rw [e1]
 byValue:=λk v h=>by
  rcases dL h with ⟨i,t,rfl,rfl⟩|⟨x,t,rfl,rfl⟩ <;> rfl
 pyHash:=λhv h=>by
  rcases dL hv with ⟨i,t,rfl,rfl⟩|⟨x,t,rfl,rfl⟩
  ·exact wpAny_pyHash_int h
  ·exact wpAny_pyHash_str h
 eqBool:=λhu hv h=>by
  rcases dL hu with ⟨i,t,rfl,rfl⟩|⟨x,t,rfl,rfl⟩
  ·rcases dL hv with ⟨j,u,rfl,rfl⟩|⟨y,u,rfl,rfl⟩
   ·rw [EA] at h;exact wpAny_eqBool_int h
   ·rw [DZ] at h;exact SeqAt.EqAt.int_str i t y u _ _ _ _ h
  ·rcases dL hv with ⟨j,u,rfl,rfl⟩|⟨y,u,rfl,rfl⟩
   ·rw [DY] at h;exact SeqAt.EqAt.str_int x t j u _ _ _ _ h
   ·rw [DX] at h;exact wpAny_eqBool_str h
 «strs»:=λk x t v h=>by
  rcases dL h with ⟨i,u,rfl,e⟩|⟨y,u,rfl,e⟩
  ·exact nomatch e
  ·injection e with e1 _
   subst e1
   cases v <;> rfl
def yW (prog:Program) (w:World) (i:Int) (t:Tok):(cD prog w).is (.inl i) (.int i t)=true:=Ix i t
def yV (prog:Program) (w:World) (x:Str) (t:Tok):(cD prog w).is (.inr x) (.str x t)=true:=Iw x t
inductive V where
 | non|bl (b:Bool)|int (i:Int)|str (x:Str)|byt (b:Array UInt8)|flt (b:UInt64)|ref (a:Addr)|ty (n:String)
 deriving DecidableEq
def bF:V->Value->Prop
 | .non,u=>u=Value.none
 | .bl b,u=>u=Value.bool b
 | .int i,u=>∃t,u=Value.int i t
 | .str x,u=>∃t,u=Value.str x t
 | .byt b,u=>∃t,u=Value.bytes b t
 | .flt b,u=>∃t,u=Value.float b t
 | .ref a,u=>u=Value.ref a
 | .ty n,u=>u=Value.type n
abbrev bA:List V->List Value->Prop:=Paired bF
theorem bA.length {xs:List V} {us:List Value} (r:bA xs us):xs.length=us.length:=Paired.length r
def aM {α β:Type} {F:α->β->Prop} {xs:List α} {ys:List β} {i:Nat} {x:α} (p:Paired F xs ys) (e:xs[i]?=some x):∃y,ys[i]?=some y/\F x y:=by
 induction p generalizing i with
 | nil=>cases e
 | cons r t ih=>
  cases i with
  | zero=>cases e;exact {_,ρ,r}
  | succ i=>exact ih (i:=i) e
def bA.get {x:V} (p:bA xs us) (e:xs[i]?=some x):∃u,us[i]?=some u/\bF x u:=aM p e
theorem bA.set {x:V} {u:Value} (r:bF x u) {xs:List V} {us:List Value} (i:Nat) (p:bA xs us):bA (xs.set i x) (us.set i u):=by
 induction p generalizing i with
 | nil=>exact .nil
 | cons q t ih=>
  cases i with
  | zero=>exact .cons r t
  | succ i=>exact .cons q (ih i)
def bA.append {ys:List V} {d:List Value} (p:bA xs us) (s:bA ys d):bA (xs++ys) (us++d):=by
 induction p with
 | nil=>exact s
 | cons r _ t=>exact .cons r t
theorem bA.take {xs:List V} {us:List Value} (n:Nat) (p:bA xs us):bA (xs.take n) (us.take n):=by
 induction p generalizing n with
 | nil=>rw [List.take_nil,List.take_nil];exact .nil
 | cons q t ih=>
  cases n with
  | zero=>exact .nil
  | succ n=>exact .cons q (ih n)
theorem bA.drop {xs:List V} {us:List Value} (n:Nat) (p:bA xs us):bA (xs.drop n) (us.drop n):=by
 induction p generalizing n with
 | nil=>rw [List.drop_nil,List.drop_nil];exact .nil
 | cons q t ih=>
  cases n with
  | zero=>exact .cons q t
  | succ n=>exact ih n
def jF:Option V->Option Value->Prop
 | some v,some u=>bF v u
 | none,none=>True
 | _,_=>False
def KV {κ:Type}:List (κ × V)->List (κ × Value)->Prop:=Paired λ(p:κ × V) (q:κ × Value)=>p.1=q.1/\bF p.2 q.2
def kV:bJ->V
 | .inl i=>.int i
 | .inr x=>.str x
inductive HO where
 | lst (xs:List V)
 | tup (xs:List V)
 | dK (kvs:List (bJ × V))|dT (kvs:List (List bJ × V))
 | set (S:Int->Bool) (n:Nat)
 | ins (C dx:Addr) (fs:List (Str × V))
 | own (x:Addr)
 | xd (fs:List (Str × V))
 | met (f x:Addr)
 | rng (lo hi:Int)
 | frz (o:Obj) (u:HO)
 | tbl (ps:Array Value)
 | ext (φ:Heap->Prop)
abbrev Hp:=Addr->Option HO
def upd (H:Hp) (a:Addr) (o:HO):Hp:=λb=>if b=a then some o else H b
def aB:upd H a o a=some o:=by unfold upd;rw [if_pos rfl]
def aC (h:b≠a):upd H a o b=H b:=by unfold upd;rw [if_neg h]
def eM {u:HO}:upd (upd H a o) a u=upd H a u:=by
 funext b;unfold upd;split <;> rfl
def aK {u:HO} (h:H a=some o) (h':H b=some u) (d:o≠u):a≠b:=by
 intro e;subst e;rw [h] at h';exact d (Option.some.inj h')
def aD (h:H a=some o) (h':H b=none):a≠b:=by
 intro e;subst e;rw [h] at h';cases h'
section
variable (P:Program) (w:World)
def bL (H:Hp) (h:Heap) (a:Addr):HO->Prop
 | .lst xs=>xs.length<=sizeLine/\∃(its:List Value) (n:Nat),bA xs its/\h.get? a=some { cls:=.type "list",data:=.seq its.toArray n }
 | .tup xs=>xs.length<=sizeLine/\∃its:List Value,bA xs its/\IsTup h a its.toArray
 | .dK kvs=>kvs.length<=sizeLine/\(a == sysModules)=false/\∃vs,KV kvs vs/\h.DictOf (cD P w) a vs
 | .dT kvs=>kvs.length<=sizeLine/\(a == sysModules)=false/\∃xs:List (List bJ × Addr × Value),
   Paired (λ(p:List bJ × V) (q:List bJ × Addr × Value)=>p.1=q.1/\H q.2.1=some (.tup (p.1.map kV))/\bF p.2 q.2.2) kvs xs /\
   ∃o es ep,h.get? a=some o/\o.ExactDict/\o.data=.dict es ep/\es.toList=xs.map (entryOfKey (tupleKind (cD P w)))/\(xs.map (·.1)).Nodup
 | .set S n=>h.SetOf (intKind P w) a S n
 | .ins C dx fs=>H dx=some (.own a)/\fs.length<=1000/\dx≠a/\h.get? a=some (PySem.W.instObj C dx) /\
   ∃mA,h.Ns1 dx mA/\(∀f,jF (fs.lookup f) (mA f))/\PySem.Within mA (fs.map (·.1))
 | .own _=>∃o,h.get? a=some o
 | .xd fs=>∃mA,h.Ns1 a mA/\∀f,jF (fs.lookup f) (mA f)
 | .rng lo hi=>∃t u v,h.get? a=some { cls:=.type "range",data:=.fields #[.int lo t,.int hi u,.int 1 v] }
 | .frz o u=>h.get? a=some o/\bL H h a u
 | .tbl ps=>h.get? a=some { cls:=.none,data:=.fields ps }
 | .met f x=>h.get? a=some (PySem.W.methodObj 59#0 (.ref x))
 | .ext φ=>φ h/\(∃o,h.get? a=some o)/\∀h1 h2:Heap,φ h1->(∀o,h1.get? a=some o->h2.get? a=some o)->φ h2
def lL (H:Hp) (h:Heap):Prop:=∀a o,H a=some o->bL P w H h a o
end
section
variable {P:Program} {w:World} {H H':Hp} {h h':Heap} {a:Addr} {o:HO}
theorem bL.lt (x:bL P w H h a o):a<h.objs.size:=by
 cases o with
 | lst xs=>let (_,_,_,_,e):=x;exact i7 e
 | tup xs=>let (_,_,_,p):=x;exact p.lt
 | dK kvs=>let (_,_,_,_,o,_,_,e,_):=x;exact i7 e
 | dT kvs=>let (_,_,_,_,o,_,_,e,_):=x;exact i7 e
 | set S n=>let (o,_,_,_,e,_):=x;exact i7 e
 | ins C dx fs=>let (_,_,_,e,_):=x;exact i7 e
 | own y=>let (_,e):=x;exact i7 e
 | xd fs=>let (_,(_,_,_,e,_),_):=x;exact i7 e
 | rng lo hi=>let (_,_,_,e):=x;exact i7 e
 | frz ob u=>let (e,_):=x;exact i7 e
 | tbl ps=>exact i7 (show h.get? a=some _ from x)
 | met f y=>exact i7 (show h.get? a=some _ from x)
 | ext φ=>let (_,(_,e),_):=x;exact i7 e
def Paired.mapP {α β:Type} {F G:α->β->Prop} {l₁:List α} {d:List β} (p:Paired F l₁ d) (f:∀a b,F a b->G a b):Paired G l₁ d:=PySem.Paired.mono f p
def bL.stay (x:bL P w H h a o) (k:∀b u,(b=a\/H b=some (.own a))->h.get? b=some u->h'.get? b=some u)
  (J:∀b,H b=some (.own a)->H' b=some (.own a)) (I:∀b xs,H b=some (.tup xs)->H' b=some (.tup xs)):bL P w H' h' a o:=by
 induction o with
 | lst xs=>let (z,B,n,r,e):=x;exact {z,B,n,r,k _ _ (.inl rfl) e}
 | tup xs=>let (z,B,r,i,e,c):=x;exact {z,B,r,i,k _ _ (.inl rfl) e,c}
 | dK kvs=>let (z,y,F,r,i,es,j,e,c):=x;exact {z,y,F,r,i,es,j,k _ _ (.inl rfl) e,c}
 | dT kvs=>
  let (z,y,xs,r,i,es,j,e,c):=x;exact {z,y,xs,Paired.mapP r λp q z=>{z.1,I _ _ z.2.1,z.2.2},i,es,j,k _ _ (.inl rfl) e,c}
 | set S n=>let (i,es,j,t,e,c):=x;exact {i,es,j,t,k _ _ (.inl rfl) e,c}
 | ins C dx fs=>
  let (d,z,G,e,mA,(D,es,j,L,c),r):=x;exact {J _ d,z,G,k _ _ (.inl rfl) e,mA,{D,es,j,k _ _ (.inr d) L,c},r}
 | own y=>let (i,e):=x;exact {i,k _ _ (.inl rfl) e}
 | xd fs=>let (mA,(D,es,j,e,c),r):=x;exact {mA,{D,es,j,k _ _ (.inl rfl) e,c},r}
 | rng lo hi=>let (t,u,v,e):=x;exact {t,u,v,k _ _ (.inl rfl) e}
 | frz i u ih=>let (e,q):=x;exact {k _ _ (.inl rfl) e,ih q}
 | tbl ps=>
  let e:h.get? a=some { cls:=.none,data:=.fields ps }:=x;show h'.get? a=some { cls:=.none,data:=.fields ps };exact k a _ (.inl rfl) e
 | met f y=>
  let e:h.get? a=some (PySem.W.methodObj 59#0 (.ref y)):=x;show h'.get? a=some (PySem.W.methodObj 59#0 (.ref y));exact k a _ (.inl rfl) e
 | ext φ=>let (p,(o,e),st):=x;exact {st _ _ p λo q=>k _ _ (.inl rfl) q,{o,k _ _ (.inl rfl) e},st}
theorem lL.lt (x:lL P w H h) (e:H a=some o):a<h.objs.size:=(x a o e).lt
def lL.fresh (x:lL P w H h) (e:h.objs.size<=a):H a=none:=by
 cases q:H a with
 | none=>rfl
 | some u=>exact absurd (p9 (x.lt q) e) (A3 _)
def lL.kept (x:lL P w H h) (k:∀b u,h.get? b=some u->h'.get? b=some u):lL P w H h':=λa o e=>
 (x a o e).stay (λb u _ q=>k b u q) (λ_ q=>q) λ_ _ q=>q
def lL.laid (x:lL P w H h) (k:∀b u,h.get? b=some u->h'.get? b=some u) (n:h.objs.size<=a) (d:bL P w (upd H a o) h' a o):lL P w (upd H a o) h':=λb u e=>by
 have i:=x.fresh n
 by_cases j:b=a
 ·subst j;rw [aB] at e;cases e;exact d
 ·rw [aC j] at e
  exact(x b u e).stay (λc v _ q=>k c v q) (λc q=>by rw [aC (aD q i)];exact q) λc xs q=>by rw [aC (aD q i)];exact q
end
def Rd (H:Hp) (a:Addr) (u:HO):Prop:=H a=some u\/∃o,H a=some (.frz o u)
def Rd.ok {w:World} {u:HO} (r:Rd H a u) (x:lL P w H h):bL P w H h a u:=by
 rcases r with r|⟨o,r⟩
 ·exact x a u r
 ·let (_,q):=x a _ r;exact q
def JP:Option HO->Prop
 | some (.lst _)=>True
 | some (.dK _)=>True
 | some (.dT _)=>True
 | some (.set _ _)=>True
 | some (.ins _ _ _)=>True
 | some (.ext _)=>True
 | _=>False
section
variable {P:Program} {w:World} {H:Hp} {h h':Heap} {x e:Addr} {o':HO}
def lL.write (J:lL P w H h) (B:JP (H x)) (I:e=x\/H e=some (.own x)) (k:∀b u,b≠e->h.get? b=some u->h'.get? b=some u) (F:∃u,h'.get? e=some u)
  (D:bL P w (upd H x o') h' x o'):lL P w (upd H x o') h':=λb u q=>by
 let i:∀c y,H c=some (.own y)->c≠x:=λc y r z=>by subst z;rw [r] at B;exact B
 let j:∀c xs,H c=some (.tup xs)->c≠x:=λc xs r z=>by subst z;rw [r] at B;exact B
 by_cases n:b=x
 ·subst n;rw [aB] at q;cases q;exact D
 ·rw [aC n] at q
  by_cases d:b=e
  ·let G:H b=some (.own x):=by
    rcases I with z|z
    ·exact absurd (d.trans z) n
    ·rw [d];exact z
   rw [q] at G;cases G;let (v,L):=F;exact {v,by rw [d];exact L}
  ·refine(J b u q).stay (λc v hc r=>k c v ?_ r) (λc r=>by rw [aC (i c b r)];exact r) λc xs r=>by rw [aC (j c xs r)];exact r
   rcases hc with rfl|hc
   ·exact d
   ·rintro rfl;rcases I with z|z
    ·exact i c b hc z
    ·rw [hc] at z;cases z;exact n rfl
end
structure Un (fs ex:List Addr) (H H':Hp) (h h':Heap):Prop where
 keep:∀b o,h.get? b=some o->H b=none->b ∉ fs->b ∉ ex->h'.get? b=some o
 slot:∀b o,h.get? b=some o->H b=none->b ∈ fs->b ∉ ex->∃sl,h'.get? b=some { o with slots:=sl }
 free:∀b o,h.get? b=some o->H b=none->b ∉ ex->H' b=none
 there:∀b o,h.get? b=some o->b ∉ ex->∃o',h'.get? b=some o'
 tups:∀b xs,H b=some (.tup xs)->H' b=some (.tup xs)
 frzs:∀b o u,H b=some (.frz o u)->H' b=some (.frz o u)
 tbls:∀b ps,H b=some (.tbl ps)->∃more,H' b=some (.tbl (ps++more))
section
variable {fs fs' ex ex':List Addr} {H H1 H2:Hp} {h h1 h2 h':Heap} {a x e:Addr} {o:HO}
def Un.any (u:Un fs ex H H1 h h1) {b:Addr} {d:Obj} (q:h.get? b=some d) (n:H b=none) (j:b ∉ ex):∃y,h1.get? b=some { d with slots:=y }:=by
 by_cases i:b ∈ fs
 ·exact u.slot b d q n i j
 ·exact {d.slots,u.keep b d q n i j}
def Un.kept (k:∀b u,h.get? b=some u->h'.get? b=some u):Un fs ex H H h h':=
 {λb d q _ _ _=>k b d q,λb d q _ _ _=>{d.slots,k b d q},λ_ _ _ n _=>n,λb d q _=>{d,k b d q},λ_ _ q=>q,λ_ _ _ q=>q,λ_ ps q=>{#[],by rw [q];simp}}
def Un.refl:Un fs ex H H h h:=Un.kept λ_ _ q=>q
def Un.laid (k:∀b u,h.get? b=some u->h'.get? b=some u) (i:h.objs.size<=a) (d:H a=none):Un fs ex H (upd H a o) h h' where
 keep:=λb u q _ _ _=>k b u q
 slot:=λb u q _ _ _=>{u.slots,k b u q}
 free:=λb u q n _=>by rw [aC (j9 (p9 (i7 q) i))];exact n
 there:=λb u q _=>{u,k b u q}
 tups:=λb xs q=>by rw [aC (aD q d)];exact q
 frzs:=λb u xs q=>by rw [aC (aD q d)];exact q
 tbls:=λb ps q=>{#[],by rw [aC (aD q d),q];simp}
def Un.write (i:JP (H x)) (F:e=x\/H e=some (.own x)) (k:∀b u,b≠e->h.get? b=some u->h'.get? b=some u) (y:∃u,h'.get? e=some u):Un fs ex H (upd H x o) h h':=by
 let D:∀b,H b=none->b≠x:=λb n z=>by subst z;rw [n] at i;exact i
 let B:∀b,H b=none->b≠e:=λb n z=>by
  subst z;rcases F with r|r
  ·exact D b n r
  ·rw [n] at r;cases r
 let j:∀b u,H b=some u->¬ JP (some u)->b≠x:=λb u q nm z=>by subst z;rw [q] at i;exact nm i
 refine {λb u q n _ _=>k b u (B b n) q,λb u q n _ _=>{u.slots,k b u (B b n) q},λb u q n _=>by rw [aC (D b n)];exact n,λb u q _=>?_,
  λb xs q=>by rw [aC (j b _ q λz=>z)];exact q,λb u xs q=>by rw [aC (j b _ q λz=>z)];exact q,λb ps q=>{#[],by rw [aC (j b _ q λz=>z),q];simp}};by_cases d:b=e
 ·subst d;exact y
 ·exact {u,k b u d q}
end
def JW (h:Heap) (H:Hp):List Addr:=(List.range h.objs.size).filter λa=>(H a).isSome
def tL (h:Heap) (H:Hp):Heap:=PySem.W.hideAll h (JW h H)
def Ja (h:Heap) (H:Hp):(tL h H).objs.size=h.objs.size:=PySem.W.hideAll_size _ _
def Qx {o:Obj} (e:h.get? b=some o) (n:H b=none):(tL h H).get? b=some o:=
 PySem.W.hideAll_get _ e λd=>by
  have q:(H b).isSome=true:=(v3.mp d).2
  rw [n] at q;simp at q
def Wu {o:Obj} (e:(tL h H).get? b=some o):h.get? b=some o/\H b=none:=by
 let d:h.get? b=some o:=PySem.W.of_hideAll (JW h H) e;refine {d,?_};cases q:H b with
 | none=>rfl
 | some x=>
  let i:b ∈ JW h H:=v3.mpr {E1.mpr (i7 d),by simp [q]};let z:(tL h H).get? b=none:=PySem.W.hideAll_none (JW h H) i;rw [z] at e;cases e
def qD (g h:Heap) (L:Addr):List 10#0:=(List.range h.objs.size).filterMap λa=>if a=L\/(g.get? a).isSome=true then none else(h.get? a).map λo=>(a,o)
def jW {g:Heap} {o:Obj} (h1:a≠L) (h2:g.get? a=none) (d:h.get? a=some o):(a,o) ∈ qD g h L:=
 K5.mpr {a,E1.mpr (i7 d),by simp [h1,h2,d]}
def rV {g:Heap} {p:Addr × Obj} (hp:p ∈ qD g h L):p.1≠L/\g.get? p.1=none/\h.get? p.1=some p.2:=by
 let (b,_,e):=K5.mp hp;split at e
 ·cases e
 ·rename_i hn;cases q:h.get? b with
  | none=>rw [q] at e;simp at e
  | some u=>
   rw [q] at e;simp only [Option.map_some,Option.some.injEq] at e;subst e;refine {λz=>hn (.inl z),?_,q};show g.get? b=none;cases r:g.get? b with
   | none=>rfl
   | some v=>exact(hn (.inr (by simp [r]))).elim
def rX {g:Heap}:News g L h (qD g h L):=λp d=>let ⟨a,b,c⟩:=rV d;{(c),a,b}
structure Mod (K:PySem.W.Frag) (mg:Str->Option Value) (base:Heap):Prop where
 kin:K.In base
 glob:base.Ns mainGlobals mg
 blt:∃mb,base.Ns builtinsNs mb/\∀x:Str,x≠"__name__"->mb x=bootBuiltins x
 nolimit:base.NoLimit
structure Cx where
 prog:Program
 w:World
 K:PySem.W.Frag
 mg:Str->Option Value
 base:Heap
 A:Around
 N:List Str
 s₀:Shared
 H₀:Hp
 env:Env
 outer:List Env
 stack:List Env
 ex:List Addr
 fn:Str->Bool
 calm:Bool
 pn:List 10#0
 xe:Value->Shared->Prop
def lW (l:List Env):List Addr:=l.filterMap (·.frame)
abbrev Cx.fs (X:Cx):List Addr:=lW X.outer
def FT (sc:Scope) (x:Str):Prop:=sc.names.lookup x=some .local\/sc.names.lookup x=some .cell\/sc.names.lookup x=some .free
def vI (sc:Scope) (x:Str):Prop:=sc.names.lookup x=some .local\/sc.names.lookup x=some .cell
def MA (env:Env) (h:Heap) (m:Str->Option Value) (x:Str) (u:Value):Prop:=
 (env.kindOf x=some .local/\m x=some u)\/((env.kindOf x=some .cell\/env.kindOf x=some .free)/\∃c,env.cells.lookup x=some c/\h.IsCell c (some u))
structure Cx.Ok (X:Cx):Prop where
 mod:Mod X.K X.mg X.base
 kind:X.env.scope.kind=.function
 glob:X.env.globals=mainGlobals
 blt:X.env.builtins=builtinsNs
 above:X.s₀.heap.objs.size<=X.env.locals
 inj:∀x y c,X.env.cells.lookup x=some c->X.env.cells.lookup y=some c->x=y
 has:∀x,(X.env.kindOf x=some .cell\/X.env.kindOf x=some .free)->∃c,X.env.cells.lookup x=some c
 cab:∀x c,X.fn x=true->X.env.cells.lookup x=some c->X.s₀.heap.objs.size<=c
 hd:X.calm=true->X.A.handled=none
 frames:X.A.frames=some X.stack
 stk:X.stack=X.outer\/(X.stack=X.env::X.outer/\X.env.frame=some X.env.locals)
 exf:∀b ∈ X.ex,b≠X.env.locals/\∀x c,X.env.cells.lookup x=some c->c≠b
 bs:∀b o,X.base.get? b=some o->X.s₀.heap.get? b=some o/\X.H₀ b=none
 bsz:X.base.objs.size<=X.s₀.heap.objs.size
 noex:∀b o,X.base.get? b=some o->b ∉ X.ex
 exfs:∀b ∈ X.ex,b ∉ X.fs
 funs:X.s₀.heap.FunFrames X.base X.outer
 frf:∀b ∈ X.fs,X.H₀ b=none
structure aV (X:Cx) (pins:List 10#0) (σ:List (Option V)) (H:Hp) (s:Shared):Prop where
 ok:X.Ok
 os:s.os=X.s₀.os
 bare:AllBare s.gens
 base:Un X.fs X.ex X.H₀ H X.s₀.heap s.heap
 loc:∃m,s.heap.Ns X.env.locals m/\∀(i:Nat) (x:Str) (v:V),X.N[i]?=some x->σ[i]?=some (some v)->FT X.env.scope x->∃u,bF v u/\MA X.env s.heap m x u
 cell:∀x c,X.env.cells.lookup x=some c->∃v,s.heap.IsCell c v
 free:H X.env.locals=none
 freeC:∀x c,X.env.cells.lookup x=some c->H c=none
 pin:∀p ∈ X.pn++pins,s.heap.get? p.1=some p.2/\H p.1=none/\p.1≠X.env.locals/\p.1 ∉ X.fs/\∀v,p.2.data≠.cell v
 hok:lL X.prog X.w H s.heap
 len:σ.length=X.N.length
section
variable {X:Cx} {pins:List (Addr × Obj)} {σ:List (Option V)} {H H':Hp} {s:Shared} {h':Heap}
def Cx.Ok.nofr (d:X.Ok) {b:Addr} {o:Obj} (e:X.base.get? b=some o):b ∉ X.fs:=λi=>by
 have:=(d.funs.mem i).1
 rw [e] at this;cases this
theorem aV.bs (I:5#0):∀b o,X.base.get? b=some o->s.heap.get? b=some o/\H b=none:=λb o e=>
 {I.base.keep b o (I.ok.bs b o e).1 (I.ok.bs b o e).2 (I.ok.nofr e) (I.ok.noex b o e),I.base.free b o (I.ok.bs b o e).1 (I.ok.bs b o e).2 (I.ok.noex b o e)}
def aV.bk (I:5#0):∀b o,X.base.get? b=some o->s.heap.get? b=some o:=λb o e=>(I.bs b o e).1
theorem aV.mod (I:5#0):Mod X.K X.mg X.base:=I.ok.mod
def aV.kIn (I:5#0):X.K.In s.heap:=I.ok.mod.kin.keeps I.bk
def aV.fr (I:5#0):∃m,Fr X.base X.env.locals s.heap m:=
 let ⟨m,hn,_⟩:=I.loc
 {m,hn,I.bk,u8 I.ok.bsz I.ok.above}
theorem aV.lt (I:5#0):X.env.locals<s.heap.objs.size:=let ⟨_,hn,_⟩:=I.loc;hn.lt
def aV.sz (I:5#0):X.s₀.heap.objs.size<=s.heap.objs.size:=u8 I.ok.above (C5 I.lt)
def aV.nofs (I:5#0) {a:Addr} (h:s.heap.objs.size<=a):a ∉ X.fs:=λi=>by
 let (_,o,d,_):=I.ok.funs.mem i
 exact absurd (p9 (i7 d) (u8 I.sz h)) (A3 _)
def aV.cne (I:5#0):∀x c,X.env.cells.lookup x=some c->c≠X.env.locals:=λx c e z=>by
 let (v,o,n,j):=I.cell x c e
 let (m,(o',es,q,d,i,_),_):=I.loc
 rw [z,d] at n;cases n;rw [i] at j;cases j
theorem aV.funs (I:5#0):s.heap.FunFrames X.base X.outer:=by
 let n:∀(l:List Env),(∀b ∈ lW l,b ∈ X.fs)->X.s₀.heap.FunFrames X.base l->s.heap.FunFrames X.base l:=by
  intro l
  induction l with
  | nil=>intro _ _;trivial
  | cons env r ih=>
   intro q B;let (J,(L,o,d,D,F,y),G):=B;let j:L ∈ X.fs:=q L (by unfold lW;rw [N9,d];exact i4);let (M,e):=I.base.slot L o F (I.ok.frf L j) j λz=>I.ok.exfs L z j;exact {J,{L,_,d,D,e,y},ih (λb i=>q b (by unfold lW;rw [N9,d];exact g6 _ i)) G}
 exact n X.outer (λ_ i=>i) I.ok.funs
theorem aV.stack (I:5#0):s.heap.FunFrames X.base X.stack:=by
 rcases I.ok.stk with e|⟨e,d⟩
 ·rw [e];exact I.funs
 ·rw [e];let (m,i,_):=I.loc;refine .cons (by rw [I.ok.kind];decide) d i ?_ I.funs;exact Heap.get?_none_of_le (u8 I.ok.bsz I.ok.above)
def aV.stkSub (I:5#0):∀b ∈ lW X.stack,b ∈ X.env.locals::X.fs:=λb d=>by
 rcases I.ok.stk with e|⟨e,i⟩
 ·rw [e] at d;exact g6 _ d
 ·rw [e] at d
  unfold lW at d
  rw [N9,i] at d
  exact d
def aV.stkFree (I:5#0):∀b ∈ lW X.stack,H b=none:=λb hb=>by
 rcases i3.mp (I.stkSub b hb) with e|hb
 ·rw [e];exact I.free
 ·let (_,o,d,_):=I.ok.funs.mem hb
  exact I.base.free b o d (I.ok.frf b hb) λz=>I.ok.exfs b z hb
def aV.step {g':Array GenState} {d':Drawn} (I:5#0)
  (G:∀b ∈ ch,(b ∈ X.ex\/X.s₀.heap.objs.size<=b)/\b≠X.env.locals/\(∀x c,X.env.cells.lookup x=some c->c≠b)/\∀p ∈ X.pn++pins,p.1≠b)
  (B:∀b o,b≠X.env.locals->b ∉ X.fs->b ∉ ch->s.heap.get? b=some o->H b=none->h'.get? b=some o)
  (M:∀b o,b≠X.env.locals->b ∈ X.fs->b ∉ ch->s.heap.get? b=some o->H b=none->∃sl,h'.get? b=some { o with slots:=sl }) (y:∀b o,b ∉ ch->s.heap.get? b=some o->H b=none->H' b=none)
  (O:∀b o,b ∉ ch->s.heap.get? b=some o->∃o',h'.get? b=some o')
  (Z:∀b xs,H b=some (.tup xs)->H' b=some (.tup xs)) (Y:∀b o u,H b=some (.frz o u)->H' b=some (.frz o u)) (a1:∀b ps,H b=some (.tbl ps)->∃a0,H' b=some (.tbl (ps++a0)))
  (ns:∀m,s.heap.Ns X.env.locals m->h'.Ns X.env.locals m) (a2:lL X.prog X.w H' h') (hg:AllBare g'):
  aV X pins σ H' { s with heap:=h',gens:=g',drawn:=d',toks:=t' }:=by
 let U:∀b o,X.s₀.heap.get? b=some o->b≠X.env.locals:=λb o e=>j9 (p9 (i7 e) I.ok.above);let J:∀b o,X.s₀.heap.get? b=some o->b ∉ X.ex->b ∉ ch:=λb o e j N=>by
  rcases (G b N).1 with z|z
  ·exact j z
  ·exact absurd (p9 (i7 e) z) (A3 _)
 let F:∀x c,X.env.cells.lookup x=some c->∀v,s.heap.IsCell c v->h'.IsCell c v:=λx c e v ⟨o,S,hd⟩=>by
  let D:c ∉ ch:=λz=>(G c z).2.2.1 x c e rfl;by_cases hc:c ∈ X.fs
  ·let (sl,q):=M c o (I.cne x c e) hc D S (I.freeC x c e);exact {_,q,hd}
  ·exact {o,B c o (I.cne x c e) hc D S (I.freeC x c e),hd}
 refine {I.ok,I.os,hg,{λb o e n N j=>?_,λb o e n N j=>?_,λb o e n j=>?_,λb o e j=>?_,λb xs e=>Z b xs (I.base.tups b xs e),λb o xs e=>Y b o xs (I.base.frzs b o xs e),λb ps e=>?_},?_,λx c e=>?_,?_,λx c e=>?_,λp hp=>?_,a2,I.len}
 ·exact B b o (U b o e) N (J b o e j) (I.base.keep b o e n N j) (I.base.free b o e n j)
 ·let (sl,L):=I.base.slot b o e n N j;let (a3,W):=M b _ (U b o e) N (J b o e j) L (I.base.free b o e n j);exact {(a3),W}
 ·let (o',L):=I.base.there b o e j;exact y b o' (J b o e j) L (I.base.free b o e n j)
 ·let (o',L):=I.base.there b o e j;exact O b o' (J b o e j) L
 ·let (m1,L):=I.base.tbls b ps e;let (m2,W):=a1 b _ L;exact {m1++m2,by rw [W,Array.append_assoc]}
 ·let (m,hn,hl):=I.loc;refine {m,ns m hn,λi x v L W e3=>?_};let (u,r,l):=hl i x v L W e3;refine {u,r,?_};rcases l with l|⟨k,c,e,z⟩
  ·exact .inl l
  ·exact .inr {k,c,e,F x c e _ z}
 ·let (v,z):=I.cell x c e;exact {v,F x c e v z}
 ·let (m,(o,_,_,S,_),_):=I.loc;exact y _ o (λz=>(G _ z).2.1 rfl) S I.free
 ·let (v,o,S,hd):=I.cell x c e;exact y c o (λz=>(G c z).2.2.1 x c e rfl) S (I.freeC x c e)
 ·let (e,n,ne,nf,d):=I.pin p hp;let D:p.1 ∉ ch:=λz=>(G p.1 z).2.2.2 p hp rfl;exact {B p.1 p.2 ne nf D e n,y p.1 p.2 D e n,ne,nf,d}
def aV.un (I:5#0) (u:Un X.fs [] H H' s.heap h') (y:lL X.prog X.w H' h'):aV X pins σ H' { s with heap:=h',toks:=t' }:=by
 let (m,(o,es,J,B,r),_):=id I.loc;let (L,F):=u.any B I.free 9#0;exact I.step (g':=s.gens) (d':=s.drawn) (ch:=[]) (λ_ z=>nomatch z) (λb o _ i _ e n=>u.keep b o e n i 9#0) (λb o _ i _ e n=>u.slot b o e n i 9#0) (λb o _ e n=>u.free b o e n 9#0) (λb o _ e=>u.there b o e 9#0) u.tups u.frzs u.tbls (λM D=>by
  let (o',j,q,d,G):=D
  rw [B] at d;cases d
  exact {_,j,q,F,G}) y I.bare
def aV.call {g':Array GenState} {d':Drawn} (I:5#0) (u:Un (lW X.stack) ch H H' s.heap h') (D:lL X.prog X.w H' h') (L:AllBare g')
  (j:∀b ∈ ch,(b ∈ X.ex\/X.s₀.heap.objs.size<=b)/\b≠X.env.locals/\(∀x c,X.env.cells.lookup x=some c->c≠b)/\∀p ∈ X.pn++pins,p.1≠b):
  aV X pins σ H' { s with heap:=h',gens:=g',drawn:=d',toks:=t' }:=by
 let (m,(o,es,N,F,r),_):=id I.loc;let (O,y):=u.any F I.free λz=>(j _ z).2.1 rfl;exact I.step (ch:=ch) j (λb o y G d e n=>u.keep b o e n (λz=>(i3.mp (I.stkSub b z)).elim y G) d) (λb o _ _ d e n=>u.any e n d) (λb o d e n=>u.free b o e n d) (λb o d e=>u.there b o e d) u.tups u.frzs u.tbls (λS J=>by
  let (o',q,B,i,M):=J
  rw [F] at i;cases i
  exact {_,q,B,y,M}) D L
def aV.turned {it:Addr} (I:5#0) (k:∀b o,b≠it->s.heap.get? b=some o->h'.get? b=some o) (F:H it=none) (j:it≠X.env.locals)
  (h1:it ∈ X.ex\/X.s₀.heap.objs.size<=it) (h2:∀x c,X.env.cells.lookup x=some c->c≠it) (J:∀p ∈ X.pn++pins,p.1≠it):aV X pins σ H { s with heap:=h',toks:=t' }:=by
 let i:∀b u,H b=some u->b≠it:=λb u e z=>by rw [z,F] at e;cases e
 refine I.step (g':=s.gens) (d':=s.drawn) (ch:=[it]) (λb y=>?_) (λb o _ _ d e _=>k b o (λz=>d (by simp [z])) e) (λb o _ _ d e _=>{o.slots,k b o (λz=>d (by simp [z])) e}) (λ_ _ _ _ n=>n)
  (λb o d e=>{o,k b o (λz=>d (by simp [z])) e}) (λ_ _ e=>e) (λ_ _ _ e=>e) (λb ps e=>{#[],by rw [e];simp}) (λm B=>?_) (λb u e=>?_) I.bare
 ·let e:b=it:=by simpa using y
  subst e;exact {(h1),j,h2,J}
 ·let (o,es,D,G,r):=B;exact {o,es,D,k _ o (F6 j) G,r}
 ·refine(I.hok b u e).stay (λc v d q=>k c v ?_ q) (λ_ q=>q) λ_ _ q=>q;rcases d with z|z
  ·rw [z];exact i b u e
  ·exact i c _ z
def aV.tok (I:5#0) (t:Nat):aV X pins σ H { s with toks:=t }:=I.un (h':=s.heap) (t':=t) Un.refl I.hok
theorem aV.kept {t':Nat} (I:5#0) (k:∀b u,s.heap.get? b=some u->h'.get? b=some u):aV X pins σ H { s with heap:=h',toks:=t' }:=I.un (Un.kept k) (I.hok.kept k)
theorem aV.laid {a:Addr} {o:HO} {t':Nat} (I:5#0) (k:∀b u,s.heap.get? b=some u->h'.get? b=some u) (i:s.heap.objs.size<=a) (d:bL X.prog X.w (upd H a o) h' a o):
  aV X pins σ (upd H a o) { s with heap:=h',toks:=t' }:=I.un (Un.laid k i (I.hok.fresh i)) (I.hok.laid k i d)
theorem aV.write {x e:Addr} {o:HO} {t':Nat} (I:5#0) (n:JP (H x)) (j:e=x\/H e=some (.own x)) (k:∀b u,b≠e->s.heap.get? b=some u->h'.get? b=some u) (d:∃u,h'.get? e=some u)
  (i:bL X.prog X.w (upd H x o) h' x o):aV X pins σ (upd H x o) { s with heap:=h',toks:=t' }:=I.un (Un.write n j k d) (I.hok.write n j k d i)
def aV.weak {d:List (Option V)} (I:5#0) (j:d.length=σ.length) (w:∀(i:Nat) v,d[i]?=some (some v)->σ[i]?=some (some v)):aV X pins d H s:=
 ⟨I.ok,I.os,I.bare,I.base,let ⟨m,hn,hl'⟩:=I.loc;{m,hn,λi x v n y q=>hl' i x v n (w i v y) q},I.cell,I.free,I.freeC,I.pin,I.hok,j.trans I.len⟩
def aV.pins_of {pins':List 10#0} (I:5#0) (h:∀p ∈ pins',s.heap.get? p.1=some p.2/\H p.1=none/\p.1≠X.env.locals/\p.1 ∉ X.fs/\∀v,p.2.data≠.cell v):aV X pins' σ H s:=
 {I.ok,I.os,I.bare,I.base,I.loc,I.cell,I.free,I.freeC,λp d=>(j6.mp d).elim (λz=>I.pin p (B9 _ z)) (h p),I.hok,I.len}
def rW {N:List Str} (q:N.Nodup) {i j:Nat} {x:Str} (a:N[i]?=some x) (b:N[j]?=some x):i=j:=by
 let (h1,d):=e8.mp a;let (h2,n):=e8.mp b;exact(List.getElem_inj q).mp (d.trans n.symm)
def uA {A:Around} (I:5#0) (hN:X.N.Nodup) (hi:X.N[i]?=some x) (G:vI X.env.scope x) (r:bF v u)
  (h:∀s',aV X pins (σ.set i (some v)) H s'->(∃a,Heap.SameBut a s.heap s'.heap/\(a=X.env.locals\/X.env.cells.lookup x=some a))->Q () s') (hf:X.fn x=true\/X.env.scope.names.lookup x=some .local:=by first|exact .inl rfl|exact .inr rfl|assumption):wpAny M A (storeName X.env x u) Q E s:=by
 let (m,hn,hl):=id I.loc;let Y:(X.env.scope.kind == .class || (X.env.scope.kind == .module && X.env.locals != X.env.globals))=false:=by rw [I.ok.kind];rfl
 let Z:i<σ.length:=by rw [I.len];exact(e8.mp hi).1
 let U:=I.cne;let F:∀{a:Addr} {h':Heap},(∃o,s.heap.get? a=some o/\H a=none)->Heap.SameBut a s.heap h'->lL X.prog X.w H h':=λ{a h'} ha B b ob e=>by
  let (_,_,J):=ha;refine(I.hok b ob e).stay (λc w' hc q=>(B.2 c ?_).trans q) (λ_ q=>q) λ_ _ q=>q;rintro rfl;rcases hc with rfl|hc
  ·rw [J] at e;cases e
  ·rw [J] at hc;cases hc
 rcases G with hk|hk
 ·refine wpAny_storeName_local hk hn (λh' a5 B=>?_) Y;let (oL,_,_,a4,_):=id hn;refine h _ {I.ok,I.os,I.bare,{λb o e n O G=>?_,λb o e n O G=>?_,I.base.free,λb o e G=>?_,I.base.tups,I.base.frzs,I.base.tbls},{_,a5,λj y v' D L e3=>?_},λy c e=>?_,I.free,I.freeC,λp hp=>?_,F {(oL),a4,I.free} B,by simpa using I.len} {_,B,.inl rfl}
  ·exact(B.2 b (j9 (p9 (i7 e) I.ok.above))).trans (I.base.keep b o e n O G)
  ·let (sl,D):=I.base.slot b o e n O G;exact {sl,(B.2 b (j9 (p9 (i7 e) I.ok.above))).trans D}
  ·let (o',D):=I.base.there b o e G;exact {o',(B.2 b (j9 (p9 (i7 e) I.ok.above))).trans D}
  ·by_cases W:j=i
   ·subst W;rw [hi] at D;cases D;rw [E6 Z] at L;cases L;exact {u,r,.inl {hk,by simp}}
   ·rw [E9 (F6 W)] at L;let (u',r',q):=hl j y v' D L e3;refine {u',r',?_};rcases q with ⟨k,e⟩|⟨k,c,e,z⟩
    ·refine .inl {k,?_};have:y≠x:=λe=>W (rW hN D (e ▸ hi));simp [this,e]
    ·exact .inr {k,c,e,z.sameBut B (U y c e)}
  ·let (w',z):=I.cell y c e;exact {w',z.sameBut B (U y c e)}
  ·let (e,n,ne,nf,d):=I.pin p hp;exact {(B.2 p.1 ne).trans e,n,ne,nf,d}
 ·let S:X.fn x=true:=by
   rcases hf with z|z
   ·exact z
   ·rw [z] at hk;cases hk
  let (c,hc):=I.ok.has x (.inl hk);let (w',z):=I.cell x c hc;refine wpAny_storeName_cell I.ok.kind hk hc z (λh' a2 B=>?_);let (oc,a1,a0):=id z;refine h { s with heap:=h' } {I.ok,I.os,I.bare,{λb o e n O G=>?_,λb o e n O G=>?_,I.base.free,λb o e G=>?_,I.base.tups,I.base.frzs,I.base.tbls},{m,hn.sameBut B (F6 (U x c hc)),λj y v' D L e3=>?_},λy c' e=>?_,I.free,I.freeC,λp hp=>?_,F {oc,a1,I.freeC x c hc} B,by simpa using I.len} {c,B,.inr hc}
  ·exact(B.2 b (j9 (p9 (i7 e) (I.ok.cab x c S hc)))).trans (I.base.keep b o e n O G)
  ·let (sl,D):=I.base.slot b o e n O G;exact {sl,(B.2 b (j9 (p9 (i7 e) (I.ok.cab x c S hc)))).trans D}
  ·let (o',D):=I.base.there b o e G;exact {o',(B.2 b (j9 (p9 (i7 e) (I.ok.cab x c S hc)))).trans D}
  ·by_cases W:j=i
   ·subst W;rw [hi] at D;cases D;rw [E6 Z] at L;cases L;exact {u,r,.inr {.inl hk,c,hc,a2}}
   ·rw [E9 (F6 W)] at L;let (u',r',q):=hl j y v' D L e3;refine {u',r',?_};rcases q with q|⟨k,c',e,z'⟩
    ·exact .inl q
    ·refine .inr {k,c',e,z'.sameBut B ?_};rintro rfl;exact W (rW hN D (I.ok.inj _ _ _ e hc ▸ hi))
  ·by_cases a3:c'=c
   ·subst a3;exact {_,a2}
   ·let (w2,z2):=I.cell y c' e;exact {w2,z2.sameBut B a3}
  ·let (e,n,ne,nf,d):=I.pin p hp;refine {(B.2 p.1 ?_).trans e,n,ne,nf,d};intro q;rw [q,a1] at e;let q':oc=p.2:=Option.some.inj e;exact d w' (by rw [<- q'];exact a0)
def mH {A:Around} (I:5#0) (q:X.N.Nodup) (hi:X.N[i]?=some x) (n:vI X.env.scope x) (r:bF v u)
  (h:∀s',aV X pins (σ.set i (some v)) H s'->Q () s') (d:X.fn x=true\/X.env.scope.names.lookup x=some .local:=by first|exact .inl rfl|exact .inr rfl|assumption):wpAny M A (storeName X.env x u) Q E s:=
 uA I q hi n r (λs' j _=>h s' j) d
def aV.call' {s':Shared} (I:5#0) (j:s'.os=s.os) (u:Un (lW X.stack) ch H H' s.heap s'.heap) (d:lL X.prog X.w H' s'.heap) (n:AllBare s'.gens)
  (i:∀b ∈ ch,(b ∈ X.ex\/X.s₀.heap.objs.size<=b)/\b≠X.env.locals/\(∀x c,X.env.cells.lookup x=some c->c≠b)/\∀p ∈ X.pn++pins,p.1≠b):aV X pins σ H' s':=by
 let (h',g',d',t',o'):=s';let e:o'=s.os:=j;subst e;exact I.call (g':=g') (t':=t') (d':=d') u d n i
end
abbrev XK:=Value->Option Addr->Hp->Prop
abbrev St:=List (Option V)
abbrev VK:=V->Hp->Prop
abbrev TE:=St->Hp->VK->Prop
abbrev TT:=St->Hp->(Bool->Hp->Prop)->Prop
abbrev TA:=St->Hp->(List V->Hp->Prop)->Prop
structure dH where
 nx:St->Hp->Prop
 rt:VK
 bk:St->Hp->Prop:=λ_ _=>False
 ct:St->Hp->Prop:=λ_ _=>False
abbrev TS:=dH->St->Hp->Prop
def EP (X:Cx) (pins:List 10#0) (σ:St) (Q:VK) (u:Value) (s':Shared):Prop:=∃v H',aV X pins σ H' s'/\bF v u/\Q v H'
def TP (X:Cx) (pins:List 10#0) (σ:St) (Q:Bool->Hp->Prop) (b:Bool) (s':Shared):Prop:=∃H',aV X pins σ H' s'/\Q b H'
def AP (X:Cx) (pins:List 10#0) (σ:St) (Q:List V->Hp->Prop) (us:List Value) (s':Shared):Prop:=∃vs H',aV X pins σ H' s'/\bA vs us/\Q vs H'
def SP (X:Cx) (pins:List 10#0) (D:dH) (f:Flow) (s':Shared):Prop:=
 match f with
 | .next=>∃ σ' H',aV X pins σ' H' s'/\D.nx σ' H'
 | .brk=>∃ σ' H',aV X pins σ' H' s'/\D.bk σ' H'
 | .cont=>∃ σ' H',aV X pins σ' H' s'/\D.ct σ' H'
 | .ret u=>∃v σ' H',aV X pins σ' H' s'/\bF v u/\D.rt v H'
def PE (X:Cx) (e:Expr) (t:TE):Prop:=
 ∀ ⦃pins:List 10#0⦄ (s:Shared) (σ:St) (H:Hp) (Q:VK),aV X pins σ H s->t σ H Q->wpAny 4#0 X.A (eval e X.env) 44#0 X.xe s
def PT (X:Cx) (e:Expr) (t:TT):Prop:=
 ∀ ⦃pins:List 10#0⦄ (s:Shared) (σ:St) (H:Hp) (Q:Bool->Hp->Prop),aV X pins σ H s->t σ H Q->wpAny 4#0 X.A (isTrue e X.env (eval e X.env)) (TP X pins σ Q) X.xe s
def PW (X:Cx) (e:Expr) (t:TT):Prop:=
 ∀ ⦃whole:Sem Value⦄ (pins:List 10#0) (s:Shared) (σ:St) (H:Hp) (Q:Bool->Hp->Prop),aV X pins σ H s->t σ H Q->wpAny 4#0 X.A (isTrue e X.env whole) (TP X pins σ Q) X.xe s
def PW.pt {t:TT} (h:PW X e t):PT X e t:=@h _
def PA (X:Cx) (es:List Expr) (t:TA):Prop:=
 ∀ ⦃pos:Pos⦄ (pins:List 10#0) (s:Shared) (σ:St) (H:Hp) (Q:List V->Hp->Prop),aV X pins σ H s->t σ H Q->wpAny 4#0 X.A (spliced (backTo pos 40#0)) (AP X pins σ Q) X.xe s
def PS (X:Cx) (st:Stmt) (t:TS):Prop:=
 ∀ ⦃pins:List 10#0⦄ (s:Shared) (σ:St) (H:Hp) (D:dH),aV X pins σ H s->t D σ H->wpAny 4#0 X.A (exec st X.env) (SP X pins D) X.xe s
def pB (X:Cx) (st:List Stmt) (t:TS):Prop:=
 ∀ ⦃pins:List 10#0⦄ (s:Shared) (σ:St) (H:Hp) (D:dH),aV X pins σ H s->t D σ H->wpAny 4#0 X.A (execs st X.env) (SP X pins D) X.xe s
def gA {α:Type} {t:Sem α} {Q d:α->Shared->Prop} {M:Model} {A:Around} {E:Value->Shared->Prop} {s:Shared} (h:wpAny M A t Q E s) (i:∀a s,Q a s->d a s):wpAny M A t d E s:=y6 h i λ_ _ x=>x
def eP {Q:VK} {R:Value->Shared->Prop} {t:Sem Value} {A:Around} (h:wpAny M A t 44#0 E s) (k:∀v s x H,aV X pins σ H s->bF x v->Q x H->R v s):wpAny M A t R E s:=gA h λ_ _ z=>z.elim λ_ z=>z.elim λ_ z=>k _ _ _ _ z.1 z.2.1 z.2.2
def vM {Q:List V->Hp->Prop} {R:List Value->Shared->Prop} {t:Sem (List Value)} {A:Around} (h:wpAny M A t (AP X pins σ Q) E s) (k:∀v s x H,aV X pins σ H s->bA x v->Q x H->R v s):wpAny M A t R E s:=gA h λ_ _ z=>z.elim λ_ z=>z.elim λ_ z=>k _ _ _ _ z.1 z.2.1 z.2.2
section
variable {X:Cx}
inductive FK (i:Nat) (σ:St) (H:Hp) (Q:VK):Prop|mk (v:_) (_:σ[i]?=some (some v)) (_:Q v H)
def iU (i:Nat):TE:=λσ H Q=>FK i σ H Q
def tC (v:V):TE:=λ_ H Q=>Q v H
def Od (y:X.N[i]?=some x) (F:FT X.env.scope x) (hd:27#0=false:=by decide) (n:(x == ("__classdict__":Str))=false:=by decide):PE X (.Name x pos) (iU i):=by
 intro pins s σ H Q I h;let (v,e,h):=h;let (m,D,z):=I.loc;let (u,r,l):=z i x v y e F;let j:EP X pins σ Q u s:={(v),H,I,r,h};rcases l with ⟨hk,B⟩|⟨hk,c,q,d⟩
 ·exact wpAny_Name (wpAny_loadName_local I.ok.kind hk D B j) hd
 ·rcases hk with hk|hk
  ·exact wpAny_Name (wpAny_loadName_cell I.ok.kind hk q d j) hd
  ·exact wpAny_Name (wpAny_loadName_free I.ok.kind hk q d j n) hd
def aS {i j pos}:PE X (.Constant (.int i) j pos) (tC (.int i)):=λ_ _ _ H _ I h=>wpAny_Constant_int {.int i,H,I.tok _,{_,ρ},h}
def uN {b j pos}:PE X (.Constant (.bool b) j pos) (tC (.bl b)):=λ_ _ _ H _ I h=>Constant_bool {.bl b,H,I,ρ,h}
def eH {j pos}:PE X (.Constant .none j pos) (tC .non):=λ_ _ _ H _ I h=>Constant_none {.non,H,I,ρ,h}
def bE {x j pos}:PE X (.Constant (.str x) j pos) (tC (.str x)):=λ_ _ _ H _ I h=>Calls.Constant_str {.str x,H,I.tok _,{_,ρ},h}
def Gl (X:Cx) (x:Str):Prop:=X.env.kindOf x=some .globalImplicit
def kU {Q:Value->Shared->Prop} (I:5#0) (i:Gl X x) (d:X.mg x=some u) (h:Q u s)
  (hd:27#0=false:=by decide):wpAny 4#0 X.A (eval (.Name x pos) X.env) Q E s:=
 Calls.Name_function_global I.ok.kind i (Calls.loadGlobal_global (by rw [I.ok.glob];exact I.mod.glob.keeps I.bk) d h) hd
def jY {Q:Value->Shared->Prop} (I:5#0) (n:Gl X x) (d:X.mg x=none) (j:bootBuiltins x=some u) (h:Q u s)
  (i:x≠"__name__":=by decide) (hd:27#0=false:=by decide):wpAny 4#0 X.A (eval (.Name x pos) X.env) Q E s:=by
 let (q,h1,h2):=I.mod.blt;exact Calls.Name_function_global I.ok.kind n (Calls.loadGlobal_builtin (by rw [I.ok.glob];exact I.mod.glob.keeps I.bk) d (by rw [I.ok.blt];exact h1.keeps I.bk) ((h2 x i).trans j) h) hd
def wI (i:Gl X x) (d:X.mg x=some u) (r:bF v u) (hd:27#0=false:=by decide):PE X (.Name x pos) (tC v):=
 λ_ _ _ H _ I h=>kU I i d {(v),H,I,r,h} hd
def kQ (i:Gl X x) (d:X.mg x=none) (j:bootBuiltins x=some u) (r:bF v u) (n:x≠"__name__":=by decide) (hd:27#0=false:=by decide):PE X (.Name x pos) (tC v):=
 λ_ _ _ H _ I h=>jY I i d j {(v),H,I,r,h} n hd
variable {a b:Expr} {ta tb:TE} {pos:Pos}
def PC (X:Cx) (op:CmpOp) (a b:Expr) (t:TE):Prop:=
 ∀ ⦃pins:List 10#0⦄ (s:Shared) (σ:St) (H:Hp) (Q:VK),aV X pins σ H s->t σ H Q ->
  wpAny 4#0 X.A (eval a X.env) (λv s₁=>wpAny 4#0 X.A (eval b X.env) (λu s₂=>wpAny 4#0 X.A (compareOp op v u) 44#0 X.xe s₂) X.xe s₁) X.xe s
def tB (t:TE):TT:=λσ H Q=>t σ H λx H1=>∃c,x=.bl c/\Q c H1
def Br {t:TE} (h:PC X op a b t) (h1:behindInMarks op b=false:=by first|exact nobehind _ (by decide) (by decide)|rfl):PT X (.Compare a [op] [b] pos) (tB t):=by
 intro pins s σ H Q I j;refine wpAny_isTrue_Compare1 (gA (h s σ H _ I j) λv D h1=>gA h1 λu F h2=>gA h2 λc B i=>?_) h1;let (x,H1,y,z,n):=i;let (d,rfl,q):=n;cases z;exact C4 {(H1),y,q}
def cK {t:TE} (h:PE X e t) (n:∀i,isTrue e X.env i=(do let v <- i;standAt e.pos;holding [v] (truthy v)):=by intro _;rfl):PT X e (tB t):=by
 intro pins s σ H Q I y;refine isTrue_plain (eP (h s σ H _ I y) λv D x H1 z B j=>?_) (n _);let (d,rfl,q):=j;cases B;exact C4 {(H1),z,q}
variable {tA tB':TT} {rest:List Expr}
def KP (t u:TT):TT:=λσ H Q=>t σ H λc H1=>if c=true then u σ H1 Q else Q false H1
def MN (t u:TT):TT:=λσ H Q=>t σ H λc H1=>if c=true then Q true H1 else u σ H1 Q
def GX (t:TT):TT:=λσ H Q=>t σ H λc H1=>Q (!c) H1
def eY (d:PT X a tA):PW X (.BoolOp .And [a] pos) tA:=by
 intro j pins s σ H Q I h;refine isTrue_and (gA (d s σ H Q I h) λc i e=>?_);cases c with
 | true=>exact isTrue_and_nil e
 | false=>exact e
def eF (d:PT X a tA):PW X (.BoolOp .Or [a] pos) tA:=by
 intro j pins s σ H Q I h;refine isTrue_or (gA (d s σ H Q I h) λc i e=>?_);cases c with
 | false=>exact isTrue_or_nil e
 | true=>exact e
def fW (y:PT X a tA) (n:PW X (.BoolOp .And (b::rest) pos) tB'):PW X (.BoolOp .And (a::b::rest) pos) (KP tA tB'):=by
 intro z pins s σ H Q I h;refine isTrue_and (gA (y s σ H _ I h) λc q d=>?_);let (H1,j,i):=d;cases c with
 | true=>exact n pins q σ H1 Q j i
 | false=>exact {(H1),j,i}
def fF (y:PT X a tA) (n:PW X (.BoolOp .Or (b::rest) pos) tB'):PW X (.BoolOp .Or (a::b::rest) pos) (MN tA tB'):=by
 intro z pins s σ H Q I h;refine isTrue_or (gA (y s σ H _ I h) λc q d=>?_);let (H1,j,i):=d;cases c with
 | true=>exact {(H1),j,i}
 | false=>exact n pins q σ H1 Q j i
def cL (d:PT X a tA):PT X (.UnaryOp .Not a pos) (GX tA):=by
 intro pins s σ H Q I h;exact isTrue_not (d s σ H (λc H1=>Q (!c) H1) I h)
inductive Yz (tb:TE) (σ:St) (Q:VK) (x:V) (H1:Hp):Prop|mk (c:_) (_:x=.bl c) (_:if c=true then tb σ H1 Q else Q (.bl false) H1)
def Ky (ta tb:TE):TE:=λσ H Q=>ta σ H λx H1=>Yz tb σ Q x H1
def GV (ta:TE):TE:=λσ H Q=>ta σ H λx H1=>∃c,x=.bl c/\Q (.bl (!c)) H1
def fX {op} {t:TE} (h:PE X a t):PE X (.BoolOp op [a] pos) t:=λpins s σ H Q I d=>BoolOp_one (h s σ H Q I d)
def eR (y:PE X a ta) (j:PE X (.BoolOp .And (b::rest) pos) tb):PE X (.BoolOp .And (a::b::rest) pos) (Ky ta tb):=by
 intro pins s σ H Q I h;refine BoolOp_and (eP (y s σ H _ I h) λv n x H1 i q d=>?_);let (c,rfl,d):=d;cases q;refine C4 ?_;cases c with
 | true=>exact j n σ H1 Q i d
 | false=>exact {.bl false,H1,i,ρ,d}
def Bu (n:PE X a ta):PE X (.UnaryOp .Not a pos) (GV ta):=by
 intro pins s σ H Q I h;refine UnaryOp_ (eP (n s σ H _ I h) λv q x H1 i j d=>?_);let (c,rfl,d):=d;cases j;exact not_of (C4 {.bl (!c),H1,i,ρ,d})
end
def cQ (K:PySem.W.Frag) (H:Hp) (a:Addr) (xs:List V):Prop:=
 Rd H a (.lst xs) \/
  ∃(o:Obj) (its:Array Value) (n:Nat),K.lookup a=some o/\o.cls=.type "list"/\o.dict=none/\o.data=.seq its n/\its.size<=sizeLine/\bA xs its.toList
def bX (K:PySem.W.Frag) (H:Hp) (a:Addr) (xs:List V):Prop:=
 Rd H a (.tup xs) \/
  ∃(o:Obj) (its:Array Value) (n:Nat),K.lookup a=some o/\o.cls=.type "tuple"/\o.data=.seq its n/\its.size<=sizeLine/\bA xs its.toList
def LV:Value->Option V
 | .none=>some .non
 | .bool b=>some (.bl b)
 | .int i _=>some (.int i)
 | .str x _=>some (.str x)
 | .bytes b _=>some (.byt b)
 | .float b _=>some (.flt b)
 | .ref a=>some (.ref a)
 | .type n=>some (.ty n)
 | _=>none
def bF.abs {x:V} (r:bF x u):LV u=some x:=by
 cases x with
 | non=>cases r;rfl
 | bl _=>cases r;rfl
 | int _=>let (t,rfl):=r;rfl
 | str _=>let (t,rfl):=r;rfl
 | byt _=>let (t,rfl):=r;rfl
 | flt _=>let (t,rfl):=r;rfl
 | ref _=>cases r;rfl
 | ty _=>cases r;rfl
theorem bF.inj {x y:V} {u:Value} (r:bF x u) (q:bF y u):x=y:=Option.some.inj (r.abs.symm.trans q.abs)
theorem bA.inj {xs ys:List V} {us:List Value} (p:bA xs us) (k:bA ys us):xs=ys:=by
 induction p generalizing ys with
 | nil=>cases k;rfl
 | cons r _ ih=>
  cases k with
  | cons r' t'=>rw [r.inj r',ih t']
section
variable {X:Cx} {pins:List (Addr × Obj)} {σ:St} {H:Hp} {s:Shared} {a:Addr} {xs ys:List V}
def cQ.of {K:PySem.W.Frag} (h:H a=some (.lst xs)):cQ K H a xs:=.inl (.inl h)
def bX.of {K:PySem.W.Frag} (h:H a=some (.tup xs)):bX K H a xs:=.inl (.inl h)
def aV.list (I:5#0) (h:cQ X.K H a xs):∃d:List Value,bA xs d/\PlainL s.heap a d.toArray/\xs.length<=sizeLine:=by
 rcases h with h|⟨o,d,n,y,q,i,j,B,r⟩
 ·let (z,d,n,r,e):=h.ok I.hok;exact {d,r,{_,n,e,ρ,ρ,ρ},z}
 ·refine {d.toList,r,{o,n,I.kIn a o y,q,i,by simpa using j},?_};let e:=r.length;simp only [u9] at e;omega
def aV.tuple (I:5#0) (h:bX X.K H a xs):∃d:List Value,bA xs d/\IsTup s.heap a d.toArray/\xs.length<=sizeLine:=by
 rcases h with h|⟨o,d,n,q,j,i,y,r⟩
 ·let (z,d,r,p):=h.ok I.hok;exact {(d),r,p,z}
 ·refine {d.toList,r,{o,I.kIn a o q,j,n,by simpa using i},?_};let e:=r.length;simp only [u9] at e;omega
def aV.list_inj (I:5#0) (h:cQ X.K H a xs) (h':cQ X.K H a ys):xs=ys:=by
 let (j,r,(o,n,e,_,_,d),_):=I.list h;let (i,z,(o',D,y,_,_,q),_):=I.list h';rw [e] at y;cases y;rw [d] at q;injection q with B _;have:j=i:=by simpa using congrArg Array.toList B
 subst this;exact r.inj z
def aV.tuple_inj (I:5#0) (h:bX X.K H a xs) (h':bX X.K H a ys):xs=ys:=by
 let (j,r,(o,e,_,n,d),_):=I.tuple h;let (i,z,(o',y,_,D,q),_):=I.tuple h';rw [e] at y;cases y;rw [d] at q;injection q with B _;have:j=i:=by simpa using congrArg Array.toList B
 subst this;exact r.inj z
end
abbrev Cx.wish (X:Cx) (E:Value->Shared->Prop):Cx:={ X with xe:=E }
abbrev Cx.nox (X:Cx):Cx:=X.wish λ_ _=>False
theorem Cx.Ok.wish {X:Cx} (d:X.Ok) (E:Value->Shared->Prop):(X.wish E).Ok:=
 {(d.mod),d.kind,d.glob,d.blt,d.above,d.inj,d.has,d.cab,d.hd,d.frames,d.stk,d.exf,d.bs,d.bsz,d.noex,d.exfs,d.funs,d.frf}
def Cx.Ok.unwish (d:(X.wish E).Ok):X.Ok:=
 {(d.mod),d.kind,d.glob,d.blt,d.above,d.inj,d.has,d.cab,d.hd,d.frames,d.stk,d.exf,d.bs,d.bsz,d.noex,d.exfs,d.funs,d.frf}
section
variable {X:Cx} {pins:List (Addr × Obj)} {σ:St} {H:Hp} {s:Shared} {E:Value->Shared->Prop}
theorem aV.wish (I:5#0) (E:Value->Shared->Prop):aV (X.wish E) pins σ H s:={I.ok.wish E,I.os,I.bare,I.base,I.loc,I.cell,I.free,I.freeC,I.pin,I.hok,I.len}
theorem aV.unwish (I:aV (X.wish E) pins σ H s):aV X pins σ H s:={(I.ok.unwish),I.os,I.bare,I.base,I.loc,I.cell,I.free,I.freeC,I.pin,I.hok,I.len}
theorem SP.unwish {D:dH} {f:Flow} {s':Shared} (h:SP (X.wish E) pins D f s'):SP X pins D f s':=by
 cases f with
 | next=>let (d,H',I,q):=h;exact {(d),H',I.unwish,q}
 | brk=>let (d,H',I,q):=h;exact {(d),H',I.unwish,q}
 | cont=>let (d,H',I,q):=h;exact {(d),H',I.unwish,q}
 | ret u=>let (v,d,H',I,r,q):=h;exact {(v),d,H',I.unwish,r,q}
theorem PE.nox {e:Expr} {t:TE} (h:PE X.nox e t):PE X e t:=λpins s σ H Q I d=>
 y6 (h s σ H Q (I.wish _) d) (λ_ _ ⟨v,H',I',r,q⟩=>{(v),H',I'.unwish,r,q}) λ_ _ z=>False.elim z
theorem pB.nox {st:List Stmt} {t:TS} (h:pB X.nox st t):pB X st t:=λpins s σ H D I d=>
 y6 (h s σ H D (I.wish _) d) (λ_ _ q=>q.unwish) λ_ _ z=>False.elim z
end
section
variable {X:Cx} {st:Stmt} {rest:List Stmt} {t u:TS} {e:Expr} {te:TE} {pos:Pos}
def Dz:TS:=λD σ H=>D.nx σ H
def Ub (t u:TS):TS:=λD σ H=>t { D with nx:=u D } σ H
def aZ:pB X [] Dz:=λ_ _ σ H _ I h=>K6 {(σ),H,I,h}
def aE (h1:PS X st t) (h2:pB X rest u):pB X (st::rest) (Ub t u):=by
 intro pins s σ H D I h;refine wpAny_execs_cons (gA (h1 s σ H { D with nx:=u D } I h) λf i q=>?_);cases f with
 | next=>
  let (j,H',d,q):=q;exact h2 i j H' D d q
 | ret v=>exact q
 | brk=>exact q
 | cont=>exact q
def aH (h1:PS X st t):pB X [st] t:=by
 intro pins s σ H D I h;refine wpAny_execs_cons (gA (h1 s σ H D I h) λf d q=>?_);cases f with
 | next=>exact K6 q
 | ret v=>exact q
 | brk=>exact q
 | cont=>exact q
def aV.quiet (I:5#0):interactive X.env=false:=by simp [interactive,I.ok.kind]
def HD (te:TE):TS:=λD σ H=>te σ H λ_ H1=>D.nx σ H1
def dY (j:PE X e te) (n:swapsWith e none pos.line X.env=pure false:=by rfl):PS X (.Expr e pos) (HD te):=by
 intro pins s σ H D I h;exact wpAny_Expr_any (eP (j s σ H _ I h) λv q x H1 i y d=>{(σ),H1,i,d}) I.quiet n
def BA (te:TE):TS:=λD σ H=>te σ H D.rt
def aW (j:PE X e te):PS X (.Return (some e) pos) (BA te):=by
 intro pins s σ H D I h;exact wpAny_Return_some (eP (j s σ H _ I h) λv q x H1 i n d=>{(x),σ,H1,i,n,d})
def HB (c:TT) (t u:TS):TS:=λD σ H=>c σ H λb H1=>if b=true then t D σ H1 else u D σ H1
def bP {c:Expr} {a b:List Stmt} {tc:TT} (B:PT X c tc) (z:pB X a t) (y:pB X b u):PS X (.If c a b pos) (HB tc t u):=by
 intro pins s σ H D I h;refine wpAny_If (gA (B s σ H _ I h) λd n i=>?_);let (H1,q,j):=i;cases d with
 | true=>exact z n σ H1 D q j
 | false=>exact y n σ H1 D q j
def Kw:TS:=λ_ _ _=>False
def rF:PS X st Kw:=λ_ _ _ _ _ _ h=>h.elim
def cX {d:List Stmt}:pB X d Kw:=λ_ _ _ _ _ _ h=>h.elim
end
abbrev TG:=V->St->Hp->(St->Hp->Prop)->Prop
abbrev Sk:=List V->St->Hp->(St->Hp->Prop)->Prop
def PG (X:Cx) (target:Expr) (t:TG):Prop:=
 ∀ ⦃pins:List 10#0⦄ (s:Shared) (σ:St) (H:Hp) (v:V) (u:Value) (Q:St->Hp->Prop),aV X pins σ H s->bF v u->t v σ H Q ->
  wpAny 4#0 X.A (assign target X.env u) (λ_ s'=>∃ σ' H',aV X pins σ' H' s'/\Q σ' H') X.xe s
def JN (X:Cx) (ts:List Expr) (t:Sk):Prop:=
 ∀ ⦃pins:List 10#0⦄ (s:Shared) (σ:St) (H:Hp) (vs:List V) (us:List Value) (Q:St->Hp->Prop),aV X pins σ H s->bA vs us->t vs σ H Q ->
  wpAny 4#0 X.A (assignInOrder ((assignEach ts X.env).map (·.2)) us) (λ_ s'=>∃ σ' H',aV X pins σ' H' s'/\Q σ' H') X.xe s
abbrev EY:=V->V->V->Hp->(Hp->Prop)->Prop
def JM (X:Cx) (t:EY):Prop:=
 ∀(pins:List 10#0) (s:Shared) (σ:St) (H:Hp) (o i v:V) (ov iv u:Value) (Q:Hp->Prop),aV X pins σ H s->bF o ov->bF i iv->bF v u->t o i v H Q ->
  wpAny 4#0 X.A (setItem ov iv u) (λ_ s'=>∃H',aV X pins σ H' s'/\Q H') X.xe s
abbrev JZ:=V->V->Hp->VK->Prop
def ND (X:Cx) (op:Operator) (t:JZ):Prop:=
 ∀(pins:List 10#0) (s:Shared) (σ:St) (H:Hp) (x y:V) (v u:Value) (Q:VK),aV X pins σ H s->bF x v->bF y u->t x y H Q ->
  wpAny 4#0 X.A (inplaceOp op v u) 44#0 X.xe s
section
variable {X:Cx} {pos:Pos}
def dF (i:Nat):TG:=λv σ H Q=>Q (σ.set i (some v)) H
def aP (q:X.N.Nodup) (hi:X.N[i]?=some x) (n:vI X.env.scope x) (d:X.fn x=true\/X.env.scope.names.lookup x=some .local:=by first|exact .inl rfl|exact .inr rfl|assumption):PG X (.Name x pos) (dF i):=by
 intro pins s σ H v u Q I r h;exact wpAny_assign_Name (mH I q hi n r (λs' j=>{_,H,j,h}) d)
def Xi:Sk:=λvs σ H Q=>vs=[]/\Q σ H
inductive Za (t:TG) (u:Sk) (vs:List V) (σ:St) (H:Hp) (Q:St->Hp->Prop):Prop|mk (v:_) (r:_) (_:vs=v::r) (_:t v σ H λσ' H'=>u r σ' H' Q)
def sG (t:TG) (u:Sk):Sk:=λvs σ H Q=>Za t u vs σ H Q
def dR:JN X [] Xi:=by
 intro pins s σ H d i Q I r h;let (e,h):=h;subst e;cases r;exact assignInOrder_nil {(σ),H,I,h}
def aY {es:List Expr} {t:TG} {u:Sk} (h1:PG X e t) (h2:JN X es u)
  (y:(assignEach (e::es) X.env).map (·.2)=assign e X.env::(assignEach es X.env).map (·.2):=by rfl):JN X (e::es) (sG t u):=by
 intro pins s σ H D F Q I r h;let (v,B,z,h):=h;subst z;cases r with
 | cons r rr=>
  rw [y];refine assignInOrder_cons (gA (h1 s σ H _ _ _ I r h) λ_ n d=>?_);let (i,H1,q,j):=d;exact h2 n i H1 _ _ Q q rr j
inductive FQ (K:PySem.W.Frag) (n:Nat) (t:Sk) (v:V) (σ:St) (H:Hp) (Q:St->Hp->Prop):Prop|mk (a:_) (xs:_) (_:v=.ref a) (_:bX K H a xs) (_:xs.length=n) (_:t xs σ H Q)
def Xh (K:PySem.W.Frag) (n:Nat) (t:Sk):TG:=λv σ H Q=>FQ K n t v σ H Q
def fH {es:List Expr} {t:Sk} (L:X.calm=true) (h:JN X es t)
  (G:(assignEach es X.env).length=n:=by rfl) (i:(assignEach es X.env).findIdx? (·.1)=none:=by rfl):PG X (.Tuple es k pos) (Xh X.K n t):=by
 intro pins s σ H v u Q I r d;let (a,xs,J,q,y,d):=d;subst J;cases r;let (z,j,F,M):=I.tuple q;refine assign_Tuple_tuple (I.ok.hd L) F (by simp [G,<- y,j.length]) i λh' D=>?_;let B:aV X pins σ H { s with heap:=h' }:=I.kept (t':=s.toks) λb o e=>D b o (j9 (i7 e)) e;exact h _ σ H xs _ Q B (by simpa using j) d
def LT (to ti:TE) (t:EY):TG:=λv σ H Q=>to σ H λo H1=>ti σ H1 λi H2=>t o i v H2 λH3=>Q σ H3
def DE {o i:Expr} {to q:TE} {t:EY} (N:PE X o to) (hi:PE X i q) (M:JM X t)
  (U:∀v,assign (.Subscript o i pos) X.env v=(do
   let d <- holding [v] (eval o X.env)
   let j <- holding [v,d] (eval i X.env)
   standAt pos
   holding [v,d,j] (setItem d j v)
   release [v,d,j] []):=by intro _;rfl):PG X (.Subscript o i pos) (LT to q t):=by
 intro pins s σ H v u Q I r h;rw [U];refine d0 (w9 (eP (N s σ H _ I h) λd z x H1 O S G=>?_));refine d0 (w9 (eP (hi z σ H1 _ O G) λj D y H2 L J B=>?_));refine d0 (N5 (d0 (w9 (gA (M pins D σ H2 x y v d j u _ L S J r B) λ_ Z n=>?_))));let (F,Y,W):=n;exact wpAny_release {(σ),F,Y,W}
def Hm (te:TE) (g:TG):TS:=λD σ H=>te σ H λx H1=>g x σ H1 D.nx
def wF (n:PE X e te) (F:PG X tg g) (B:swapsWithSole [tg] e pos.line X.env=pure false:=by rfl) (d:swappedStores [tg] e X.env=pure none:=by rfl)
  (h1:(assignEach [tg] X.env).map (·.2)=[assign tg X.env]:=by rfl):PS X (.Assign [tg] e pos) (Hm te g):=by
 intro pins s σ H D I h;refine wpAny_Assign_stores (eP (n s σ H _ I h) λv j x H1 y z i=>?_) B d;rw [h1];exact gA (F j σ H1 x v _ y z i) λ_ G q=>q
def cG {pos':Pos} (q:X.N.Nodup) (hi:X.N[i]?=some x) (F:vI X.env.scope x) (n:PE X e te) (G:swapsWith e (some (.Name x pos')) pos.line X.env=pure false:=by rfl) (d:X.fn x=true\/X.env.scope.names.lookup x=some .local:=by first|exact .inl rfl|exact .inr rfl|assumption):
  PS X (.Assign [.Name x pos'] e pos) (Hm te (dF i)):=by
 intro pins s σ H D I h;refine wpAny_Assign_Name (eP (n s σ H _ I h) λv L y H1 z B j=>?_) G;exact mH z q hi F B (λM J=>{_,H1,J,j}) d
def KO (i:Nat) (te:TE) (ti:JZ):TS:=λD σ H=>∃x,σ[i]?=some (some x)/\te σ H λy H1=>ti x y H1 λz H2=>D.nx (σ.set i (some z)) H2
def DA {op:Operator} {B:JZ} {pos':Pos} (G:X.N.Nodup) (hi:X.N[i]?=some x) (j:vI X.env.scope x) (Y:PE X e te) (ho:ND X op B) (hf:X.fn x=true\/X.env.scope.names.lookup x=some .local:=by first|exact .inl rfl|exact .inr rfl|assumption):
  PS X (.AugAssign (.Name x pos') op e pos) (KO i te B):=by
 intro pins s σ H D I h;let (v,O,h):=h;let (m,L,hl):=I.loc;let n:FT X.env.scope x:=by rcases j with k|k;exact .inl k;exact .inr (.inl k)
 let (u,r,l):=hl i x v hi O n;refine wpAny_AugAssign_Name ?_;let q:wpAny 4#0 X.A (eval e X.env) (λw s₂=>wpAny 4#0 X.A (inplaceOp op u w) (λr M=>wpAny 4#0 X.A (storeName X.env x r) (λ_=>SP X pins D .next) X.xe M) X.xe s₂) X.xe s:=by
  refine eP (Y s σ H _ I h) λw F y H1 I1 r1 W=>?_;refine eP (ho pins F σ H1 v y u w _ I1 r r1 W) λz s2 zv H2 I2 Z U=>?_;exact mH I2 G hi j Z (λs3 I3=>{_,H2,I3,U}) hf
 rcases l with ⟨hk,J⟩|⟨hk,c,S,d⟩
 ·exact wpAny_loadName_local I.ok.kind hk L J q
 ·rcases hk with hk|hk
  ·exact wpAny_loadName_cell I.ok.kind hk S d q
  ·rcases j with k|k
   ·have:X.env.scope.names.lookup x=some .free:=hk;rw [k] at this;cases this
   ·have:X.env.scope.names.lookup x=some .free:=hk;rw [k] at this;cases this
def NP (f:Int->Int->Int):JZ:=λx y H Q=>∃i j,x=.int i/\y=.int j/\Q (.int (f i j)) H
def EB:ND X .Add (NP λi j=>i+j):=by
 intro pins s σ H x y v u Q I d n h;let (i,j,z,B,q):=h;subst z;subst B;let (t,rfl):=d;let (D,rfl):=n;exact iadd_int {.int _,H,I.tok _,{_,ρ},q}
def AX (c:TT) (tb:TS):TS:=λD σ H=>∃W:Nat->St->Hp->Prop,(∃m,W m σ H)/\∀m σ H,W m σ H ->
 c σ H λb H1=>if b=true then ∃N:St->Hp->Prop,(∀ σ' H',N σ' H'->∃m',m'<m/\W m' σ' H')/\tb { D with nx:=N,ct:=N,bk:=D.nx } σ H1 else D.nx σ H1
def Nz {c:Expr} {d:List Stmt} {tc:TT} (U:PassesOwn 4#0 X.A X.env X.xe) (hc:PT X c tc) (hb:pB X d tb):PS X (.While c d [] pos) (AX tc tb):=by
 intro pins s σ H D I h;let (W,(m0,w0),q):=h;refine wpAny_While (codeAny_whileLoop (λn s'=>∃Z H',aV X pins Z H' s'/\W n Z H') ?_ m0 {(σ),H,I,w0});rintro n s1 ⟨z,H1,I1,w1⟩;refine C0 U (gA (hc s1 z H1 _ I1 (q n z H1 w1)) λb s2 M=>?_);let (H2,Y,y):=M;cases b with
 | true=>
  let (N,S,y):=y;rw [if_pos rfl];refine C0 U (gA (hb s2 z H2 _ Y y) λf s3 B=>?_);cases f with
  | next=>
   let (j,i,O,J):=B;let (L,F,G):=S j i J;exact {(L),F,j,i,O,G}
  | cont=>
   let (j,i,O,J):=B;let (L,F,G):=S j i J;exact {(L),F,j,i,O,G}
  | brk=>exact B
  | ret v=>exact B
 | false=>
  rw [if_neg l4];exact K6 {(z),H2,Y,y}
end
structure It where
 go:Nat->Hp->Prop
 yld:Nat->Hp->V->Hp->Prop
 stop:Nat->Hp->Prop
def lV (X:Cx) (pins:List 10#0) (H:Hp) (b:Addr):Prop:=
 H b=none/\b≠X.env.locals/\b ∉ X.fs/\(b ∈ X.ex\/X.s₀.heap.objs.size<=b)/\(∀x c,X.env.cells.lookup x=some c->c≠b)/\∀p ∈ X.pn++pins,p.1≠b
def aV.fpOk {H':Hp} (I:5#0) (d:s.heap.objs.size<=b) (i:H' b=none):lV X pins H' b:=by
 refine {i,M0 (p9 I.lt d),I.nofs d,.inr (u8 I.sz d),λx c e z=>?_,λp j z=>?_}
 ·let (v,q):=I.cell x c e;exact absurd (p9 q.lt (by rw [z];exact d)) (A3 _)
 ·exact absurd (p9 (i7 (I.pin p j).1) (by rw [z];exact d)) (A3 _)
structure Aa (P:Program) (w:World) (K:PySem.W.Frag) (hd:Option Value) (tg:Expr) (J:It) (fp:List Addr) (it:Addr) (tn:Nat->Heap->Prop):Prop where
 mem:it ∈ fp
 obj:∀i h,tn i h->∀b ∈ fp,∃o,h.get? b=some o/\∀v,o.data≠.cell v
 keep:∀i h h',tn i h->(∀b ∈ fp,∀o,h.get? b=some o->h'.get? b=some o)->tn i h'
 item:∀(X:Cx),X.prog=P->X.w=w->X.K=K->X.A.handled=hd->∀(i:Nat) (pins:List 10#0) (s:Shared) (σ:St) (H:Hp) (E:Value->Shared->Prop),aV X pins σ H s->(∀b ∈ fp,lV X pins H b)->tn i s.heap->J.go i H ->
  wpAny (model P w) X.A (pyNext (.ref it)) (λr s1=>∃u,r=some u /\
   wpAny (model P w) X.A (letOwnedTupleGo tg (.ref it) u) (λ_ s2=>∃x H',aV X pins σ H' s2/\bF x u/\J.yld i H x H'/\tn (i+1) s2.heap/\∀b ∈ fp,H' b=none) E s1) E s
 done:∀(X:Cx),X.prog=P->X.w=w->X.K=K->X.A.handled=hd->∀(i:Nat) (pins:List 10#0) (s:Shared) (σ:St) (H:Hp) (E:Value->Shared->Prop),aV X pins σ H s->(∀b ∈ fp,lV X pins H b)->tn i s.heap->J.stop i H ->
  wpAny (model P w) X.A (pyNext (.ref it)) (λr s1=>r=none/\aV X pins σ H s1) E s
 self:∀(A:Around) (i:Nat) (s:Shared) (Q:Value->Shared->Prop) (E:Value->Shared->Prop),tn i s.heap->Q (.ref it) s->wpAny (model P w) A (pyIter (.ref it)) Q E s
abbrev TI:=St->Hp->(It->Hp->Prop)->Prop
def NE (X:Cx) (pins:List 10#0) (σ:St) (tg:Expr) (R:It->Hp->Prop) (itv:Value) (s2:Shared):Prop:=
 ∃(it:Addr) (fp:List Addr) (tn:Nat->Heap->Prop) (J:It) (H':Hp),itv=.ref it/\aV X pins σ H' s2/\Aa X.prog X.w X.K X.A.handled tg J fp it tn/\tn 0 s2.heap/\(∀b ∈ fp,lV X pins H' b)/\R J H'
def PI (X:Cx) (tg iter:Expr) (wi:TI):Prop:=
 ∀ ⦃pins:List 10#0⦄ (s:Shared) (σ:St) (H:Hp) (R:It->Hp->Prop),aV X pins σ H s->wi σ H R ->
  wpAny 4#0 X.A (eval iter X.env) (λv s1=>wpAny 4#0 X.A (pyIter v) (NE X pins σ tg R) X.xe s1) X.xe s
def uW {A:Around} {it:Addr} {o:Obj} {n:String} {vs:Array Value} (i:s.heap.get? it=some o) (j:o.cls=.type n) (hd:o.data=.fields vs)
  (q:["enumerate","zip","dict_itemiterator","dict_reverseitemiterator","odict_iterator","itertools.zip_longest","itertools.pairwise"].contains n=false) (d:Q () s):wpAny M A (letOwnedTupleGo tg (.ref it) u) Q E s:=by
 unfold letOwnedTupleGo;cases tg <;> first
  | exact i8 d
  | (cases u <;> first
    | exact i8 d
    | (refine d0 (wpAny_load i ?_)
       rw [j,hd]
       show wpAny M A (if (["enumerate","zip","dict_itemiterator","dict_reverseitemiterator","odict_iterator","itertools.zip_longest","itertools.pairwise"].contains n && vs[0]? == some (rawInt _))=true then _ else _) Q E s
       rw [if_neg (by intro h;rw [q,Bool.false_and] at h;cases h)]
       exact i8 d))
def Do (K:PySem.W.Frag) (a:Addr):It:=
 ⟨λi H=>∃xs x,cQ K H a xs/\xs[i]?=some x,λi H x H'=>H'=H/\∀xs,cQ K H a xs->xs[i]?=some x,λi H=>∃xs,cQ K H a xs/\xs.length<=i⟩
def Yw (K:PySem.W.Frag) (a:Addr):It:=
 ⟨λi H=>∃xs x,bX K H a xs/\xs[i]?=some x,λi H x H'=>H'=H/\∀xs,bX K H a xs->xs[i]?=some x,λi H=>∃xs,bX K H a xs/\xs.length<=i⟩
def FJ (lo:Int) (n:Nat):It:=⟨λi _=>i<n,λi H x H'=>H'=H/\x=.int (lo+i),λi _=>n<=i⟩
def tZ {q:Option Value} {w:World} {K:PySem.W.Frag} (a it:Addr) (e0:q=none):Aa P w K q tg (Do K a) [it] it (λi h=>h.IsListIter it a i) where
 mem:=by simp
 obj:=λi h st b j=>by
  let e:b=it:=by simpa using j
  subst e
  let (o,e,c,d):=st
  exact {o,e,λv z=>by rw [d] at z;cases z}
 keep:=λi h h' st k=>st.at λo e=>k it 9#0 o e
 item:=by
  intro X N M Y Z i pins s σ H E I B st O;subst N M Y;let (xs,x,y,F):=O;let (U,G,p,hz):=I.list y;let (u,hu,ru):=G.get F;let (S,J,f2,D,f4,L):=B it 9#0;refine wpAny_pyNext_list_item st p.isList (x:=u) (by simpa using hu) λh' n sb=>?_;let I1:aV X pins σ H { s with heap:=h' }:=I.turned (t':=s.toks) (λb o j e=>(sb.2 b j).trans e) S J D f4 L;let (o,e,c,d):=id n;exact {u,ρ,uW (s:={ s with heap:=h' }) e c d 8#0 {x,H,I1,ru,{ρ,λys hy=>by rw [I.list_inj hy y];exact F},n,λb j=>(B b j).1}}
 done:=by
  intro X N M Y Z i pins s σ H E I B st O;subst N M Y;let (xs,y,F):=O;let (U,G,p,hz):=I.list y;let (S,J,f2,D,f4,L):=B it 9#0;let hl:=G.length;exact wpAny_pyNext_list_end (Z.trans e0) st p.isList (by simp;omega) λh' eb=>{ρ,I.turned (t':=s.toks) (λb o j e=>eb b o j e) S J D f4 L}
 self:=λ_ _ _ _ _ st h=>wpAny_pyIter_listiter st h
def qS {y:Option Value} {w:World} {K:PySem.W.Frag} (a it:Addr) (e0:y=none):Aa P w K y tg (Yw K a) [it] it (λi h=>h.IsTupleIter it a i) where
 mem:=by simp
 obj:=λi h st b j=>by
  let e:b=it:=by simpa using j
  subst e
  let (o,e,c,d):=st
  exact {o,e,λv z=>by rw [d] at z;cases z}
 keep:=λi h h' st k=>st.at λo e=>k it 9#0 o e
 item:=by
  intro X O N Y Z i pins s σ H E I D st S;subst O N Y;let (xs,x,B,G):=S;let (n,J,p,hz):=I.tuple B;let (u,hu,ru):=J.get G;let (U,L,f2,F,f4,M):=D it 9#0;refine wpAny_pyNext_tuple_item st (show s.heap.IsTuple a n.toArray from p) (x:=u) (by simpa using hu) λh' q sb=>?_;let I1:aV X pins σ H { s with heap:=h' }:=I.turned (t':=s.toks) (λb o j e=>(sb.2 b j).trans e) U L F f4 M;let (o,e,c,d):=id q;exact {u,ρ,uW (s:={ s with heap:=h' }) e c d 8#0 {x,H,I1,ru,{ρ,λys hy=>by rw [I.tuple_inj hy B];exact G},q,λb j=>(D b j).1}}
 done:=by
  intro X O N Y Z i pins s σ H E I D st S;subst O N Y;let (xs,B,G):=S;let (n,J,p,hz):=I.tuple B;let (U,L,f2,F,f4,M):=D it 9#0;let hl:=J.length;exact wpAny_pyNext_tuple_end (Z.trans e0) st (show s.heap.IsTuple a n.toArray from p) (by simp;omega) λh' eb=>{ρ,I.turned (t':=s.toks) (λb o j e=>eb b o j e) U L F f4 M}
 self:=λ_ _ _ _ _ st h=>wpAny_pyIter_tupleiter st h
def Aq {q:Option Value} {w:World} {K:PySem.W.Frag} (it:Addr) (lo:Int) (n:Nat) (S:q=none):Aa P w K q tg (FJ lo n) [it] it (λi h=>IsRangeIter h it (lo+(i:Nat) * 1) ((n:Int)-(i:Nat)) 1) where
 mem:=by simp
 obj:=λi h st b d=>by
  let e:b=it:=by simpa using d
  subst e
  exact⟨_,st,λv z=>by
   let Y:Data.fields _=Data.cell v:=z
   cases Y⟩
 keep:=λi h h' st k=>k it 9#0 _ st
 item:=by
  intro X L J O D i pins s σ H E I y st M;subst L J O;let (N,F,Z,B,f4,G):=y it 9#0;let W:=Walks.range (prog:=X.prog) (w:=X.w) (D.trans S) it lo 1 n;refine W.item i s _ _ M st λv h' tk hv j kk=>?_;let (t,rfl):=hv;let I1:aV X pins σ H { s with heap:=h',toks:=tk }:=I.turned (λb o d e=>kk b o (by simpa using d) e) N F B f4 G;refine {_,ρ,uW (s:={ s with heap:=h',toks:=tk }) (n:="range_iterator") j rfl rfl 8#0 {.int (lo+i),H,I1,{t,?_},{(rfl),ρ},j,λb d=>(y b d).1}};rw [Int.mul_one]
 done:=by
  intro X L J O D i pins s σ H E I y st M;subst L J O;let (N,F,Z,B,f4,G):=y it 9#0;exact wpAny_pyNext_range_end (D.trans S) st (by have:n<=i:=M;omega) λh' U=>{ρ,I.turned (t':=s.toks) (λb o d e=>U b o d e) N F B f4 G}
 self:=λ_ _ _ _ _ st h=>wpAny_pyIter_rangeiter st h
section
variable {X:Cx} {tg:Expr}
def IX (K:PySem.W.Frag) (tl:TE):TI:=λσ H R=>tl σ H λx H1=>∃a,x=.ref a/\(∃xs,cQ K H1 a xs)/\R (Do K a) H1
def LN (K:PySem.W.Frag) (tl:TE):TI:=λσ H R=>tl σ H λx H1=>∃a,x=.ref a/\(∃xs,bX K H1 a xs)/\R (Yw K a) H1
def fA {l:Expr} {tl:TE} (B:PE X l tl) (j:X.calm=true:=by rfl):PI X tg l (IX X.K tl):=by
 intro pins s σ H R I h;refine eP (B s σ H _ I h) λv d x H1 i F y=>?_;let (a,e,(xs,z),q):=y;subst e;cases F;let (D,G,p,J):=i.list z;refine P3 p.isList ?_;refine {d.heap.objs.size,[d.heap.objs.size],_,_,H1,ρ,i.kept (t':=d.toks) λb o e=>g8 _ e,tZ a _ (I.ok.hd j),{_,j3 _ rfl,ρ,ρ},λb n=>?_,q};let e:b=d.heap.objs.size:=by simpa using n
 subst e;exact i.fpOk (g9 _) (i.hok.fresh (g9 _))
def lQ {l:Expr} {tl:TE} (D:PE X l tl) (j:X.calm=true:=by rfl):PI X tg l (LN X.K tl):=by
 intro pins s σ H R I h;refine eP (D s σ H _ I h) λv d x H1 i F z=>?_;let (a,e,(xs,B),q):=z;subst e;cases F;let (n,G,p,J):=i.tuple B;refine S7 (show d.heap.IsTuple a n.toArray from p) ?_;refine {d.heap.objs.size,[d.heap.objs.size],_,_,H1,ρ,i.kept (t':=d.toks) λb o e=>g8 _ e,qS a _ (I.ok.hd j),{_,j3 _ rfl,ρ,ρ},λb y=>?_,q};let e:b=d.heap.objs.size:=by simpa using y
 subst e;exact i.fpOk (g9 _) (i.hok.fresh (g9 _))
def yC {R:It->Hp->Prop} {lo hi:Int} {t u v:Tok} {tk:Nat} (d:X.calm=true) (I:5#0) (h1:-(2 ^ 62)<=lo) (h2:lo<2 ^ 62) (y:-(2 ^ 62)<=hi) (n:hi<2 ^ 62)
  (q:R (FJ lo (hi-lo).toNat) H):wpAny 4#0 X.A (pyIter (.ref s.heap.objs.size)) (NE X pins σ tg R) E { s with heap:=s.heap.push { cls:=.type "range",data:=.fields #[.int lo t,.int hi u,.int 1 v] },toks:=tk }:=by
 refine wpAny_pyIter_range (IsRange.new ..) (small_one h1 h2 y n) ?_;let i:aV X pins σ H { s with heap:=s.heap.push { cls:=.type "range",data:=.fields #[.int lo t,.int hi u,.int 1 v] },toks:=tk }:=I.kept λb o e=>g8 _ e;refine {(s.heap.push { cls:=.type "range",data:=.fields #[.int lo t,.int hi u,.int 1 v] }).objs.size,[(s.heap.push { cls:=.type "range",data:=.fields #[.int lo t,.int hi u,.int 1 v] }).objs.size],_,_,H,ρ,
  i.kept (t':=tk) λb o e=>g8 _ e,Aq _ lo (hi-lo).toNat (I.ok.hd d),?_,λb j=>?_,q}
 ·let z:lo+((0:Nat):Int) * 1=lo:=by simp
  let B:(((hi-lo).toNat:Nat):Int)-((0:Nat):Int)=Builtin.Range.rangeSize lo hi 1:=by rw [rangeSize_one];split <;> omega
  show IsRangeIter _ _ (lo+((0:Nat):Int) * 1) ((((hi-lo).toNat:Nat):Int)-((0:Nat):Int)) 1;rw [z,B];exact j3 _ rfl
 ·let e:b=(s.heap.push { cls:=.type "range",data:=.fields #[.int lo t,.int hi u,.int 1 v] }).objs.size:=by simpa using j
  subst e;exact i.fpOk (g9 _) (i.hok.fresh (g9 _))
def IW (ta:TA):TI:=λσ H R=>ta σ H λvs H1=>∃j:Int,vs=[.int j]/\-(2 ^ 62)<=j/\j<2 ^ 62/\R (FJ 0 j.toNat) H1
def IV (ta:TA):TI:=λσ H R=>ta σ H λvs H1=>∃i j:Int,vs=[.int i,.int j]/\(-(2 ^ 62)<=i/\i<2 ^ 62/\-(2 ^ 62)<=j/\j<2 ^ 62)/\R (FJ i (j-i).toNat) H1
def kP {a:Expr} {ta:TA} {p:Pos} (F:Gl X "range") (y:X.mg "range"=none) (D:PA X [a] ta) (B:starEach [a] X.env=[(false,eval a X.env)]:=by rfl) (d:X.calm=true:=by rfl):PI X tg (.Call (.Name "range" p) [a] [] pos) (IW ta):=by
 intro pins s σ H R I h;refine Call_ (jY I F y boot_range (M8 (vM (D pins s σ H _ I h) λM J L H1 n z i=>?_) B rfl));let (j,e,i,G,q):=i;subst e;cases z with
 | cons r rr=>
  cases rr;let (t,rfl):=r;exact call_range_1 (yC d n ∎ ∎ i G (by simpa using q))
def oD {a b:Expr} {ta:TA} {p:Pos} (M:Gl X "range") (B:X.mg "range"=none) (J:PA X [a,b] ta) (F:starEach [a,b] X.env=[(false,eval a X.env),(false,eval b X.env)]:=by rfl) (d:starEach [b] X.env=[(false,eval b X.env)]:=by rfl) (n:X.calm=true:=by rfl):
  PI X tg (.Call (.Name "range" p) [a,b] [] pos) (IV ta):=by
 intro pins s σ H R I h;refine Call_ (jY I M B boot_range (M8 (vM (J pins s σ H _ I h) λW O S H1 z D y=>?_) (by rw [F,d]) (by rw [d];rfl)));let (i,j,e,(y,N,L,G),q):=y;subst e;cases D with
 | cons r rr=>
  cases rr with
  | cons r' rr=>
   cases rr;let (t,rfl):=r;let (U,rfl):=r';exact call_range_2 (yC n z y N L G q)
def HC (wi:TI) (g:TG) (tb:TS):TS:=λD σ H=>wi σ H λJ H1=>∃W:Nat->Nat->St->Hp->Prop,(∃m,W 0 m σ H1)/\∀i m σ H,W i m σ H ->
 (J.stop i H/\D.nx σ H)\/(J.go i H/\∃N:St->Hp->Prop,(∀ σ' H',N σ' H'->∃m',m'<m/\W (i+1) m' σ' H')/\∀x H',J.yld i H x H'->g x σ H' λσ2 H2=>tb { D with nx:=N,ct:=N,bk:=D.nx } σ2 H2)
def gH (fp:List Addr) (h:Heap):List 10#0:=fp.filterMap λb=>(h.get? b).map λo=>(b,o)
def dU {d:List Addr} {o:Obj} (i:b ∈ d) (e:h.get? b=some o):(b,o) ∈ gH d h:=K5.mpr {b,i,by rw [e];rfl}
def Ik {d:List Addr} {p:Addr × Obj} (n:p ∈ gH d h):p.1 ∈ d/\h.get? p.1=some p.2:=by
 let (b,i,e):=K5.mp n;cases q:h.get? b with
 | none=>rw [q] at e;cases e
 | some o=>
  rw [q] at e;let j:(b,o)=p:=Option.some.inj e;subst j;exact {(i),q}
def aV.pinned {i:List Addr} (I:5#0) (q:∀b ∈ i,lV X pins H b) (D:∀b ∈ i,∃o,s.heap.get? b=some o/\∀v,o.data≠.cell v):aV X (pins++gH i s.heap) σ H s:=
 I.pins_of λp y=>(j6.mp y).elim (λz=>I.pin p (j0 _ z)) λz=>by
  let (j,e):=Ik z
  let (G,F,B,_):=q p.1 j
  let (o,n,d):=D p.1 j
  rw [e] at n;cases n
  exact {(e),G,F,B,d}
def aV.unpinned {pl:List 10#0} (I:aV X (pins++pl) σ H s):aV X pins σ H s:=I.pins_of λp d=>I.pin p (j0 _ (B9 _ d))
def eG {G:Expr} {M:List Stmt} {wi:TI} (Z:PassesOwn 4#0 X.A X.env X.xe) (hc:X.calm=true) (hi:PI X tg G wi) (hg:PG X tg g) (B:pB X M tb)
  (hs:∀x,foldedSetIterable G X.env x=pure x:=by intro _;rfl):PS X (.For tg G M [] pos) (HC wi g tb):=by
 intro pins s σ H D I h;refine wpAny_For (gA (hi s σ H _ I h) λv s1 h1=>gA h1 λa7 s2 h2=>?_) hs;let (it,fp,tn,J,H2,e,I2,T,a4,f2,W,(m0,w0),a2):=h2;subst e;let z:∀{H':Hp},(∀b ∈ fp,H' b=none)->∀b ∈ fp,lV X pins H' b:=λhn b B=>{hn b B,(f2 b B).2};refine codeAny_forLoop_any (λn s'=>∃i σ' H',aV X pins σ' H' s'/\tn i s'.heap/\(∀b ∈ fp,H' b=none)/\W i n σ' H') ?_ m0 {0,σ,H2,I2,a4,λb B=>(f2 b B).1,w0};rintro n s3 ⟨i,σ3,H3,I3,a3,a1,w3⟩;rcases a2 i n σ3 H3 w3 with ⟨Y,qn⟩|⟨go,N,hN,a0⟩
 ·refine C0 Z (gA (T.done X rfl rfl rfl rfl i pins s3 σ3 H3 X.xe I3 (z a1) a3 Y) λr s4 j=>?_);let (hr,I4):=j;subst hr;exact K6 {(σ3),H3,I4,qn}
 ·refine C0 Z (gA (T.item X rfl rfl rfl rfl i pins s3 σ3 H3 X.xe I3 (z a1) a3 go) λr s4 j=>?_);let (u,hr,h4):=j;subst hr;refine C0 Z (gA h4 λ_ s5 j=>?_);let (x,H5,I5,r5,y5,S,a6):=j;let a5:=I5.pinned (z a6) (T.obj _ _ S);refine C0 Z (gA (hg s5 σ3 H5 x u _ a5 r5 (a0 x H5 y5)) λ_ s6 j=>?_);let (σ6,H6,I6,q6):=j;refine C0 Z (gA (B s6 σ6 H6 _ I6 q6) λf s7 O=>?_);let q:∀{y:St} {F:Hp},aV X (pins++gH fp s5.heap) y F s7->N y F->∃m,m<n/\∃i σ' H',aV X pins σ' H' s7/\tn i s7.heap/\(∀b ∈ fp,H' b=none)/\W i m σ' H':=λ{y F} L U=>by
   let (m',hm,w7):=hN y F U;refine {m',hm,i+1,y,F,L.unpinned,T.keep _ _ _ S λb B o e=>(L.pin (b,o) (j0 _ (j0 _ (dU B e)))).1,λb B=>?_,w7};let (o,e,d):=T.obj _ _ S b B;exact(L.pin (b,o) (j0 _ (j0 _ (dU B e)))).2.1
  cases f with
  | next=>let (y,F,L,U):=O;exact q L U
  | cont=>let (y,F,L,U):=O;exact q L U
  | brk=>let (y,F,L,O):=O;exact {(y),F,L.unpinned,O}
  | ret v=>let (x7,y,F,L,r7,O):=O;exact {(x7),y,F,L.unpinned,r7,O}
end
def nJ {K:PySem.W.Frag} {D:dH} (d:Nat->St->Hp->Prop) (F:d 0 σ H) (G:∀i σ H,i<=xs.length->d i σ H->cQ K H a xs)
  (I:∀i x σ H,xs[i]?=some x->d i σ H->g x σ H λz H2=>tb { D with nx:=d (i+1),ct:=d (i+1),bk:=D.nx } z H2) (hd:∀ σ H,d xs.length σ H->D.nx σ H):
  ∃W:Nat->Nat->St->Hp->Prop,(∃m,W 0 m σ H)/\∀i m σ H,W i m σ H ->
   ((Do K a).stop i H/\D.nx σ H)\/((Do K a).go i H/\∃N:St->Hp->Prop,(∀n H',N n H'->∃B,B<m/\W (i+1) B n H')/\∀x H',(Do K a).yld i H x H'->g x σ H' λz H2=>tb { D with nx:=N,ct:=N,bk:=D.nx } z H2):=by
 refine {λi m σ H=>m=xs.length-i/\i<=xs.length/\d i σ H,{xs.length,by simp,i9 _,F},?_};rintro i m σ H ⟨rfl,hi,p⟩;let q:=G i σ H hi p;by_cases j:i<xs.length
 ·refine .inr {{xs,xs[i],q,by simp [j]},d (i+1),λn H' J=>{xs.length-(i+1),∎,ρ,j,J},λx H' y=>?_};let (e,y):=y;subst e;exact I i x σ _ (y xs q) p
 ·let e:i=xs.length:=∎;subst e;exact .inl {{xs,q,g9 _},hd σ H p}
def nG {K:PySem.W.Frag} {D:dH} (d:Nat->St->Hp->Prop) (F:d 0 σ H) (G:∀i σ H,i<=xs.length->d i σ H->bX K H a xs)
  (I:∀i x σ H,xs[i]?=some x->d i σ H->g x σ H λz H2=>tb { D with nx:=d (i+1),ct:=d (i+1),bk:=D.nx } z H2) (hd:∀ σ H,d xs.length σ H->D.nx σ H):
  ∃W:Nat->Nat->St->Hp->Prop,(∃m,W 0 m σ H)/\∀i m σ H,W i m σ H ->
   ((Yw K a).stop i H/\D.nx σ H)\/((Yw K a).go i H/\∃N:St->Hp->Prop,(∀n H',N n H'->∃B,B<m/\W (i+1) B n H')/\∀x H',(Yw K a).yld i H x H'->g x σ H' λz H2=>tb { D with nx:=N,ct:=N,bk:=D.nx } z H2):=by
 refine {λi m σ H=>m=xs.length-i/\i<=xs.length/\d i σ H,{xs.length,by simp,i9 _,F},?_};rintro i m σ H ⟨rfl,hi,p⟩;let q:=G i σ H hi p;by_cases j:i<xs.length
 ·refine .inr {{xs,xs[i],q,by simp [j]},d (i+1),λn H' J=>{xs.length-(i+1),∎,ρ,j,J},λx H' y=>?_};let (e,y):=y;subst e;exact I i x σ _ (y xs q) p
 ·let e:i=xs.length:=∎;subst e;exact .inl {{xs,q,g9 _},hd σ H p}
def kY {lo:Int} {D:dH} (j:Nat->St->Hp->Prop) (F:j 0 σ H)
  (G:∀i σ H,i<n->j i σ H->g (.int (lo+i)) σ H λz H2=>tb { D with nx:=j (i+1),ct:=j (i+1),bk:=D.nx } z H2) (hd:∀ σ H,j n σ H->D.nx σ H):
  ∃W:Nat->Nat->St->Hp->Prop,(∃m,W 0 m σ H)/\∀i m σ H,W i m σ H ->
   ((FJ lo n).stop i H/\D.nx σ H)\/((FJ lo n).go i H/\∃N:St->Hp->Prop,(∀q H',N q H'->∃B,B<m/\W (i+1) B q H')/\∀x H',(FJ lo n).yld i H x H'->g x σ H' λz H2=>tb { D with nx:=N,ct:=N,bk:=D.nx } z H2):=by
 refine {λi m σ H=>m=n-i/\i<=n/\j i σ H,{n,by simp,i9 _,F},?_};rintro i m σ H ⟨rfl,hi,p⟩;by_cases d:i<n
 ·refine .inr {d,j (i+1),λq H' I=>{n-(i+1),∎,ρ,d,I},λx H' y=>?_};let (e,y):=y;subst e y;exact G i σ _ d p
 ·let e:i=n:=∎;subst e;exact .inl {g9 _,hd σ H p}
abbrev R2:=V->V->Hp->VK->Prop
def lK (X:Cx) (f:Value->Value->Sem Value) (r:R2):Prop:=
 ∀(pins:List 10#0) (s:Shared) (σ:St) (H:Hp) (x y:V) (v u:Value) (Q:VK),aV X pins σ H s->bF x v->bF y u->r x y H Q ->
  wpAny 4#0 X.A (f v u) 44#0 X.xe s
def LW (X:Cx) (f:Value->Sem Value) (r:V->Hp->VK->Prop):Prop:=
 ∀(pins:List 10#0) (s:Shared) (σ:St) (H:Hp) (x:V) (v:Value) (Q:VK),aV X pins σ H s->bF x v->r x H Q ->
  wpAny 4#0 X.A (f v) 44#0 X.xe s
def gP (X:Cx) (f:Value) (r:List V->Hp->VK->Prop):Prop:=
 ∀(pins:List 10#0) (s:Shared) (σ:St) (H:Hp) (xs:List V) (us:List Value) (Q:VK),aV X pins σ H s->bA xs us->r xs H Q ->
  wpAny 4#0 X.A (call f us) 44#0 X.xe s
def LX (X:Cx) (r:V->Hp->(Bool->Hp->Prop)->Prop):Prop:=
 ∀(pins:List 10#0) (s:Shared) (σ:St) (H:Hp) (x:V) (v:Value) (Q:Bool->Hp->Prop),aV X pins σ H s->bF x v->r x H Q ->
  wpAny 4#0 X.A (truthy v) (TP X pins σ Q) X.xe s
def Ka (r:R2) (ta tb:TE):TE:=λσ H Q=>ta σ H λx H1=>tb σ H1 λy H2=>r x y H2 Q
def ML (r:V->Hp->VK->Prop) (ta:TE):TE:=λσ H Q=>ta σ H λx H1=>r x H1 Q
inductive ME (C:Int->Int->Prop) (g:Int->Int->V) (x y:V) (H:Hp) (Q:VK):Prop|mk (i:_) (j:_) (_:x=.int i) (_:y=.int j) (_:C i j) (_:Q (g i j) H)
def rI (C:Int->Int->Prop) (g:Int->Int->V):R2:=λx y H Q=>ME C g x y H Q
inductive JT (g:Int->Int->V) (x y:V) (H:Hp) (Q:VK):Prop|mk (i:_) (j:_) (_:x=.int i) (_:y=.int j) (_:Q (g i j) H)
def Vm (g:Int->Int->V):R2:=λx y H Q=>JT g x y H Q
def rU (g:Int->V):V->Hp->VK->Prop:=λx H Q=>∃i,x=.int i/\Q (g i) H
section
variable {X:Cx} {a b c:Expr} {ta tb tc:TE} {pos:Pos}
def EU (F:PE X a ta) (j:PE X b tb) {pins:List 10#0} {s:Shared} {σ:St} {H:Hp} {R:V->V->Hp->Prop} (I:5#0)
  (h:ta σ H λx H1=>tb σ H1 λy H2=>R x y H2) {Q:Value->Shared->Prop} {f:Value->Value->Sem Value}
  (i:∀v u d x y H2,aV X pins σ H2 d->bF x v->bF y u->R x y H2->wpAny 4#0 X.A (f v u) Q X.xe d):
  wpAny 4#0 X.A (eval a X.env) (λv D=>wpAny 4#0 X.A (eval b X.env) (λu L=>wpAny 4#0 X.A (f v u) Q X.xe L) X.xe D) X.xe s:=by
 refine eP (F s σ H _ I h) λv q x H1 z B n=>?_;refine eP (j q σ H1 _ z n) λu d y H2 J G M=>?_;exact i v u d x y H2 J B G M
def bU {op:Operator} (n:lK X (binaryOp op) r) (z:PE X a ta) (d:PE X b tb):PE X (.BinOp a op b pos) (Ka r ta tb):=by
 intro pins s σ H Q I h;exact wpAny_BinOp (EU z d I h λv u D x y H2 B i j q=>n pins D σ H2 x y v u Q B i j q)
def Zw {op:UnaryOp} {r:V->Hp->VK->Prop} (q:LW X (unaryOp op) r) (y:PE X a ta):PE X (.UnaryOp op a pos) (ML r ta):=by
 intro pins s σ H Q I h;exact UnaryOp_ (eP (y s σ H _ I h) λv i x H1 j n d=>q pins i σ H1 x v Q j n d)
def IG {C:Int->Int->Prop} {g:Int->Int->Int}
  (d:∀(i j:Int) (t u:Tok) (s:Shared) (Q:Value->Shared->Prop) (E:Value->Shared->Prop),C i j->Q (.int (g i j) s.toks) { s with toks:=s.toks+1 }->wpAny 4#0 X.A (f (.int i t) (.int j u)) Q E s):
  lK X f (rI C λi j=>.int (g i j)):=by
 intro pins s σ H x y v u Q I n z h;let (i,j,rfl,rfl,B,q):=h;let (t,rfl):=n;let (D,rfl):=z;exact d i j t D s _ _ B {.int (g i j),H,I.tok _,{_,ρ},q}
def IF {g:Int->Int->Int}
  (d:∀(i j:Int) (t u:Tok) (s:Shared) (Q:Value->Shared->Prop) (E:Value->Shared->Prop),Q (.int (g i j) s.toks) { s with toks:=s.toks+1 }->wpAny 4#0 X.A (f (.int i t) (.int j u)) Q E s):
  lK X f (Vm λi j=>.int (g i j)):=by
 intro pins s σ H x y v u Q I B z h;let (i,j,rfl,rfl,q):=h;let (t,rfl):=B;let (n,rfl):=z;exact d i j t n s _ _ {.int (g i j),H,I.tok _,{_,ρ},q}
def Wa {g:Int->Int->Bool}
  (d:∀(i j:Int) (t u:Tok) (s:Shared) (Q:Value->Shared->Prop) (E:Value->Shared->Prop),Q (.bool (g i j)) s->wpAny 4#0 X.A (f (.int i t) (.int j u)) Q E s):
  lK X f (Vm λi j=>.bl (g i j)):=by
 intro pins s σ H x y v u Q I B z h;let (i,j,rfl,rfl,q):=h;let (t,rfl):=B;let (n,rfl):=z;exact d i j t n s _ _ {.bl (g i j),H,I,ρ,q}
def MH (i j:Int):Prop:=0<j/\j<1073741824
def JV (i j:Int):Prop:=0<=j/\j<=1000000/\i.natAbs<2 ^ 64
def Jy (i j:Int):Prop:=(-(2 ^ 64)<i/\i<2 ^ 64)\/(-(2 ^ 64)<j/\j<2 ^ 64)
def Jy.ok {i j:Int} (h:Jy i j):IntMulOk i j:=by
 rcases h with ⟨h1,h2⟩|⟨h1,h2⟩
 ·exact .of_left (intBits_le_64 h1 h2)
 ·exact .of_right (intBits_le_64 h1 h2)
def eI:lK X (binaryOp .Add) (Vm λi j=>.int (i+j)):=IF λ_ _ _ _ _ _ _ q=>add_int q
def oE:lK X (binaryOp .Sub) (Vm λi j=>.int (i-j)):=IF λ_ _ _ _ _ _ _ q=>sub_int q
def By:lK X (binaryOp .Mult) (rI Jy λi j=>.int (i * j)):=IG λ_ _ _ _ _ _ _ d q=>mul_int q d.ok
def Vz:lK X (binaryOp .FloorDiv) (rI MH λi j=>.int (i / j)):=IG λi j _ _ _ _ _ d q=>by
 have h1:(0:Int)<j:=d.1
 have h2:j<1073741824:=d.2
 exact floordiv_int ∎ (by rw [Int.fdiv_eq_ediv_of_nonneg i ∎];exact q) (.inl (PyProof.noPylong_small ∎))
def oF:lK X (binaryOp .Mod) (rI (λ_ j=>0<j) λi j=>.int (i % j)):=IG λi j _ _ _ _ _ d q=>by
 have h1:(0:Int)<j:=d
 exact mod_int' ∎ (by rw [Int.fmod_eq_emod_of_nonneg i ∎];exact q)
def DJ:lK X (binaryOp .Pow) (rI JV λi j=>.int (i ^ j.toNat)):=IG λ_ _ _ _ _ _ _ d q=>pow_int_small d.1 d.2.1 d.2.2 q
def NK {f:Value->Sem Value} {g:Int->Int}
  (d:∀(i:Int) (t:Tok) (s:Shared) (Q:Value->Shared->Prop) (E:Value->Shared->Prop),Q (.int (g i) s.toks) { s with toks:=s.toks+1 }->wpAny 4#0 X.A (f (.int i t)) Q E s):
  LW X f (rU λi=>.int (g i)):=by
 intro pins s σ H x v Q I j h;let (i,rfl,q):=h;let (t,rfl):=j;exact d i t s _ _ {.int (g i),H,I.tok _,{_,ρ},q}
def Ks:LW X (unaryOp .USub) (rU λi=>.int (-i)):=NK λ_ _ _ _ _ q=>neg_int q
def BW:V->V->Bool
 | .non,.non=>true | .non,.int _=>true | .int _,.non=>true | .non,.bl _=>true | .bl _,.non=>true | .non,.str _=>true | .str _,.non=>true
 | .int _,.int _=>true | .bl _,.bl _=>true | .str _,.str _=>true | .byt _,.byt _=>true
 | .int _,.str _=>true | .str _,.int _=>true | .bl _,.str _=>true | .str _,.bl _=>true
 | _,_=>false
def NN:R2:=λx y H Q=>BW x y=true/\Q (.bl (decide (x=y))) H
def MO:R2:=λx y H Q=>BW x y=true/\Q (.bl (!decide (x=y))) H
def pZ {i j:Int}:decide (V.int i=V.int j)=(i == j):=by
 rw [E3];simp
def Rr {i j:Bool}:decide (V.bl i=V.bl j)=(i == j):=by
 rw [E3];simp
def Gr {i j:Str}:decide (V.str i=V.str j)=(i == j):=by
 rw [E3];simp
def Gs {i j:Array UInt8}:decide (V.byt i=V.byt j)=(i.toList == j.toList):=by
 rw [E3];cases i;cases j;simp
def cA {Q:VK} {k d:Bool} (I:5#0) (q:Q (.bl k) H) (e:k=d):EP X pins σ Q (.bool d) s:=by
 subst e;exact {.bl k,H,I,ρ,q}
def eT:lK X (compareOp .Eq) NN:=by
 intro pins s σ H x y v u Q I B d h;let (z,q):=h;cases x with
 | non=>
  cases B;cases y with
  | non=>cases d;exact PySem.EqNone.eq_none_none (cA I q 9#0)
  | bl j=>cases d;exact PySem.EqNone.eq_none_bool (cA I q 9#0)
  | int j=>let (n,rfl):=d;exact PySem.EqNone.eq_none_int (cA I q 9#0)
  | str j=>let (n,rfl):=d;exact PySem.EqNone.eq_none_str (cA I q 9#0)
  | _=>exact absurd 42#0 l4
 | bl i=>
  cases B;cases y with
  | non=>cases d;exact PySem.EqNone.eq_bool_none (cA I q 9#0)
  | bl j=>cases d;exact eq_bool (cA I q Rr)
  | str j=>let (n,rfl):=d;exact PySem.EqMixed.eq_bool_str (cA I q 9#0)
  | _=>exact absurd 42#0 l4
 | int i=>
  let (t,rfl):=B;cases y with
  | non=>cases d;exact PySem.EqNone.eq_int_none (cA I q 9#0)
  | int j=>let (n,rfl):=d;exact eq_int (cA I q pZ)
  | str j=>let (n,rfl):=d;exact PySem.EqMixed.eq_int_str (cA I q 9#0)
  | _=>exact absurd 42#0 l4
 | str i=>
  let (t,rfl):=B;cases y with
  | non=>cases d;exact PySem.EqNone.eq_str_none (cA I q 9#0)
  | bl j=>cases d;exact PySem.EqMixed.eq_str_bool (cA I q 9#0)
  | int j=>let (n,rfl):=d;exact PySem.EqMixed.eq_str_int (cA I q 9#0)
  | str j=>let (n,rfl):=d;exact eq_str (cA I q Gr)
  | _=>exact absurd 42#0 l4
 | byt i=>
  let (t,rfl):=B;cases y with
  | byt j=>let (n,rfl):=d;exact PySem.W.eq_bytes (cA I q Gs)
  | _=>exact absurd 42#0 l4
 | _=>cases y <;> exact absurd 42#0 l4
def Zx:lK X (compareOp .NotEq) MO:=by
 intro pins s σ H x y v u Q I B d h;let (z,q):=h;cases x with
 | non=>
  cases B;cases y with
  | non=>cases d;exact PySem.EqNone.ne_none_none (cA I q 9#0)
  | bl j=>cases d;exact PySem.EqNone.ne_none_bool (cA I q 9#0)
  | int j=>let (n,rfl):=d;exact PySem.EqNone.ne_none_int (cA I q 9#0)
  | str j=>let (n,rfl):=d;exact PySem.EqNone.ne_none_str (cA I q 9#0)
  | _=>exact absurd 42#0 l4
 | bl i=>
  cases B;cases y with
  | non=>cases d;exact PySem.EqNone.ne_bool_none (cA I q 9#0)
  | bl j=>cases d;exact ne_bool (cA I q (congrArg not Rr))
  | str j=>let (n,rfl):=d;exact PySem.EqMixed.ne_bool_str (cA I q 9#0)
  | _=>exact absurd 42#0 l4
 | int i=>
  let (t,rfl):=B;cases y with
  | non=>cases d;exact PySem.EqNone.ne_int_none (cA I q 9#0)
  | int j=>let (n,rfl):=d;exact ne_int (cA I q (congrArg not pZ))
  | str j=>let (n,rfl):=d;exact PySem.EqMixed.ne_int_str (cA I q 9#0)
  | _=>exact absurd 42#0 l4
 | str i=>
  let (t,rfl):=B;cases y with
  | non=>cases d;exact PySem.EqNone.ne_str_none (cA I q 9#0)
  | bl j=>cases d;exact PySem.EqMixed.ne_str_bool (cA I q 9#0)
  | int j=>let (n,rfl):=d;exact PySem.EqMixed.ne_str_int (cA I q 9#0)
  | str j=>let (n,rfl):=d;exact ne_str (cA I q (congrArg not Gr))
  | _=>exact absurd 42#0 l4
 | byt i=>
  let (t,rfl):=B;cases y with
  | byt j=>let (n,rfl):=d;exact PySem.W.ne_bytes (cA I q (congrArg not Gs))
  | _=>exact absurd 42#0 l4
 | _=>cases y <;> exact absurd 42#0 l4
def gR:lK X (compareOp .Lt) (Vm λi j=>.bl (decide (i<j))):=Wa λ_ _ _ _ _ _ _ q=>lt_int q
def jJ:lK X (compareOp .LtE) (Vm λi j=>.bl (decide (i<=j))):=Wa λ_ _ _ _ _ _ _ q=>le_int q
def Os:lK X (compareOp .Gt) (Vm λi j=>.bl (decide (j<i))):=Wa λ_ _ _ _ _ _ _ q=>gt_int q
def Ot:lK X (compareOp .GtE) (Vm λi j=>.bl (decide (j<=i))):=Wa λ_ _ _ _ _ _ _ q=>ge_int q
def Bz:lK X (compareOp .Is) (λx y H Q=>y=.non/\Q (.bl (decide (x=.non))) H):=by
 intro pins s σ H x y v u Q I d i h;let (rfl,q):=h;cases i;refine is_none_gen (cA I q ?_);cases x <;> first
  | (cases d;rfl)
  | (let (t,rfl):=d;rfl)
def mY:lK X (compareOp .IsNot) (λx y H Q=>y=.non/\Q (.bl (!decide (x=.non))) H):=by
 intro pins s σ H x y v u Q I d i h;let (rfl,q):=h;cases i;refine isnot_none_gen (cA I q ?_);cases x <;> first
  | (cases d;rfl)
  | (let (t,rfl):=d;rfl)
def aX (b:Expr) {op:CmpOp} (h:op≠.In:=by decide) (h2:op≠.NotIn:=by decide):behindInMarks op b=false:=by
 let i:(op == CmpOp.In)=false:=by cases op <;> first|rfl|exact absurd rfl h
 let d:(op == CmpOp.NotIn)=false:=by cases op <;> first|rfl|exact absurd rfl h2
 cases b <;> simp [behindInMarks,i,d]
def dA (z:lK X (compareOp op) r) (B:PE X a ta) (d:PE X b tb) (j:behindInMarks op b=false):PE X (.Compare a [op] [b] pos) (Ka r ta tb):=by
 intro pins s σ H Q I h;exact wpAny_Compare1 (EU B d I h λv u F x y H2 D i n q=>z pins F σ H2 x y v u Q D i n q) j
inductive Yx (x:V) (H':Hp) (Q:Bool->Hp->Prop):Prop|mk (k:_) (_:x=.bl k) (_:Q k H')
def Kv (t:TE):TT:=λσ H Q=>t σ H λx H'=>Yx x H' Q
def bB (G:lK X (compareOp op) r) (J:PE X a ta) (i:PE X b tb) (B:behindInMarks op b=false):PT X (.Compare a [op] [b] pos) (Kv (Ka r ta tb)):=by
 intro pins s σ H Q I h;refine wpAny_isTrue_Compare1 (eP (J s σ H _ I h) λv j x H1 q D n=>eP (i j σ H1 _ q n) λu S y H2 M L O=>
  eP (G pins S σ H2 x y v u _ M D L O) λc U z d N F ⟨k,e,q3⟩=>?_) B;subst e;cases F;exact C4 {(d),N,q3}
def Kx (r r':R2) (ta tb tc:TE):TE:=λσ H Q=>ta σ H λx H1=>tb σ H1 λy H2=>r x y H2 λz H3=>∃k,z=.bl k /\
 (if k=true then tc σ H3 λw' H4=>r' y w' H4 Q else Q (.bl false) H3)
def Oi {i:CmpOp} {B:R2} (ho:lK X (compareOp op) r) (j:lK X (compareOp i) B) (ha:PE X a ta) (Z:PE X b tb) (S:PE X c tc)
  (L:lastMarks [op,i] [b,c]=false:=by with_unfolding_all rfl):PE X (.Compare a [op,i] [b,c] pos) (Kx r B ta tb tc):=by
 intro pins s σ H Q I h;refine Compare_chain (eP (ha s σ H _ I h) λv G x H1 I1 r1 q1=>chain_link (eP (Z G σ H1 _ I1 q1) λu W y H2 I2 q U=>
  eP (ho pins W σ H2 x y v u _ I2 r1 q U) λd Y z n D M ⟨k,e,q3⟩=>?_)) L;subst e;cases M;refine C4 ?_;cases k with
 | false=>exact ite_ff {.bl false,n,D,ρ,q3}
 | true=>exact ite_tt (chain_last (eP (S Y σ n _ D q3) λO N J H4 I4 F q4=>j pins N σ H4 y J u O Q I4 q F q4))
def gG {i:CmpOp} {D:R2} (ho:lK X (compareOp op) r) (j:lK X (compareOp i) D) (ha:PE X a ta) (hb:PE X b tb) (W:PE X c tc)
  (N:lastMarks [op,i] [b,c]=false:=by with_unfolding_all rfl):PT X (.Compare a [op,i] [b,c] pos) (Kv (Kx r D ta tb tc)):=by
 intro pins s σ H Q I h;refine isTrue_chain (eP (ha s σ H _ I h) λv J x H1 I1 r1 q1=>test_link (eP (hb J σ H1 _ I1 q1) λu s2 y H2 I2 B Z=>
  eP (ho pins s2 σ H2 x y v u _ I2 r1 B Z) λd s3 z q F O ⟨k,e,q3⟩=>?_)) N;subst e;cases O;refine C4 ?_;cases k with
 | false=>
  let (k',e',q'):=q3;cases e';exact ite_ff {(q),F,q'}
 | true=>
  refine ite_tt (test_last (eP (W s3 σ q _ F q3) λU S L H4 I4 G q4=>eP (j pins S σ H4 y L u U _ I4 B G q4) λd' s5 z2 H5 I5 M n=>?_));let (k2,Y,q5):=n;subst Y;cases M;exact C4 {(H5),I5,q5}
def EX (K:PySem.W.Frag) (x:V) (H:Hp) (k:Bool):Prop:=
 match x with
 | .non=>k=false
 | .bl b=>k=b
 | .int i=>k=(i != 0)
 | .str y=>y.length<=sizeLine/\k=((y.length:Int) != 0)
 | .byt y=>y.size<=sizeLine/\k=((y.size:Int) != 0)
 | .ref p=>(∃xs,cQ K H p xs/\k=!xs.isEmpty)\/(∃xs,bX K H p xs/\k=!xs.isEmpty)\/∃kvs,H p=some 45#0/\k=!kvs.isEmpty
 | _=>False
def Co {κ:Type} {kvs:List (κ × V)} {vs:List (κ × Value)} (r:KV kvs vs):(!vs.isEmpty)=!kvs.isEmpty:=by
 cases r <;> rfl
def sD {its:List Value} (r:bA xs its):(!its.toArray.isEmpty)=!xs.isEmpty:=by
 cases r <;> simp
def oH:(sizeLine:Nat)<2 ^ 63:=by rw [sizeLine_eq];decide
def AV:LX X (λx H Q=>∃k,EX X.K x H k/\Q k H):=by
 intro pins s σ H x v Q I rx h;let (k,e,q):=h;let hl:=oH;let hs:sizeLine=16777216:=sizeLine_eq;cases x with
 | non=>
  cases rx;let e':k=false:=e;subst e';exact truthy_none {(H),I,q}
 | bl b=>
  cases rx;let e':k=b:=e;subst e';exact C4 {(H),I,q}
 | int i=>
  let (t,rfl):=rx;let e':k=(i != 0):=e;subst e';exact PySem.P.truthy_int {(H),I,q}
 | str y=>
  let (t,rfl):=rx;obtain⟨hy,e'⟩:y.length<=sizeLine/\k=((y.length:Int) != 0):=e;subst e';exact PySem.P.truthy_str ∎ {H,I.tok _,q}
 | byt y=>
  let (t,rfl):=rx;obtain⟨hy,e'⟩:y.size<=sizeLine/\k=((y.size:Int) != 0):=e;subst e';exact PySem.W.truthy_bytes ∎ {H,I.tok _,q}
 | ref p=>
  cases rx;let e':(∃xs,cQ X.K H p xs/\k=!xs.isEmpty)\/(∃xs,bX X.K H p xs/\k=!xs.isEmpty)\/∃kvs,H p=some 45#0/\k=!kvs.isEmpty:=e;rcases e' with ⟨xs,hx,e'⟩|⟨xs,hx,e'⟩|⟨kvs,hx,e'⟩
  ·subst e';let (its,r,pl,hz):=I.list hx;let hlen:=r.length;exact wpAny_truthy_list pl.isList (by simp only [j7];omega) {H,I.tok _,by rw [sD r];exact q}
  ·subst e';let (its,r,pl,hz):=I.tuple hx;let hlen:=r.length;exact truthy_tuple pl (by simp only [j7];omega) {H,I.tok _,by rw [sD r];exact q}
  ·subst e';obtain⟨hz,hS,vs,r,m⟩:kvs.length<=sizeLine/\(p == sysModules)=false/\∃vs,KV kvs vs/\s.heap.DictOf (cD X.prog X.w) p vs:=I.hok p _ hx;let hlen:kvs.length=vs.length:=Paired.length r;exact wpAny_truthy_dict hS m ∎ {H,I.tok _,by rw [Co r];exact q}
 | _=>exact(show False from e).elim
def jU (z:PE X a ta) (q:∀d,isTrue a X.env d=(do let v <- d;standAt a.pos;holding [v] (truthy v))):
  PT X a (λσ H Q=>ta σ H λx H'=>∃k,EX X.K x H' k/\Q k H'):=by
 intro pins s σ H Q I h;exact isTrue_plain (eP (z s σ H _ I h) λv n x H1 j y i=>AV pins n σ H1 x v Q j y i) (q _)
def jQ {x:V} (r:bA [x] us):∃u,us=[u]/\bF x u:=by
 cases r with
 | cons r1 r2=>cases r2;exact {_,ρ,r1}
def Kq {x y:V} (r:bA [x,y] us):∃u d,us=[u,d]/\bF x u/\bF y d:=by
 cases r with
 | cons r1 r2=>
  cases r2 with
  | cons r3 r4=>cases r4;exact {_,_,ρ,r1,r3}
def Jo (n:X.calm=true):gP X (.builtin "max") (λxs H Q=>∃i j,xs=[.int i,.int j]/\Q (.int (if j > i then j else i)) H):=by
 intro pins s σ H xs B Q I r h;let (i,j,rfl,q):=h;let (u,y,rfl,(t,rfl),(z,rfl)):=Kq r;refine max_two_ints (I.ok.hd n) λh' tk k=>{_,H,I.kept k,?_,q};by_cases d:j > i
 ·rw [if_pos d,if_pos d];exact {_,ρ}
 ·rw [if_neg d,if_neg d];exact {_,ρ}
def lE:gP X (.type "int") (λxs H Q=>(∃i,xs=[.int i]/\Q (.int i) H)\/∃k,xs=[.bl k]/\Q (.int (if k then 1 else 0)) H):=by
 intro pins s σ H xs j Q I r h;rcases h with ⟨i,rfl,q⟩|⟨k,rfl,q⟩
 ·let (u,rfl,t,rfl):=jQ r;exact call_int_int {.int i,H,I,{_,ρ},q}
 ·let (u,rfl,d):=jQ r;cases d;exact call_int_bool {.int (if k then 1 else 0),H,I.tok _,{_,ρ},q}
end
structure Dn (h:Heap) (x dx C:Addr) (mA:Str->Option Value):Prop where
 obj:h.get? x=some (PySem.W.instObj C dx)
 ns:h.Ns1 dx mA
 ne:dx≠x
def Ip {dx:Addr} {mA:Str->Option Value} (n:h.Ns1 dx mA):∃od,h.get? dx=some od/\∀name,PySem.W.lookIn name od=some (mA name):=by
 let (o,es,ep,ho,hd,hk,_,hm):=n;refine {o,ho,λname=>?_};let e:=hm name;unfold nsFind findBy at e;rw [<- Array.find?_toList] at e;unfold PySem.W.lookIn;rw [hd];dsimp only
 split
 ·rename_i y q;rw [q] at e;exact congrArg some e
 ·rename_i q;rw [q] at e;let a:es.toList.any (·.refKey)=false:=by
   rw [List.any_eq_false];intro y hy;let (z,t,hkey):=hk y (Array.mem_toList_iff.mp hy);simp [DictEntry.refKey,hkey]
  let a':¬ es.toList.any (·.refKey)=true:=by rw [a];exact l4
  rw [if_neg a'];exact congrArg some e
def Dn.look {x dx:Addr} {mA:Str->Option Value} (I:Dn h x dx C mA):∃d,PySem.W.InstAt h x (PySem.W.instObj C dx) C (some d)/\∀name,PySem.W.lookIn name d=some (mA name):=
 let ⟨d,ho,hl⟩:=Ip I.ns
 {d,{(I.obj),ρ,ρ,ho},hl}
section
variable {prog:Program} {w:World} {A:Around} {E:Value->Shared->Prop} {s:Shared} {K:PySem.W.Frag} {x dx C f:Addr} {mA:Str->Option Value} {name:Str} {v:Value}
def Xg {d:Bool} {Q:Value->Shared->Prop} (X:K.In s.heap) (I:Dn s.heap x dx C mA) (z:PySem.W.plainGet K C name=true) (n:PySem.W.hasDictIn K C=true)
  (q:PySem.W.findIn K (.ref C) name=some none) (y:mA name=some v) (i:PySem.W.handedIn v=true) (h:Q v { s with toks:=s.toks+1 }):
  wpAny 7#0 A (getAttr (.ref x) name d) Q E s:=by
 let (B,J,j):=I.look;exact PySem.W.get_value X J (PySem.W.plainGet_of z).1 (PySem.W.findObj_own n q rfl (by rw [j,y])) i h
def Qy {Q:Value × List Value->Shared->Prop} (X:K.In s.heap) (I:Dn s.heap x dx C mA) (d:PySem.W.plainGet K C name=true)
  (i:PySem.W.findIn K (.ref C) name=some (some 59#0)) (q:PySem.W.isFn K 59#0=true) (y:mA name=none) (h:Q (.ref f,[.ref x]) s):
  wpAny 7#0 A (getMethod (.ref x) name pl) Q E s:=by
 let (n,J,j):=I.look;exact PySem.W.method_fn X J (PySem.W.plainGet_of d).1 (PySem.W.plainGet_of d).2 i (beq_iff_eq.mp q) (by show (PySem.W.lookIn name n).map (·.isSome)=some false;rw [j,y];rfl) h
def Uw {ns:List Str} (X:K.In s.heap) (I:Dn s.heap x dx C mA)
  (N:PySem.W.findIn K (.ref C) "__setattr__"=some (some (.builtin "object.__setattr__"))) (F:PySem.W.plainOver K C=true) (B:PySem.W.takerIn K C name=some none) (L:PySem.W.hasDictIn K C=true)
  (M:PySem.Within mA ns) (hsz:ns.length<=sizeLine)
  (h:∀h',Dn h' x dx C (λy=>if y=name then some v else mA y)->Heap.SameBut dx s.heap h'->Q () { s with heap:=h',toks:=s.toks+2 }):
  wpAny 7#0 A (setAttr (.ref x) name v) Q E s:=by
 let (Z,J,hl):=I.look;refine PySem.W.set_plain X J N (PySem.W.osa_open (s:={ s with toks:=s.toks+1 }) (r:=none) X J F B λb=>?_);let (U,D,j):=PySem.W.any_some L;let G:s.heap.get? x=some {.ref C,some dx,.plain,#[]}:=I.obj;refine d0 (i8 (d0 (d0 (wpAny_loadPart G (d0 (PySem.W.Looks.here (s:={ s with toks:=s.toks+1 }) (PySem.W.looks_clsIn X D) ?_))))));rw [j];refine i8 (a:=some dx) (d0 (i8 (d0 ?_)));refine wpAny_nsSet1 (s:={ s with toks:=s.toks+1 }) I.ns λh' d i=>?_;let (Y,O,S,n,q,z):=d.count (PySem.Within.cons name v M);refine d0 (wpAny_lookBehind n (by rw [q];exact pastItsLine_dict (u8 z (by rw [p8];omega))) ?_);exact i8 (h _ {(i.2 _ (F6 I.ne)).trans I.obj,d,I.ne} i)
def Qe {R:Result->Shared->Prop} {vs:List Value} (X:K.In s.heap) (n:PySem.W.makesIn K C=true)
  (hi:PySem.W.findIn K (.ref C) "__init__"=some (some 59#0)) (j:PySem.W.typeIn K 59#0=some (.type "function"))
  (h:codeAny 7#0 (A.under (.builtin "type.__call__" {.ref C::vs,kw})) (.call 59#0 {.ref 16#0::vs,kw}) (PySem.W.InitBack 16#0 R)
   { s with heap:=(s.heap.push PySem.W.emptyDict).push (PySem.W.instObj C s.heap.objs.size) }):
  codeAny 7#0 A (.call (.ref C) {(vs),kw}) R s:=by
 let (q,g,d,t,y):=s;exact PySem.W.make_core (PySem.W.makes_of X n) (PySem.W.looks_findIn X hi) (λi=>PySem.W.bind_fn X i j) (.inl rfl) h
end
def cZ (f:Str) (v:V):List (Str × V)->List (Str × V)
 | []=>[(f,v)]
 | (g,x)::r=>if g=f then(g,v)::r else(g,x)::cZ f v r
theorem dW (f g:Str) (v:V):∀fs:List (Str × V),(cZ f v fs).lookup g=if g=f then some v else fs.lookup g
 | []=>by
  show List.lookup g [(f,v)]=_
  by_cases h:g=f
  ·have d:(g == f)=true:=beq_iff_eq.mpr h
   simp only [List.lookup,d,if_pos h]
  ·have d:(g == f)=false:=beq_eq_false_iff_ne.mpr h
   simp only [List.lookup,d,if_neg h]
 | (k,x)::r=>by
  have j:=dW f g v r
  rw [show cZ f v ((k,x)::r)=(if k=f then(k,v)::r else(k,x)::cZ f v r) from rfl]
  by_cases i:k=f
  ·rw [if_pos i]
   by_cases h:g=k
   ·have d:(g == k)=true:=beq_iff_eq.mpr h
    simp only [List.lookup,d,if_pos (h.trans i)]
   ·have d:(g == k)=false:=beq_eq_false_iff_ne.mpr h
    simp only [List.lookup,d,if_neg (λe:g=f=>h (e.trans i.symm))]
  ·rw [if_neg i]
   by_cases h:g=k
   ·have d:(g == k)=true:=beq_iff_eq.mpr h
    simp only [List.lookup,d,if_neg (λe:g=f=>i (h.symm.trans e))]
   ·have d:(g == k)=false:=beq_eq_false_iff_ne.mpr h
    simp only [List.lookup,d]
    exact j
theorem oJ (f:Str) (v:V):∀fs:List (Str × V),f ∈ (cZ f v fs).map (·.1)/\∀g,g ∈ fs.map (·.1)->g ∈ (cZ f v fs).map (·.1)
 | []=>{by simp [cZ],λg h=>by simp at h}
 | (k,x)::r=>by
  let (i,j):=oJ f v r
  rw [show cZ f v ((k,x)::r)=(if k=f then(k,v)::r else(k,x)::cZ f v r) from rfl]
  by_cases d:k=f
  ·rw [if_pos d]
   subst d
   exact {by simp,λg h=>by simpa using h}
  ·rw [if_neg d]
   refine {?_,λg h=>?_}
   ·rw [x9]
    exact g6 _ i
   ·rw [x9] at h ⊢
    rcases i3.mp h with e|e
    ·exact i3.mpr (.inl e)
    ·exact g6 _ (j g e)
theorem oW (f:Str) (v:V):∀fs:List (Str × V),(cZ f v fs).length<=fs.length+1
 | []=>by simp [cZ]
 | (k,x)::r=>by
  have i:=oW f v r
  rw [show cZ f v ((k,x)::r)=(if k=f then(k,v)::r else(k,x)::cZ f v r) from rfl]
  by_cases d:k=f
  ·rw [if_pos d,p8,p8];omega
  ·rw [if_neg d,p8,p8];omega
def jF.some_of {o:Option Value} (r:jF (some v) o):∃u,o=some u/\bF v u:=by
 cases o with
 | none=>exact(show False from r).elim
 | some u=>exact {(u),ρ,r}
def jF.none_of {o:Option Value} (r:jF none o):o=none:=by
 cases o with
 | none=>rfl
 | some u=>exact(show False from r).elim
def Jb (r:bF v u):PySem.W.handedIn u=true:=by
 cases v with
 | non=>cases (show u=Value.none from r);rfl
 | bl b=>cases (show u=Value.bool b from r);rfl
 | int i=>let (t,e):=(show ∃t,u=Value.int i t from r);cases e;rfl
 | str x=>let (t,e):=(show ∃t,u=Value.str x t from r);cases e;rfl
 | byt b=>let (t,e):=(show ∃t,u=Value.bytes b t from r);cases e;rfl
 | flt b=>let (t,e):=(show ∃t,u=Value.float b t from r);cases e;rfl
 | ref a=>cases (show u=Value.ref a from r);rfl
 | ty n=>cases (show u=Value.type n from r);rfl
section
variable {P:Program} {w:World} {H H':Hp} {h h':Heap} {a C dx:Addr} {fs fs':List (Str × V)}
def pW (i:lL P w H h) (e:H a=some (.ins C dx fs)):∃mA,Dn h a dx C mA/\(∀f,jF (fs.lookup f) (mA f))/\PySem.Within mA (fs.map (·.1))/\fs.length<=1000/\H dx=some (.own a):=by
 let (d,z,y,j,mA,n,r,q):=(show bL P w H h a (.ins C dx fs) from i a _ e);exact {mA,{(j),n,y},r,q,z,d}
end
structure tG (K:PySem.W.Frag) (C:Addr):Prop where
 pg:PySem.W.plainGet K C Str.empty=true
 hd:PySem.W.hasDictIn K C=true
 po:PySem.W.plainOver K C=true
 sa:PySem.W.findIn K (.ref C) "__setattr__"=some (some (.builtin "object.__setattr__"))
def tG.get {K:PySem.W.Frag} (c:tG K C) (f:Str):PySem.W.plainGet K C f=true:=c.pg
def NoAttr (K:PySem.W.Frag) (C:Addr) (f:Str):Prop:=PySem.W.findIn K (.ref C) f=some none
def NoAttr.taker {K:PySem.W.Frag} {f:Str} (n:NoAttr K C f):PySem.W.takerIn K C f=some none:=by
 unfold PySem.W.takerIn;rw [show PySem.W.findIn K (.ref C) f=some none from n];rfl
structure Aj (K:PySem.W.Frag) (C:Addr) (m:Str) (f:Addr):Prop where
 at_:PySem.W.findIn K (.ref C) m=some (some 59#0)
 fn:PySem.W.isFn K 59#0=true
 kp:PySem.W.keepIn K 59#0=true
section
variable {X:Cx} {pins:List (Addr × Obj)} {σ:St} {H:Hp} {s:Shared} {a C dx:Addr} {fs:List (Str × V)} {f:Str} {v:V} {A:Around} {E:Value->Shared->Prop}
def sF {b:Bool} {Q:Value->Shared->Prop} (I:5#0) (e:H a=some (.ins C dx fs)) (c:tG X.K C) (n:NoAttr X.K C f) (l:fs.lookup f=some v)
  (h:∀u s',aV X pins σ H s'->bF v u->Q u s'):wpAny 4#0 A (getAttr (.ref a) f b) Q E s:=by
 let (mA,O,r,_,_,_):=pW I.hok e
 let (u,i,d):=jF.some_of (v:=v) (o:=mA f) (by rw [<- l];exact r f)
 exact Xg I.kIn O (c.get f) c.hd n i (Jb d) (h u _ (I.tok _) d)
def lS {m:Str} {g:Addr} {Q:Value × List Value->Shared->Prop} (I:5#0) (e:H a=some (.ins C dx fs)) (c:tG X.K C) (k:Aj X.K C m g) (l:fs.lookup m=none)
  (h:Q (.ref g,[.ref a]) s):wpAny 4#0 A (getMethod (.ref a) m pl) Q E s:=by
 let (mA,O,r,_,_,_):=pW I.hok e
 let d:mA m=none:=jF.none_of (by rw [<- l];exact r m)
 exact Qy I.kIn O (c.get m) k.at_ k.fn d h
def rA {y:V} (I:5#0) (e:H a=some (.ins C dx fs)) (c:tG X.K C) (n:NoAttr X.K C f) (M:fs.length<1000) (F:bF y u)
  (h:∀s',aV X pins σ (upd H a (.ins C dx (cZ f y fs))) s'->Q () s'):wpAny 4#0 A (setAttr (.ref a) f u) Q E s:=by
 let (mA,O,r,j,_,i):=pW I.hok e;let J:(fs.map (·.1)).length<=sizeLine:=by rw [g7,sizeLine_eq];omega
 refine Uw I.kIn O c.sa c.po n.taker c.hd j J λh' d G=>h _ ?_;let D:∃o,h'.get? dx=some o:=let ⟨o,_,_,e',_⟩:=d.ns;{(o),e'};refine I.write (x:=a) (e:=dx) (by rw [e];exact E2) (.inr i) (λb q B z=>(G.2 b B).trans z) D ?_;refine {by rw [aC O.ne];exact i,?_,O.ne,d.obj,_,d.ns,λg=>?_,λg L=>?_}
 ·have:=oW f y fs;omega
 ·show jF ((cZ f y fs).lookup g) (if g=f then some u else mA g);rw [dW];by_cases q:g=f
  ·rw [if_pos q,if_pos q];exact F
  ·rw [if_neg q,if_neg q];exact r g
 ·by_cases q:g=f
  ·rw [q];exact(oJ f y fs).1
  ·refine(oJ f y fs).2 g (j g λz=>L ?_);show (if g=f then some u else mA g)=none;rw [if_neg q];exact z
def aV.made (I:5#0):aV X pins σ (upd (upd H s.heap.objs.size (.own 16#0)) 16#0 (.ins C s.heap.objs.size []))
  { s with heap:=(s.heap.push PySem.W.emptyDict).push (PySem.W.instObj C s.heap.objs.size) }:=by
 let i:(s.heap.push PySem.W.emptyDict).get? s.heap.objs.size=some PySem.W.emptyDict:=j3 s.heap rfl;let D:((s.heap.push PySem.W.emptyDict).push (PySem.W.instObj C s.heap.objs.size)).get? 16#0=some (PySem.W.instObj C s.heap.objs.size):=by
  have:=j3 (s.heap.push PySem.W.emptyDict) (o:=PySem.W.instObj C s.heap.objs.size) rfl;rwa [M3] at this
 let B:(s.heap.push PySem.W.emptyDict).Ns s.heap.objs.size (λ_=>none):={PySem.W.emptyDict,#[],_,i,ρ,(λe j=>absurd j 9#0),λ_=>rfl};let n:=I.laid (a:=s.heap.objs.size) (o:=.own 16#0) (h':=s.heap.push PySem.W.emptyDict) (t':=s.toks) (λb u q=>g8 _ q) (g9 _) {_,i};refine n.laid (a:=s.heap.objs.size+1) (o:=.ins C s.heap.objs.size []) (t':=s.toks) (λb u q=>g8 _ q) (D6 (M3 _ _)) ?_;let d:s.heap.objs.size≠s.heap.objs.size+1:=j9 (Q5 _);refine {by rw [aC d,aB],i9 _,d,D,λ_=>none,(Heap.Ns1.of_empty B).at λo q=>g8 _ q,λ_=>E2,λy z=>absurd rfl z}
def Xw {prog:Program} {w:World} {env:Env} {f:Str} {s:Shared} {Q:Value->Shared->Prop} (i:attributeBase e f env (eval e env)=eval e env)
  (h:wpAny 7#0 A (eval e env) (λo d=>wpAny 7#0 A (getAttr o f true) Q E d) E s):wpAny 7#0 A (eval (.Attribute e f pos) env) Q E s:=
 Attribute_any_ h (by rw [arm_eval_Attribute,i])
end
inductive FL (K:PySem.W.Frag) (f:Str) (x:V) (H1:Hp) (Q:VK):Prop|mk (a:_) (C:_) (dx:_) (fs:_) (v:_) (_:x=.ref a) (_:H1 a=some (.ins C dx fs)) (_:tG K C) (_:NoAttr K C f) (_:fs.lookup f=some v) (_:Q v H1)
def Ud (K:PySem.W.Frag) (ta:TE) (f:Str):TE:=λσ H Q=>ta σ H λx H1=>FL K f x H1 Q
inductive FM (K:PySem.W.Frag) (f:Str) (D:dH) (σ:St) (y x:V) (H2:Hp):Prop|mk (a:_) (C:_) (dx:_) (fs:_) (_:x=.ref a) (_:H2 a=some (.ins C dx fs)) (_:tG K C) (_:NoAttr K C f) (_:fs.length<1000) (_:D.nx σ (upd H2 a (.ins C dx (cZ f y fs))))
def KR (K:PySem.W.Frag) (ta tv:TE) (f:Str):TS:=λD σ H=>tv σ H λy H1=>ta σ H1 λx H2=>FM K f D σ y x H2
def JS (X:Cx) (op:Operator) (rd:V->V->Hp->VK->Prop):Prop:=
 ∀(pins:List 10#0) (s:Shared) (σ:St) (H:Hp) (x y:V) (u v:Value) (Q:VK),aV X pins σ H s->bF x u->bF y v->rd x y H Q->wpAny 4#0 X.A (inplaceOp op u v) 44#0 X.xe s
def Vf (K:PySem.W.Frag) (ta tv:TE) (rd:V->V->Hp->VK->Prop) (f:Str):TS:=λD σ H=>ta σ H λx H1=>∃a C dx fs v,x=.ref a/\H1 a=some (.ins C dx fs)/\tG K C/\NoAttr K C f/\fs.lookup f=some v /\
 tv σ H1 λy H2=>rd v y H2 λz H3=>∃dx' fs',H3 a=some (.ins C dx' fs')/\fs'.length<1000/\D.nx σ (upd H3 a (.ins C dx' (cZ f z fs')))
section
variable {X:Cx} {o e value:Expr} {f:Str} {pos pos' tpos:Pos} {ta tv:TE}
def cM (he:PE X e ta) (hb:attributeBase e f X.env (eval e X.env)=eval e X.env):PE X (.Attribute e f pos) (Ud X.K ta f):=by
 intro pins s σ H Q I h;refine Xw hb (eP (he s σ H _ I h) λu s1 x H1 I1 rx hUp=>?_);let (a,C,dx,fs,v,ex,ea,c,n,l,q):=hUp;subst ex;obtain rfl:u=Value.ref a:=rx;exact sF I1 ea c n l λu' s2 I2 ru=>{(v),H1,I2,ru,q}
def cY (ha:PE X o ta) (hv:PE X value tv) (hs:swapsWith value (some (.Attribute o f pos')) pos.line X.env=pure false):PS X (.Assign [.Attribute o f pos'] value pos) (KR X.K ta tv f):=by
 intro pins s σ H D I h;refine plainObj_wpAny_Assign_Attribute (eP (hv s σ H _ I h) λu s1 y H1 I1 ry q=>eP (ha s1 σ H1 _ I1 q) λov s2 x H2 I2 rx hUp=>?_) hs;let (a,C,dx,fs,ex,ea,c,n,l,q2):=hUp;subst ex;obtain rfl:ov=Value.ref a:=rx;exact rA I2 ea c n l ry λs3 I3=>{σ,_,I3,q2}
def uK {op:Operator} {rd:V->V->Hp->VK->Prop} (ha:PE X o ta) (hv:PE X value tv) (hop:JS X op rd):PS X (.AugAssign (.Attribute o f tpos) op value pos) (Vf X.K ta tv rd f):=by
 intro pins s σ H D I h;refine wpAny_AugAssign_AttributeAny (eP (ha s σ H _ I h) λov s1 x H1 I1 rx hUp=>?_);let (a,C,dx,fs,v,ex,ea,c,n,l,q):=hUp;subst ex;obtain rfl:ov=Value.ref a:=rx;refine sF I1 ea c n l λu s2 I2 ru=>eP (hv s2 σ H1 _ I2 q) λw3 s3 y H2 I3 ry q3=>eP (hop pins s3 σ H2 v y u w3 _ I3 ru ry q3) λw4 s4 z H3 I4 rz hUp=>?_;let (dx',fs',ea',l',q4):=hUp;exact rA I4 ea' c n l' rz λs5 I5=>{σ,_,I5,q4}
def LB:V->V->Hp->VK->Prop:=λx y H Q=>∃i j,x=.int i/\y=.int j/\Q (.int (i+j)) H
def Qr:JS X .Add LB:=by
 rintro pins s σ H x y u v Q I n z ⟨i,j,rfl,rfl,q⟩;let (t,rfl):=(show ∃t,u=Value.int i t from n);let (d,rfl):=(show ∃d,v=Value.int j d from z);exact PyProof.Rows.iadd_int {.int (i+j),H,I.tok _,{_,ρ},q}
end
section
variable {X:Cx} {pins:List (Addr × Obj)} {σ:St} {H:Hp} {s:Shared} {A:Around} {E:Value->Shared->Prop} {Q:Value->Shared->Prop} {c:Value} {b:Bool}
inductive kH (K:PySem.W.Frag) (H:Hp):V->Value->Prop where
 | non:kH K H .non (.type "NoneType")
 | bl (x:Bool):kH K H (.bl x) (.type "bool")
 | int (i:Int):kH K H (.int i) (.type "int")
 | str (x:Str):kH K H (.str x) (.type "str")
 | flt (x:UInt64):kH K H (.flt x) (.type "float")
 | lst {a:Addr} {xs:List V} (e:H a=some (.lst xs)):kH K H (.ref a) (.type "list")
 | frz {a:Addr} {o:Obj} {xs:List V} (e:H a=some (.frz o (.lst xs))):kH K H (.ref a) (.type "list")
 | tup {a:Addr} {xs:List V} (e:H a=some (.tup xs)):kH K H (.ref a) (.type "tuple")
 | dK {a:Addr} {kvs:List (bJ × V)} (e:H a=some 45#0):kH K H (.ref a) (.type "dict")
 | dT {a:Addr} {kvs:List (List bJ × V)} (e:H a=some (.dT kvs)):kH K H (.ref a) (.type "dict")
 | ins {a C dx:Addr} {fs:List (Str × V)} (e:H a=some (.ins C dx fs)) (cl:tG K C) (ha:PySem.W.findIn K (.ref C) "__class__"=some (some (.builtin "object.__class__")))
   (hn:PySem.W.specialIn K (.builtin "object.__class__") "__get__"=some (some (.builtin "getset_descriptor.__get__"))) (htk:PySem.W.takesIn K (.builtin "object.__class__")=some true)
   (hm:PySem.W.mroIn K C (.type "object")=some true):kH K H (.ref a) (.ref C)
def Iy {x:V} {t:Value} (I:5#0) (d:bF x u) (B:kH X.K H x t) (e:PySem.W.kitOne X.K t c=some b) (h:∀tk,Q (.bool b) { s with toks:=tk }):
  wpAny 4#0 A (call (.builtin "isinstance") [u,c]) Q E s:=by
 cases B with
 | non=>cases (show u=Value.none from d);exact PySem.W.kia_one PySem.W.kitx_none I.kIn E2 e 20#0 h
 | bl y=>cases (show u=Value.bool y from d);exact PySem.W.kia_one PySem.W.kitx_bool I.kIn E2 e 20#0 h
 | int i=>let (t,q):=(show ∃t,u=Value.int i t from d);cases q;exact PySem.W.kia_one PySem.W.kitx_int I.kIn E2 e 20#0 h
 | str y=>let (t,q):=(show ∃t,u=Value.str y t from d);cases q;exact PySem.W.kia_one PySem.W.kitx_str I.kIn E2 e 20#0 h
 | flt y=>let (t,q):=(show ∃t,u=Value.float y t from d);cases q;exact PySem.W.kia_one PySem.W.kitx_float I.kIn E2 e 20#0 h
 | @lst a xs ea=>
  cases (show u=Value.ref a from d);let (_,_,n,_,h1):=(show bL X.prog X.w H s.heap a (.lst xs) from I.hok a _ ea);exact PySem.W.kia_one PySem.W.kitx_list I.kIn {_,h1,ρ} e 20#0 h
 | @frz a ob xs ea=>
  cases (show u=Value.ref a from d);let (_,_,_,n,_,h1):=(show bL X.prog X.w H s.heap a (.frz ob (.lst xs)) from I.hok a _ ea);exact PySem.W.kia_one PySem.W.kitx_list I.kIn {_,h1,ρ} e 20#0 h
 | @tup a xs ea=>
  cases (show u=Value.ref a from d);let (_,_,_,p):=(show bL X.prog X.w H s.heap a (.tup xs) from I.hok a _ ea);let (o,h1,h2,_):=p;exact PySem.W.kia_one PySem.W.kitx_tuple I.kIn {(o),h1,h2} e 20#0 h
 | @dK a kvs ea=>
  cases (show u=Value.ref a from d);let (_,_,F,_,p):=(show bL X.prog X.w H s.heap a 45#0 from I.hok a _ ea);let (o,es,j,h1,h2,_):=p;exact PySem.W.kia_one PySem.W.kitx_dict I.kIn {(o),h1,h2.1} e 20#0 h
 | @dT a kvs ea=>
  cases (show u=Value.ref a from d);let (_,_,xs,_,o,es,j,h1,h2,_):=(show bL X.prog X.w H s.heap a (.dT kvs) from I.hok a _ ea);exact PySem.W.kia_one PySem.W.kitx_dict I.kIn {(o),h1,h2.1} e 20#0 h
 | @ins a C dx fs ea cl ha hn htk hm=>
  cases (show u=Value.ref a from d);let (mA,O,_):=pW I.hok ea;let (D,J,_):=O.look;exact PySem.W.kia_one (PySem.W.kitx_own (cl.get _) cl.hd ha hn htk hm) I.kIn J e 20#0 h
end
structure Room (k:Nat) (A:Around):Prop where
 hd:A.handled=none
 dp:A.depth+3 * k+5<recursionLimit
 un:A.units+16 * k+200<cLine
def Room.mono {j:Nat} {A:Around} (r:Room k A) (h:j<=k):Room j A:=⟨r.hd,by have:=r.dp;omega,by have:=r.un;omega⟩
theorem Room.deeper {k:Nat} {A:Around} (r:Room (k+1) A) (env:Env):Room k (A.deeper env):=
 ⟨r.hd,by have:=r.dp;show A.depth+1+3 * k+5<_;omega,by have:=r.un;show A.units+3+16 * k+200<_;omega⟩
theorem Room.in1 {k:Nat} {A:Around} (r:Room (k+1) A):Room k A.in1:=
 ⟨r.hd,by have:=r.dp;show A.depth+3 * k+5<_;omega,by have:=r.un;show A.units+1+16 * k+200<_;omega⟩
def Cm {A:Around}:(A.under (.builtin "type.__call__" {.ref C::us,kw})).depth=A.depth+1:=by
 first|rfl|simp [Around.under,Code.weight,Code.isCreation,Code.isGuard,Code.isCaller,Code.frames,Code.isFrame,guardIds]
def Ck {A:Around}:(A.under (.builtin "type.__call__" {.ref C::us,kw})).units=A.units+1:=by
 first|rfl|simp [Around.under,Code.cUnits,Code.frames,Code.isFrame]
def Room.make {A:Around} (r:Room (k+1) A) (C:Addr) (us:List Value) (kw:List (Str × Value)):Room k (A.under (.builtin "type.__call__" {.ref C::us,kw})):=
 ⟨r.hd,by have:=r.dp;rw [Cm];omega,by have:=r.un;rw [Ck];omega⟩
theorem Room.depth {k:Nat} {A:Around} (r:Room k A):A.depth<recursionLimit:=by have:=r.dp;omega
theorem Room.units {k:Nat} {A:Around} (r:Room k A):A.units+64<cLine:=by have:=r.un;omega
def mG:TA:=λ_ H Q=>Q [] H
def iE (ta:TE) (tr:TA):TA:=λσ H Q=>ta σ H λx H1=>tr σ H1 λxs H2=>Q (x::xs) H2
section
variable {X:Cx} {e:Expr} {es:List Expr} {te:TE} {t:TA} {pos:Pos}
def aF:PA X [] mG:=λ_ _ _ _ H Q I h=>Calls.spliced_nil {[],H,I,.nil,h}
def aA (y:PE X e te) (D:PA X es t) (q:starEach (e::es) X.env=37#0::starEach es X.env:=by rfl):PA X (e::es) (iE te t):=by
 intro pos pins s σ H Q I h;rw [q];show wpAny _ _ (spliced (37#0::backTo pos 40#0)) _ _ s;refine S9 (eP (y s σ H _ I h) λu i x H1 j n d=>?_);exact vM (D pins i σ H1 _ j d) λG J xs H2 B z F=>{x::xs,H2,B,.cons n z,F}
def AY (t:TA):TE:=λσ H Q=>t σ H λxs H1=>xs.length<=sizeLine/\∀p,H1 p=none->Q 49#0 (upd H1 p (.tup xs))
def HA (t:TA):TE:=λσ H Q=>t σ H λxs H1=>xs.length<=sizeLine/\∀p,H1 p=none->Q 49#0 (upd H1 p (.lst xs))
def bY {x1} (h:PA X es t):PE X (.Tuple es x1 pos) (AY t):=by
 intro pins s σ H Q I n;refine wpAny_Tuple_spliced (vM (h pins s σ H _ I n) λy d xs H1 i r ⟨z,q⟩=>{by rw [<- r.length];exact z,?_});let j:H1 d.heap.objs.size=none:=i.hok.fresh (g9 _);refine {.ref d.heap.objs.size,upd H1 d.heap.objs.size (.tup xs),i.laid (t':=d.toks) (λb u e=>g8 _ e) (g9 _) ?_,ρ,q _ j};exact {z,y,r,{_,j3 _ rfl,ρ,_,ρ}}
def fB (h:PA X es t):PE X (.List es pos) (HA t):=by
 intro pins s σ H Q I n;refine wpAny_List_spliced (vM (h pins s σ H _ I n) λy d xs H1 i r ⟨z,q⟩=>{by rw [<- r.length];exact z,?_});let j:H1 d.heap.objs.size=none:=i.hok.fresh (g9 _);refine {.ref d.heap.objs.size,upd H1 d.heap.objs.size (.lst xs),i.laid (t':=d.toks) (λb u e=>g8 _ e) (g9 _) ?_,ρ,q _ j};exact {z,y,0,r,j3 _ rfl}
end
abbrev Sp:=List V->Hp->VK->XK->Prop
abbrev pE:=List Env->Hp->Shared->XK->Value->Shared->Prop
structure tD (P:Program) (w:World) (K:PySem.W.Frag) (mg:Str->Option Value) (base:Heap) (A:Around) (outer:List Env) (s:Shared) (H:Hp):Prop where
 frames:A.frames=some outer
 mod:Mod K mg base
 bs:∀b o,base.get? b=some o->s.heap.get? b=some o/\H b=none
 bsz:base.objs.size<=s.heap.objs.size
 funs:s.heap.FunFrames base outer
 frf:∀b ∈ lW outer,H b=none
 hok:lL P w H s.heap
 bare:AllBare s.gens
def CE (outer:List Env) (P:Program) (w:World) (H:Hp) (s:Shared) (Q:VK) (u:Value) (s':Shared):Prop:=
 ∃v H',s'.os=s.os/\AllBare s'.gens/\Un (lW outer) [] H H' s.heap s'.heap/\lL P w H' s'.heap/\bF v u/\Q v H'
def CR (CX:pE) (outer:List Env) (P:Program) (w:World) (H:Hp) (s:Shared) (Q:VK) (E:XK) (r:Result) (s':Shared):Prop:=
 match r with
 | .ok (.ret u)=>CE outer P w H s Q u s'
 | .ok _=>False
 | .error e=>CX outer H s E e s'
structure bN (P:Program) (w:World) (K:PySem.W.Frag) (mg:Str->Option Value) (base:Heap) (CX:pE) (k:Nat) (f:Addr) (fd:FuncData) (ps:List Str) (sp:Sp):Prop where
 len:∀vs H Q E,sp vs H Q E->vs.length=ps.length
 run:∀(A:Around) (outer:List Env) (s:Shared) (H:Hp) (args:Args) (us:List Value) (vs:List V) (Q:VK) (E:XK),Room k A->tD P w K mg base A outer s H->BindsTo s fd args (ps.zip us)->bA vs us->sp vs H Q E ->
  codeAny (model P w) A (.call 59#0 args) (CR CX outer P w H s Q E) s
theorem bN.mono {P:Program} {w:World} {K:PySem.W.Frag} {mg:Str->Option Value} {base:Heap} {CX:pE} {j k:Nat} {f:Addr} {fd:FuncData} {ps:List Str} {sp:Sp} (F:bN P w K mg base CX j f fd ps sp) (h:j<=k):
  bN P w K mg base CX k f fd ps sp:={F.len,λA d s H i y n Q E q=>F.run A d s H i y n Q E (q.mono h)}
def bN.imp {w:World} {K:PySem.W.Frag} {mg:Str->Option Value} {base:Heap} {CX:pE} {f:Addr} {fd:FuncData} {sp sp':Sp} (F:bN P w K mg base CX k f fd ps sp)
  (h:∀i H Q E,sp' i H Q E->sp i H Q E):bN P w K mg base CX k f fd ps sp':=
 {λi H Q E q=>F.len i H Q E (h _ _ _ _ q),λA d s H j G i Q E D y n B z=>F.run A d s H j G i Q E D y n B (h _ _ _ _ z)}
def tD.make {w:World} {K:PySem.W.Frag} {mg:Str->Option Value} {base:Heap} {A:Around} {outer:List Env} (e:tD P w K mg base A outer s H) (C:Addr) (us:List Value) (kw:List (Str × Value)):
  tD P w K mg base (A.under (.builtin "type.__call__" {.ref C::us,kw})) outer s H:=⟨by first|exact e.frames|(simpa [Around.under,Code.envs,Code.isFrame,pushEnvs] using e.frames),e.mod,e.bs,e.bsz,e.funs,e.frf,e.hok,e.bare⟩
section
variable {X:Cx} {pins:List (Addr × Obj)} {σ:St} {H:Hp} {s s':Shared}
def aV.env0 (I:5#0):tD X.prog X.w X.K X.mg X.base X.A X.stack s H:=
 {I.ok.frames,I.ok.mod,I.bs,u8 I.ok.bsz I.sz,I.stack,I.stkFree,I.hok,I.bare}
def aV.after {Q:VK} (I:5#0) (h:CE X.stack X.prog X.w H s Q u s'):EP X pins σ Q u s':=by
 let (v,H',y,i,B,n,r,q):=h;let (D,g,d,t,j):=s';obtain rfl:j=s.os:=y;exact {v,H',I.call (h':=D) (g':=g) (d':=d) (t':=t) (ch:=[]) B n i (λb z=>absurd z 9#0),r,q}
end
def xG (sp:Sp) (dvs:List V) (E:XK) (t:TA):TE:=λσ H Q=>t σ H λvs H1=>sp (vs++dvs) H1 Q E
inductive Yy (C:Addr) (m:Str) (sp:Sp) (dvs:List V) (E:XK) (t:TA) (σ:St) (Q:VK) (x:V) (H1:Hp):Prop|mk (a:_) (dx:_) (fs:_) (_:x=.ref a) (_:H1 a=some (.ins C dx fs)) (_:fs.lookup m=none) (_:t σ H1 λvs H2=>sp (x::(vs++dvs)) H2 Q E)
def qW (C:Addr) (m:Str) (sp:Sp) (dvs:List V) (E:XK) (ta:TE) (t:TA):TE:=λσ H Q=>ta σ H λx H1=>Yy C m sp dvs E t σ Q x H1
def GZ (C:Addr) (sp:Sp) (dvs:List V) (E:XK) (t:TA):TE:=λσ H Q=>t σ H λvs H1=>∀x dx,H1 x=none->H1 dx=none->dx≠x ->
 sp (.ref x::(vs++dvs)) (upd (upd H1 dx (.own x)) x (.ins C dx [])) (λv H2=>v=.non/\Q (.ref x) H2) E
def eV (K:PySem.W.Frag) (fd:FuncData) (ps:List Str) (ds:List Value):Prop:=
 ∀(s:Shared) (us:List Value),K.In s.heap->(us++ds).length=ps.length->BindsTo s fd ⟨us,[]⟩ (ps.zip (us++ds))
def eV.all {K:PySem.W.Frag} {fd:FuncData} (h:∀d:List Value,d.length=ps.length->bindArgs fd {d,[]}=pure (ps.zip d)):eV K fd ps []:=λs d _ i=>by
 rw [F0] at i ⊢
 exact .of_eq (h d i)
def eS (CX:pE) (X:Cx) (E:XK):Prop:=∀(pins:List 10#0) (σ:St) (H:Hp) (s:Shared) (e:Value) (s':Shared),aV X pins σ H s->CX X.stack H s E e s'->X.xe e s'
section
variable {X:Cx} {CX:pE} {k:Nat} {f C:Addr} {fd:FuncData} {ps:List Str} {sp:Sp} {dvs:List V} {ds:List Value} {E:XK} {x m:Str} {p pos apos:Pos} {e o:Expr} {es:List Expr} {ta:TE} {t:TA}
def Bo {Q:VK} (F:34#0) (y:Room k X.A) (j:eV X.K fd ps ds) (hd:bA dvs ds) (q:eS CX X E)
  (I:5#0) (r:bA vs us) (h:sp (vs++dvs) H Q E):wpAny 4#0 X.A (call 59#0 us) 44#0 X.xe s:=by
 let i:bA (vs++dvs) (us++ds):=r.append hd
 let n:(us++ds).length=ps.length:=by rw [<- i.length];exact F.len _ _ _ _ h
 refine M9 (G7 (F.run X.A X.stack s H {us,[]} (us++ds) (vs++dvs) Q E y I.env0 (j s us I.kIn n) i h) λr s' d=>?_);cases r with
 | error e=>exact q pins σ H s e s' I d
 | ok fl=>
  cases fl with
  | ret u=>exact I.after d
  | next=>exact False.elim d
  | brk=>exact False.elim d
  | cont=>exact False.elim d
def Vy (F:34#0) (J:Room k X.A) (G:Gl X x) (z:X.mg x=some 59#0) (L:PySem.W.keepIn X.K 59#0=true) (n:eV X.K fd ps ds) (hd:bA dvs ds) (B:eS CX X E)
  (D:PA X (e::es) t) (i:27#0=false:=by decide) (y:starEach (e::es) X.env=37#0::starEach es X.env:=by rfl) (d:(backTo pos 40#0).any (·.1)=false:=by rfl):
  PE X (.Call (.Name x p) (e::es) [] pos) (xG sp dvs E t):=by
 intro pins s σ H Q I h;refine D7 (kU I G z ?_ i);refine PySem.W.callWith_K (h₀:=X.base) I.ok.mod.kin L (vM (D pins s σ H _ I h) λO M N H1 j r q=>{j.kIn,?_}) y d;exact Bo F J n hd B j r q
def Vw (he:PE X o ta) (c:tG X.K C) (hm:Aj X.K C m f) (F:34#0) (hr:Room k X.A) (hb:eV X.K fd ps ds) (hd:bA dvs ds) (hx:eS CX X E) (ha:PA X (e::es) t)
  (hst:starEach (e::es) X.env=37#0::starEach es X.env:=by rfl) (hpl:(backTo pos 40#0).any (·.1)=false:=by rfl)
  (ht:eval 28#0 X.env=(do
   let ov <- eval o X.env
   standAt apos.atName
   let (f,first) <- holding [ov] (getMethod ov m pl)
   callWith pos f first (backTo pos (starEach (e::es) X.env)) (backToKw pos (keywordEach [] X.env))):=by rfl):
  PE X 28#0 (qW C m sp dvs E ta t):=by
 intro pins s σ H Q I h;refine PySem.W.methodCall_KW (pl:=pl) (eP (he s σ H _ I h) λu s1 x H1 I1 rx hUp=>?_) ht;let (a,dx,fs,ex,ea,l,q):=hUp;subst ex;obtain rfl:u=Value.ref a:=rx;refine lS I1 ea c hm l ?_;refine PySem.W.callWith_K (first:=[.ref a]) (h₀:=X.base) I.ok.mod.kin hm.kp (vM (ha pins s1 σ H1 _ I1 q) λus s2 vs H2 I2 r q2=>{I2.kIn,?_}) hst hpl
 exact Bo (us:=.ref a::us) (vs:=.ref a::vs) F hr hb hd hx I2 (.cons rfl r) q2
def yH (he:PE X o ta) (c:tG X.K C) (hm:Aj X.K C m f) (F:34#0) (hr:Room k X.A) (hb:eV X.K fd ps ds) (hd:bA dvs ds) (hx:eS CX X E)
  (ht:eval (.Call (.Attribute o m apos) [] [] pos) X.env=(do
   let ov <- eval o X.env
   standAt apos.atName
   let (f,first) <- holding [ov] (getMethod ov m pl)
   callWith pos f first (backTo pos (starEach [] X.env)) (backToKw pos (keywordEach [] X.env))):=by rfl):
  PE X (.Call (.Attribute o m apos) [] [] pos) (qW C m sp dvs E ta mG):=by
 intro pins s σ H Q I h;refine PySem.W.methodCall_KW (pl:=pl) (eP (he s σ H _ I h) λu s1 x H1 I1 rx hUp=>?_) ht;let (a,dx,fs,ex,ea,l,q):=hUp;subst ex;obtain rfl:u=Value.ref a:=rx;refine lS I1 ea c hm l ?_;exact PySem.W.callWith_K0 (first:=[.ref a]) I1.kIn hm.kp (Bo (us:=[.ref a]) (vs:=[.ref a]) F hr hb hd hx I1 (.cons rfl .nil) q)
structure Mk (K:PySem.W.Frag) (C f:Addr):Prop where
 makes:PySem.W.makesIn K C=true
 init:PySem.W.findIn K (.ref C) "__init__"=some (some 59#0)
 fn:PySem.W.isFn K 59#0=true
 kp:PySem.W.keepIn K (.ref C)=true
def Nn {Q:VK} (M:Mk X.K C f) (F:34#0) (L:Room (k+1) X.A) (q:eV X.K fd ps ds) (hd:bA dvs ds)
  (z:eS CX X E) (I:5#0) (r:bA vs us)
  (h:∀x dx,H x=none->H dx=none->dx≠x->sp (.ref x::(vs++dvs)) (upd (upd H dx (.own x)) x (.ins C dx [])) (λv H2=>v=.non/\Q (.ref x) H2) E):
  wpAny 4#0 X.A (call (.ref C) us) 44#0 X.xe s:=by
 let j:=h 16#0 s.heap.objs.size (I.hok.fresh (L3 _)) (I.hok.fresh (g9 _)) (j9 (Q5 _));let i:=aV.made (C:=C) I;let n:bA (V.ref 16#0::(vs++dvs)) (Value.ref 16#0::(us++ds)):=.cons rfl (r.append hd);let y:(Value.ref 16#0::us++ds).length=ps.length:=by
  let e:=n.length;rw [F.len _ _ _ _ j] at e;exact e.symm
 refine M9 (Qe (f:=f) I.kIn M.makes M.init (beq_iff_eq.mp M.fn) (G7 (F.run _ X.stack _ _ {Value.ref 16#0::us,[]} (Value.ref 16#0::(us++ds)) _ _ E (L.make C us [])
  (i.env0.make C us []) (q _ (Value.ref 16#0::us) i.kIn y) n j) λr s' d=>?_));cases r with
 | error e=>exact z pins σ _ _ e s' i d
 | ok fl=>
  cases fl with
  | ret u=>
   let (v,H',J,B,D,G):=i.after d;subst D;exact {B,{V.ref 16#0,H',J,ρ,G}}
  | next=>exact False.elim d
  | brk=>exact False.elim d
  | cont=>exact False.elim d
def pU (M:Mk X.K C f) (F:34#0) (J:Room (k+1) X.A) (G:Gl X x) (z:X.mg x=some (.ref C)) (n:eV X.K fd ps ds) (hd:bA dvs ds) (B:eS CX X E)
  (D:PA X (e::es) t) (i:27#0=false:=by decide) (y:starEach (e::es) X.env=37#0::starEach es X.env:=by rfl) (d:(backTo pos 40#0).any (·.1)=false:=by rfl):
  PE X (.Call (.Name x p) (e::es) [] pos) (GZ C sp dvs E t):=by
 intro pins s σ H Q I h;refine D7 (kU I G z ?_ i);refine PySem.W.callWith_K (h₀:=X.base) I.ok.mod.kin M.kp (vM (D pins s σ H _ I h) λO L N H1 j r q=>{j.kIn,?_}) y d;exact Nn M F J n hd B j r q
end
def PK (X:Cx) (kws:List Keyword) (t:TA):Prop:=
 ∀(pos:Pos) (pins:List 10#0) (s:Shared) (σ:St) (H:Hp) (Q:List V->Hp->Prop),aV X pins σ H s->t σ H Q->wpAny 4#0 X.A (evalAll ((backToKw pos (keywordEach kws X.env)).map (·.2))) (AP X pins σ Q) X.xe s
section
variable {X:Cx} {CX:pE} {k:Nat} {f C:Addr} {fd:FuncData} {ps ks:List Str} {sp:Sp} {E:XK} {x m:Str} {p pos apos kpos:Pos} {e o:Expr} {es:List Expr} {kws:List Keyword} {te ta:TE} {t tk:TA} {nm:Option Str}
def wH:PK X [] mG:=λ_ _ _ _ H Q I h=>wpAny_evalAll_nil {[],H,I,.nil,h}
def pP (q:PE X e te) (B:PK X kws t):PK X ({(nm),e,kpos}::kws) (iE te t):=by
 intro pos pins s σ H Q I h;show wpAny _ _ (evalAll ((do let v <- eval e X.env;standAt pos;pure v)::(backToKw pos (keywordEach kws X.env)).map (·.2))) _ _ s;refine wpAny_evalAll_cons (d0 (eP (q s σ H _ I h) λu i x H1 j n d=>d0 (N5 51#0)));exact vM (B pos pins i σ H1 _ j d) λF G xs H2 z y D=>{x::xs,H2,z,.cons n y,D}
variable {g:List Value->List Value->List Value} {gV:List V->List V->List V}
end
structure aL (N P:List Str) (sc:Scope):Prop where
 kind:sc.kind=.function
 co:sc.isCoroutine=false
 gen:sc.isGenerator=false
 nd:N.Nodup
 pre:N.take P.length=P
 par:∀x ∈ P,sc.names.lookup x=some .local\/sc.names.lookup x=some .cell
 nofree:∀y ∈ sc.names,y.2≠.free
theorem vE {i:Str->Option NameKind} {x:Str}:∀{d:List (Str × Value)} {m:Str->Option Value},(∀v,(x,v) ∉ d)->bindL i d m x=m x
 | [],_,_=>rfl
 | (n,v)::r,m,h=>by
  unfold bindL
  rw [vE λw j=>h w (g6 _ j)]
  split
  ·have:x≠n:=by rintro rfl;exact h v i4
   simp [this]
  ·rfl
theorem vG {i:Str->Option NameKind} {x:Str}:∀{d:List (Str × Value)} {m:Str->Option Value},(∀v,(x,v) ∉ d)->bindC i d m x=m x
 | [],_,_=>rfl
 | (n,v)::r,m,h=>by
  unfold bindC
  rw [vG λw j=>h w (g6 _ j)]
  split
  ·rfl
  ·have:x≠n:=by rintro rfl;exact h v i4
   simp [this]
theorem vF {d:Str->Option NameKind} {x:Str} {v:Value}:∀{P:List Str} {vs:List Value} {i:Nat} {m:Str->Option Value},P.Nodup->P[i]?=some x->vs[i]?=some v->d x=some .local ->
  bindL d (P.zip vs) m x=some v
 | [],_,_,_,_,h,_,_=>by simp at h
 | _::_,[],_,_,_,_,h,_=>by simp at h
 | p::P,w::vs,0,m,nd,h1,h2,hk=>by
  simp at h1 h2;subst h1;subst h2
  show bindL d ((p,w)::P.zip vs) m p=_
  unfold bindL
  rw [vE λv j=>(A0.mp nd).1 (E4 j).1,if_pos hk]
  simp
 | p::P,w::vs,i+1,m,nd,h1,h2,hk=>by
  show bindL d ((p,w)::P.zip vs) m x=_
  unfold bindL
  exact vF (i:=i) (A0.mp nd).2 (by simpa using h1) (by simpa using h2) hk
theorem vH {d:Str->Option NameKind} {x:Str} {v:Value}:∀{P:List Str} {vs:List Value} {i:Nat} {m:Str->Option Value},P.Nodup->P[i]?=some x->vs[i]?=some v->d x≠some .local ->
  bindC d (P.zip vs) m x=some v
 | [],_,_,_,_,h,_,_=>by simp at h
 | _::_,[],_,_,_,_,h,_=>by simp at h
 | p::P,w::vs,0,m,nd,h1,h2,hk=>by
  simp at h1 h2;subst h1;subst h2
  show bindC d ((p,w)::P.zip vs) m p=_
  unfold bindC
  rw [vG λv j=>(A0.mp nd).1 (E4 j).1,if_neg hk]
  simp
 | p::P,w::vs,i+1,m,nd,h1,h2,hk=>by
  show bindC d ((p,w)::P.zip vs) m x=_
  unfold bindC
  exact vH (i:=i) (A0.mp nd).2 (by simpa using h1) (by simpa using h2) hk
def dD (N:List Str) (vs:List V):St:=vs.map some++List.replicate (N.length-vs.length) none
def hX (CX:pE) (P:Program) (w:World) (K:PySem.W.Frag) (mg:Str->Option Value) (base:Heap) (N:List Str) (qual:Str) (scope:Scope) (f:Addr) (cd:Value) (A:Around) (outer:List Env) (s:Shared) (H:Hp) (E:XK):Cx where
 prog:=P
 w:=w
 K:=K
 mg:=mg
 base:=base
 A:=A.deeper (envOfC qual scope s.heap.objs.size f cd)
 N:=N
 s₀:=s
 H₀:=H
 env:=envOfC qual scope s.heap.objs.size f cd
 outer:=outer
 stack:=envOfC qual scope s.heap.objs.size f cd::outer
 ex:=[]
 calm:=true
 fn:=λ_=>true
 pn:=[]
 xe:=λe s'=>wpAny (model P w) (A.deeper (envOfC qual scope s.heap.objs.size f cd)) (leaving (envOfC qual scope s.heap.objs.size f cd) e) (λ_ s''=>CX outer H s E e s'') (λe' s''=>CX outer H s E e' s'') s'
def zU (h:d.names.lookup x=some .cell):∃c,(cellsFrom n d.names []).lookup x=some c:=by
 let q:=PySem.W.cellsFrom_some d.names n [] (.inl h);exact O5.mp q
def oM {CX:pE} {w:World} {K:PySem.W.Frag} {mg:Str->Option Value} {base:Heap} {N:List Str} {j:Str} {f:Addr} {G:Value} {A:Around} {outer:List Env} {I:Shared} {E:XK}
  (S:aL N ps d) (hd:A.handled=none) (B:tD P w K mg base A outer s H) (Y:vs.length=ps.length) (r:bA vs us)
  (x:InCallC s s.heap.objs.size (bindL (envOfC j d s.heap.objs.size f G).kindOf (ps.zip us) λ_=>none) (cellsFrom 16#0 d.names []) (bindC (envOfC j d s.heap.objs.size f G).kindOf (ps.zip us) λ_=>none) I):
  aV (hX CX P w K mg base N j d f G A outer s H E) [] (dD N vs) H I:=by
 let M:ps.length<=N.length:=by have:=congrArg List.length S.pre;rw [u6] at this;omega
 let (h1,tk,rfl,L):=x.done;let D:∀b:Addr,b ∉ (hX CX P w K mg base N j d f G A outer s H E).ex:=λb z=>absurd (show b ∈ ([]:List Addr) from z) 9#0;refine {{B.mod,S.kind,ρ,ρ,g9 _,λy z c h1 h2=>?_,λy hy=>?_,λy c _ h=>?_,λ_=>hd,Around.frames_deeper B.frames,.inr {(rfl),ρ},λb z=>absurd z (D b),B.bs,B.bsz,λb _ _=>D b,λb z=>absurd z (D b),B.funs,B.frf},
  rfl,B.bare,Un.kept L,{_,x.toInCall.ns,λi y v h1 h2 Z=>?_},λy c h=>{_,x.cell y c h},B.hok.fresh (g9 _),λy c h=>?_,λp F=>absurd (show p ∈ ([]:List 10#0) from F) 9#0,B.hok.kept L,?_}
 ·exact name_of_addr x.apart (PySem.mem_of_lookup h1) (PySem.mem_of_lookup h2)
 ·let hy:d.names.lookup y=some .cell\/d.names.lookup y=some .free:=hy;rcases hy with hy|hy
  ·exact zU hy
  ·exact absurd rfl (S.nofree _ (PySem.mem_of_lookup hy))
 ·exact C5 (x.above y c (PySem.mem_of_lookup h))
 ·let hi:i<vs.length:=by
   unfold dD at h2;by_cases hi:i<vs.length
   ·exact hi
   ·rw [C8 (by simpa using hi)] at h2;rw [List.getElem?_replicate] at h2;split at h2 <;> cases h2
  let U:vs[i]?=some v:=by
   unfold dD at h2;rw [B1 (by simpa using hi),j1] at h2;cases e:vs[i]? with
   | none=>rw [e] at h2;cases h2
   | some a=>rw [e] at h2;cases h2;rfl
  let (u,J,O):=r.get U;let F:ps[i]?=some y:=by
   rw [<- S.pre,y7 ∎];exact h1
  let JX:ps.Nodup:=by rw [<- S.pre];exact S.nd.sublist (List.take_sublist _ _)
  refine {u,O,?_};rcases S.par y (i5 F) with k|k
  ·exact .inl {k,vF JX F J k}
  ·let (c,e):=zU (n:=s.heap.objs.size+1) k;refine .inr {.inl k,c,e,?_};let q:=x.cell y c e;rw [vH JX F J (by show d.names.lookup y≠_;rw [k];decide)] at q;exact q
 ·exact B.hok.fresh (C5 (x.above y c (PySem.mem_of_lookup h)))
 ·unfold dD;show _=N.length;rw [j5,g7,D4];omega
def Ra {CX:pE} {w:World} {K:PySem.W.Frag} {mg:Str->Option Value} {base:Heap} {f:Addr} {name i:Str} {j:Arguments} {z:List Stmt} {dV kV O pm cdv ct oc:Value} {an od:Option Addr}
  {Z:Array (Option Value)} {N ps:List Str} {sp:Sp} (lk:K.lookup f=some {oc,od,.func (PySem.W.fnOf name i j z d dV kV O pm an cdv ct),Z}) (a1:PySem.W.codeIn K cdv i=true) (S:aL N ps d)
  (M:∀vs H Q E,sp vs H Q E->vs.length=ps.length)
  (B:∀(A:Around) (outer:List Env) (s:Shared) (H:Hp) (vs:List V) (Q:VK) (E:XK),Room k (A.deeper (envOfC i d s.heap.objs.size f cdv))->sp vs H Q E ->
   ∃t,pB (hX CX P w K mg base N i d f cdv A outer s H E) z t/\t { nx:=λ_ H'=>Q .non H',rt:=Q } (dD N vs) H):
  bN P w K mg base CX (k+1) f (PySem.W.fnOf name i j z d dV kV O pm an cdv ct) ps sp:=by
 refine {M,λA outer s H a2 us vs Q E hr U hb r L=>?_};let hl:=M _ _ _ _ L;let KX:K.In s.heap:=U.mod.kin.keeps λb o e=>(U.bs b o e).1;let a0:s.heap.NoLimit:=U.mod.nolimit.keeps λb o e=>(U.bs b o e).1;let D:∀y ∈ ps.zip us,d.names.lookup y.1=some .local\/(d.names.lookup y.1=some .cell/\((cellsFrom 16#0 d.names []).lookup y.1).isSome=true):=λ⟨n,v⟩ hy=>by
  rcases S.par n (E4 hy).1 with q|q
  ·exact .inl q
  ·exact .inr {q,PySem.W.cellsFrom_some _ _ _ (.inl q)}
 refine codeAny_call_function hr.depth (KX _ _ lk) rfl S.co S.gen rfl (PySem.W.codeRec_of KX a1) (hb _ _ _ _ ?_);refine N6 S.kind D λa3 he s1 x=>?_;subst he;refine {a0.keeps x.toInCall.keep,codeAny_func ?_};let (t,ht,hq):=B A outer s H vs Q E (hr.deeper _) L;let I:aV (hX CX P w K mg base N i d f cdv A outer s H E) [] (dD N vs) H s1:=oM S hr.hd U hl r x;refine y6 (ht s1 (dD N vs) H _ I hq) (λfl s' F=>?_) λe s' F=>F;let G:∀{Y:St} {H':Hp} {v:V} {u:Value},aV (hX CX P w K mg base N i d f cdv A outer s H E) [] Y H' s'->bF v u->Q v H'->CE outer P w H s Q u s':=
  λ{Y H' v u} J rv q=>{(v),H',J.os,J.bare,J.base,J.hok,rv,q}
 cases fl with
 | ret u=>
  let (v,Y,H',J,rv,q):=F;exact G J rv q
 | next=>
  let (Y,H',J,q):=F;exact G (v:=V.non) (u:=Value.none) J rfl q
 | brk=>
  let (_,_,_,q):=F;exact False.elim q
 | cont=>
  let (_,_,_,q):=F;exact False.elim q
section
variable {X:Cx} {x:Str} {p pos:Pos} {e:Expr} {es:List Expr} {t:TA} {id T:String} {r:List V->Hp->VK->Prop}
def HF (r:List V->Hp->VK->Prop) (t:TA):TE:=λσ H Q=>t σ H λvs H1=>r vs H1 Q
def bD (L:gP X (.builtin id) r) (M:Gl X x) (z:X.mg x=none) (J:bootBuiltins x=some (.builtin id)) (G:PA X (e::es) t) (F:x≠"__name__":=by decide) (i:27#0=false:=by decide)
  (q:starEach (e::es) X.env=37#0::starEach es X.env:=by rfl) (d:(backTo pos 40#0).any (·.1)=false:=by rfl):PE X (.Call (.Name x p) (e::es) [] pos) (HF r t):=by
 intro pins s σ H Q I h;refine D7 (jY I M z J ?_ F i);exact PyProof.Rows.callWith_builtin1 (vM (G pins s σ H _ I h) λN j D H1 y B n=>L pins j σ H1 D N Q y B n) q d
def bS (L:gP X (.type T) r) (M:Gl X x) (z:X.mg x=none) (J:bootBuiltins x=some (.type T)) (G:PA X (e::es) t) (F:x≠"__name__":=by decide) (i:27#0=false:=by decide)
  (q:starEach (e::es) X.env=37#0::starEach es X.env:=by rfl) (d:(backTo pos 40#0).any (·.1)=false:=by rfl):PE X (.Call (.Name x p) (e::es) [] pos) (HF r t):=by
 intro pins s σ H Q I h;refine D7 (jY I M z J ?_ F i);exact M8 (vM (G pins s σ H _ I h) λN j D H1 y B n=>L pins j σ H1 D N Q y B n) q d
end
end
end L2
namespace HT
open PySem PyProof.Rows
def lexLt:List Int->List Int->Bool
 | [],[]=>false
 | [],_::_=>true
 | _::_,[]=>false
 | x::xs,y::ys=>if x=y then lexLt xs ys else decide (x<y)
def lexLt_cons (x y:Int) (xs ys:List Int):lexLt (x::xs) (y::ys)=if x=y then lexLt xs ys else decide (x<y):=rfl
def lexLt_nil_nil:lexLt [] []=false:=rfl
def rZ (y:Int) (ys:List Int):lexLt [] (y::ys)=true:=rfl
def sB (x:Int) (xs:List Int):lexLt (x::xs) []=false:=rfl
def Ri (A:Around) (s:Shared) (a:Int) (t:Tok) (c:Int) (u:Tok):∃e,SeqAt.EqAt A s (.int a t) (.int c u) e/\(e=true↔a=c):=
 {(a == c),SeqAt.EqAt.int_int a t c u,by simp}
def Nv (A:Around) (s:Shared) (a:Int) (t:Tok) (c:Int) (u:Tok) (prog:Program) (w:World) (E:Value->Shared->Prop) (Q:Value->Shared->Prop) (h:Q (.bool (decide (a<c))) s):
  wpAny 7#0 A (richCompare .Lt (.int a t) (.int c u)) Q E s:=
 (PyProof.Rows.lt_int h:wpAny 7#0 A (compareOp .Lt (.int a t) (.int c u)) Q E s)
section
open PySem.SeqAt
open PySem.AutoSeq1 (wpAny_loadPart')
open PySem.MeetsSeq PySem.MeetsSeq2 PySem.MeetsSeq3
def tH (l b:Addr) (items items2:Array Value) (n n2:Nat) (dd dd2:Option Addr) (sl sl2:Array (Option Value)) (ns ms:List Int) (hi:IntsAre items.toList ns) (hj:IntsAre items2.toList ms):
  Meets (Builtin.«tuple.__lt__» {[.ref l,.ref b],[]})
   (λ_ R s=>s.heap.get? l=some { cls:=.type "tuple",dict:=dd,data:=.seq items n,slots:=sl }/\s.heap.get? b=some { cls:=.type "tuple",dict:=dd2,data:=.seq items2 n2,slots:=sl2 } /\
    R (.ok (.ret (.bool (lexLt ns ms)))) s):=
 .of_wp λprog w A R s h=>by
  let (hp,g,d,tk,os):=s;let (hl,hb,h):=h
  let f2:=AutoSeq1.sub_tuple_tuple
  let z1:items.size=ns.length:=by rw [<- hi.length];simp
  let z2:items2.size=ms.length:=by rw [<- hj.length];simp
  wp_walk using R1 hl,R1 hb,wpAny_forIn_list _ (λrest b s'=>b.1=none/\s'={(hp),g,d,tk,os}/\∃(vs ws:List Value) (ns' ms':List Int),rest=vs.zip ws /\
   IntsAre vs ns'/\IntsAre ws ms'/\ns'.length+items2.size=ms'.length+items.size/\R (.ok (.ret (.bool (lexLt ns' ms')))) {(hp),g,d,tk,os}) _
  case turn=>
   rintro⟨y,x⟩ rest b s' ⟨hb',rfl,vs,ws,ns',ms',hz,hvi,hwi,hlen,hR⟩
   cases hvi with
   | nil=>rw [List.zip_nil_left] at hz;cases hz
   | cons a t hvi'=>
    cases hwi with
    | nil=>rw [List.zip_nil_right] at hz;cases hz
    | cons c u hwi'=>
     rw [T0] at hz
     injection hz with hyx hrest
     injection hyx with hy hx
     subst hy hx
     rw [lexLt_cons] at hR
     simp only [p8] at hlen
     let (e,he,hiff):=Ri A.in1 {(hp),g,d,tk,os} a t c u
     refine d0 (he prog w _ _ ?_)
     cases e with
     | true=>
      rw [if_pos (hiff.mp rfl)] at hR
      wp_walk
      exact {ρ,ρ,_,_,_,_,hrest,hvi',hwi',∎,hR}
     | false=>
      rw [if_neg (λq=>absurd (hiff.mpr q) l4)] at hR
      let hri:=Nv A.in1 {(hp),g,d,tk,os} a t c u prog w
      wp_walk using hri
      exact {_,ρ,by simpa using hR}
  case fin=>
   rintro⟨b1,b2⟩ s' ⟨hb',rfl,vs,ws,ns',ms',hz,hvi,hwi,hlen,hR⟩
   simp only at hb'
   subst hb'
   let hv:lexLt ns' ms'=decide (items.size<items2.size):=by
    cases hvi with
    | nil=>
     cases hwi with
     | nil=>
      simp only [O1] at hlen;rw [lexLt_nil_nil];exact(decide_eq_false ∎).symm
     | cons c u hw=>
      simp only [O1,p8] at hlen;rw [rZ];exact(decide_eq_true ∎).symm
    | cons a t hv=>
     cases hwi with
     | nil=>
      simp only [O1,p8] at hlen;rw [sB];exact(decide_eq_false ∎).symm
     | cons c u hw=>
      rw [T0] at hz;cases hz
   rw [hv] at hR;wp_walk;exact {_,ρ,by simpa [Builtin.Tuple.tupleCompareSizes] using hR}
  case h=>
   exact {ρ,ρ,items.toList,items2.toList,ns,ms,ρ,hi,hj,∎,h}
end
section
variable {prog:Program} {w:World} {A:Around} {E:Value->Shared->Prop} {s:Shared}
def lt_tupInts {l b:Addr} {i d:Array Value} {ns q:List Int} {Q:Value->Shared->Prop} (Y:IsTup s.heap l i) (S:IsTup s.heap b d) (hi:IntsAre i.toList ns) (W:IntsAre d.toList q)
  (Z:A.units<cLine) (h:Q (.bool (lexLt ns q)) s):wpAny 7#0 A (compareOp .Lt (.ref l) (.ref b)) Q E s:=by
 let ((a0,dd,M,U),L,J,n,I):=id Y;let ((N,D,G,B),z,y,O,j):=id S;simp only at J I y j;subst J I y j;exact richCompare_meets_room (op:=.Lt) {_,L,ρ} {_,z,ρ} PySem.F.slot_tuple_lt PySem.F.entry_tuple_lt (PySem.F.args_tuple_lt_2 _ _) (tH l b i d n O dd D U B ns q hi W)
  {L,z,show Value.bool (lexLt ns q)≠Value.notImplemented/\Q (.bool (lexLt ns q)) s from {(λx=>nomatch x),h}} Z
def sIx (n d:Nat):Option Int->Nat
 | none=>d
 | some v=>if v<0 then(v+(n:Int)).toNat else min v.toNat n
def sIx_none (n d:Nat):sIx n d none=d:=rfl
def sIx_nat (n d k:Nat):sIx n d (some (k:Int))=min k n:=by
 show (if (k:Int)<0 then((k:Int)+(n:Int)).toNat else min (k:Int).toNat n)=min k n;rw [if_neg ∎,J4]
def CW (n d:Nat) (hd:d<=n) (o:Option Int):sIx n d o<=n:=by
 cases o with
 | none=>exact hd
 | some v=>
  show (if v<0 then(v+(n:Int)).toNat else min v.toNat n)<=n;by_cases i:v<0
  ·rw [if_pos i];omega
  ·rw [if_neg i];exact Nat.min_le_right _ _
def Gx (v:Int) (n d:Nat):(if v<0 then max (v+(n:Int)) 0 else min v (n:Int))=((sIx n d (some v):Nat):Int):=by
 show (if v<0 then max (v+(n:Int)) 0 else min v (n:Int))=(((if v<0 then(v+(n:Int)).toNat else min v.toNat n):Nat):Int);by_cases i:v<0
 ·simp only [if_pos i];omega
 ·simp only [if_neg i];omega
def Db (lo hi:Option Int) (n:Nat):Builtin.Slice.sliceAdjust lo hi 1 (n:Int)=(((sIx n 0 lo:Nat):Int),((sIx n n hi:Nat):Int)):=by
 let h1:¬ ((1:Int)<0):=∎;unfold Builtin.Slice.sliceAdjust;simp only [h1,if_false];refine Prod.ext ?_ ?_
 ·cases lo with
  | none=>rfl
  | some v=>exact Gx v n 0
 ·cases hi with
  | none=>rfl
  | some v=>exact Gx v n n
def Bs (i j:Nat):Builtin.Slice.slicePlaces (i:Int) (j:Int) 1=j-i:=by
 unfold Builtin.Slice.slicePlaces;let h1:(1:Int) > 0:=∎;simp only [h1,if_true,Int.ediv_one];split <;> omega
def qY {v:Value} {o:Option Int} {Q:Option Int->Shared->Prop} (p:IsPart v o) (h:Q o s):wpAny 7#0 A (Builtin.Slice.slicePartIndex v) Q E s:=by
 cases p with
 | none=>exact slicePart_none h
 | int i t=>exact slicePart_int h
def iG {y:Addr} {j q:Value} {lo hi:Option Int} {n:Nat} {Q:Int × Int × Nat->Shared->Prop} (B:s.heap.IsSliceOf y j q .none) (pl:IsPart j lo) (D:IsPart q hi)
  (h:Q (((sIx n 0 lo:Nat):Int),1,sIx n n hi-sIx n 0 lo) s):wpAny 7#0 A (Builtin.Slice.sliceApplied (.ref y) (pure (n:Int))) Q E s:=by
 let (F,d,z,i):=id B;unfold Builtin.Slice.sliceApplied Builtin.Slice.sliceFields;refine d0 (d0 (z6 d i (x:=j) rfl (d0 (z6 d i (x:=q) rfl (d0 (z6 d i (x:=.none) rfl 51#0))))));refine d0 (slicePart_none ?_);show wpAny _ _ (if ((1:Int) == 0)=true then _ else _) _ _ s;rw [if_neg 8#0];refine d0 (qY pl (d0 (qY D (d0 51#0))));show wpAny _ _ (match Builtin.Slice.sliceAdjust lo hi 1 (n:Int) with|(lo,hi)=>pure (lo,(1:Int),Builtin.Slice.slicePlaces lo hi 1)) _ _ s;rw [Db lo hi n];show wpAny _ _ (pure (((sIx n 0 lo:Nat):Int),(1:Int),Builtin.Slice.slicePlaces ((sIx n 0 lo:Nat):Int) ((sIx n n hi:Nat):Int) 1)) _ _ s;rw [Bs];exact i8 h
def Oa (xs:Array Value) (i k:Nat):((List.range k).filterMap λ(m:Nat)=>xs[((i:Int)+(m:Int) * 1).toNat]?).toArray=((xs.toList.drop i).take k).toArray:=by
 let e:(λ(m:Nat)=>xs[((i:Int)+(m:Int) * 1).toNat]?)=λm=>xs[i+m]?:=by
  funext m;have:((i:Int)+(m:Int) * 1).toNat=i+m:=∎;rw [this]
 rw [e];have:=pick_run xs i k;rw [List.filterMap_map] at this;let d:((λx=>xs[x]?) ∘ λx=>i+x)=λm=>xs[i+m]?:=rfl;rw [d] at this;rw [this]
def getItem_tuple_cut {t B:Addr} {d:Array Value} {F G:Value} {lo hi:Option Int} {Q:Value->Shared->Prop} (j:IsTup s.heap t d) (I:s.heap.IsSliceOf B F G .none) (pl:IsPart F lo) (M:IsPart G hi)
  (L:¬ (sIx d.size 0 lo=0/\sIx d.size d.size hi=d.size))
  (h:Q (.ref s.heap.objs.size) { s with heap:=s.heap.push { cls:=.type "tuple",data:=.seq ((d.toList.drop (sIx d.size 0 lo)).take (sIx d.size d.size hi-sIx d.size 0 lo)).toArray } })
  (hsz:d.size<=sizeLine):wpAny 7#0 A (getItem (.ref t) (.ref B)) Q E s:=by
 let i:sizeOk (.seq ((d.toList.drop (sIx d.size 0 lo)).take (sIx d.size d.size hi-sIx d.size 0 lo)).toArray):=by
  show ((d.toList.drop (sIx d.size 0 lo)).take (sIx d.size d.size hi-sIx d.size 0 lo)).toArray.size<=sizeLine;rw [j7,u6,D8,u9];omega
 let O:sIx d.size d.size hi<=d.size:=CW _ _ (g9 _) hi;let (J,D,n,N):=id I;let y:s.TypeIs (.ref B) "slice":={(J),D,n};unfold getItem
 try with_reducible refine w9 ?_
 first|refine d0 (i8 ?_)|skip
 refine d0 (wpAny_sequenceKey j.typeIs 8#0 ?_);refine d0 (B0 (name:=Str.ofString "__getitem__") j.typeIs E8
  (D9 E8 j.typeIs entry_tuple_getitem ?_ (args_tuple_getitem _ _)));show wpAny _ _ (Builtin.Tuple.tupleItemsOf (.ref t) >>= _) _ _ s;refine d0 (tupleItemsOf_ j ?_);refine d0 (wpAny_typeOf y ?_);rw [if_pos 8#0];refine d0 (iG I pl M ?_);let z:¬ ((((sIx d.size 0 lo:Nat):Int) == 0 && (1:Int) == 1 && (sIx d.size d.size hi-sIx d.size 0 lo) == d.size)=true):=by
  intro q;rw [A8,A8] at q;let S:((sIx d.size 0 lo:Nat):Int)=0:=eq_of_beq q.1.1;let U:sIx d.size d.size hi-sIx d.size 0 lo=d.size:=eq_of_beq q.2;exact L { ∎,∎}
 show wpAny _ _ (if (((sIx d.size 0 lo:Nat):Int) == 0 && (1:Int) == 1 && (sIx d.size d.size hi-sIx d.size 0 lo) == d.size)=true then _ else _) _ _ s;rw [if_neg z,Oa]
 first
  | exact d0 (m:=Builtin.Tuple.tupleExact _) (B8 (i8 {_,ρ,i8 h}) i)
  | exact d0 (m:=Builtin.Tuple.tupleExact _) (B8 (d0 (i8 (i8 {_,ρ,i8 h}))) i)
  | exact d0 (d0 (m:=Builtin.Tuple.tupleExact _) (B8 (i8 (i8 {_,ρ,i8 h})) i))
  | exact d0 (d0 (m:=Builtin.Tuple.tupleExact _) (B8 (i8 {_,ρ,i8 h}) i))
end
end HT
namespace L2
open PySem PySem.Spec PyProof.Rows
section
variable {x:V} {n:Nat} {s:Shared} {d us:List Value} {v:Value}
abbrev TO:=St->Hp->(Option Int->Hp->Prop)->Prop
def PO (X:Cx) (e:Option Expr) (t:TO):Prop:=
 ∀(pins:List 10#0) (s:Shared) (σ:St) (H:Hp) (Q:Option Int->Hp->Prop),aV X pins σ H s->t σ H Q ->
  wpAny 4#0 X.A (evalPart e X.env) (λu s'=>∃o H',aV X pins σ H' s'/\IsPart u o/\Q o H') X.xe s
def Uc:TO:=λ_ H Q=>Q none H
def GU (t:TE):TO:=λσ H Q=>t σ H λx H1=>∃i,x=.int i/\Q (some i) H1
def sE {ns:List Int}:∀{us:List Value},bA 32#0 us->IntsAre us ns:=by
 induction ns with
 | nil=>intro us r;rw [O6] at r;cases r;exact .nil
 | cons n ns ih=>
  intro us r;rw [x9] at r;cases r with
  | cons r1 r2=>
   let (t,e):=r1;subst e;exact .cons n t (ih r2)
section
variable {X:Cx} {e:Expr} {te:TE} {lo hi:Option Expr} {tl th:TO} {pos p2:Pos}
def Vr:PO X none Uc:=by
 intro pins s σ H Q I h;rw [evalPart_none];exact i8 {none,H,I,.none,h}
def mP (h:PE X e te):PO X (some e) (GU te):=by
 intro pins s σ H Q I n;rw [evalPart_some];refine eP (h s σ H _ I n) λu z x H1 j y d=>?_;let (i,rfl,q):=d;let (t,rfl):=y;exact {some i,H1,j,.int i t,q}
def KA (X:Cx) (r:V->Option Int->Option Int->Hp->VK->Prop):Prop:=
 ∀(pins:List 10#0) (s:Shared) (σ:St) (H:Hp) (x:V) (v vl vu:Value) (lo hi:Option Int) (sl:Addr) (Q:VK),aV X pins σ H s->bF x v->s.heap.IsSliceOf sl vl vu .none->IsPart vl lo->IsPart vu hi->r x lo hi H Q ->
  ∃T id,typeLookup (.type T) "__getitem__"=pure (some (.builtin id))/\s.TypeIs v T/\wpAny 4#0 X.A (getItem v (.ref sl)) 44#0 X.xe s
def NL (r:V->Option Int->Option Int->Hp->VK->Prop) (te:TE) (tl th:TO):TE:=λσ H Q=>te σ H λx H1=>tl σ H1 λl H2=>th σ H2 λu H3=>r x l u H3 Q
def rH {r:V->Option Int->Option Int->Hp->VK->Prop} (N:KA X r) (J:PE X e te) (O:PO X lo tl) (U:PO X hi th):PE X (.Subscript e (.Slice lo hi none p2) pos) (NL r te tl th):=by
 intro pins s σ H Q I h;refine Subscript_ (eP (J s σ H _ I h) λv z x H1 S W G=>?_);refine wpAny_Slice (gA (O pins z σ H1 _ S G) λj F ⟨l,H2,I2,pl,q2⟩=>gA (U pins F σ H2 _ I2 q2) λi d n=>?_);let (u,y,Z,D,Y):=n;rw [evalPart_none];refine i8 ?_;let L:aV X pins σ y { d with heap:=d.heap.push { cls:=.type "slice",data:=.fields #[j,i,.none] } }:=Z.kept (t':=d.toks) λb ob q=>g8 _ q;let (T,id,hT,B,M):=N pins { d with heap:=d.heap.push { cls:=.type "slice",data:=.fields #[j,i,.none] } } σ y x v j i l u d.heap.objs.size Q L W (Heap.IsSliceOf.new ..) pl D Y;show wpAny 4#0 X.A (subscriptTail e (.Slice lo hi none p2) v (.ref d.heap.objs.size)) 44#0 X.xe { d with heap:=d.heap.push { cls:=.type "slice",data:=.fields #[j,i,.none] } };exact tail_any (ops:=[.ref d.heap.objs.size,v]) B hT M (by with_unfolding_all rfl)
def oN (xs:List V) (lo hi:Option Int):List V:=(xs.drop (HT.sIx xs.length 0 lo)).take (HT.sIx xs.length xs.length hi-HT.sIx xs.length 0 lo)
def pA (xs:List V) (lo hi:Option Int):(oN xs lo hi).length<=xs.length:=by
 unfold oN;rw [u6,D8];omega
def KS (K:PySem.W.Frag):V->Option Int->Option Int->Hp->VK->Prop:=λx lo hi H Q=>∃a xs,x=.ref a/\bX K H a xs /\
 ¬ (HT.sIx xs.length 0 lo=0/\HT.sIx xs.length xs.length hi=xs.length)/\∀p,H p=none->Q 49#0 (upd H p (.tup (oN xs lo hi)))
def BU:KA X (KS X.K):=by
 intro pins s σ H x v J L lo hi M Q I y D F G h;let (a,xs,rfl,B,z,q):=h;cases y;let (i,r,j,n):=I.tuple B;let d:i.toArray.size=xs.length:=by rw [j7];exact r.length.symm
 refine {"tuple",_,PyProof.Rows.slot_tuple_getitem.lookup,j.typeIs,?_};refine HT.getItem_tuple_cut j D F G (by rw [d];exact z) ?_ (by rw [d];exact n);rw [d];refine {.ref s.heap.objs.size,_,I.laid (t':=s.toks) (o:=.tup (oN xs lo hi)) (λb N q=>g8 _ q) (g9 _) ?_,ρ,q _ (I.hok.fresh (g9 _))};exact {u8 (pA xs lo hi) n,_,(r.drop (HT.sIx xs.length 0 lo)).take (HT.sIx xs.length xs.length hi-HT.sIx xs.length 0 lo),IsTup.new _ _}
end
def Qo (n:Nat) (i:Int):Option Nat:=if 0<=i then(if i<n then some i.toNat else none) else if -(n:Int)<=i then some (i+n).toNat else none
def oR {α:Type} (xs:List α) (i:Int):Option α:=(Qo xs.length i).bind λj=>xs[j]?
def Gf {i:Int} {j:Nat} (h:Qo n i=some j):seqIndex? i n=some j/\j<n/\-(n:Int)<=i/\i<n:=by
 unfold Qo at h;by_cases d:0<=i
 ·rw [if_pos d] at h;by_cases h1:i<n
  ·rw [if_pos h1] at h;let e:i.toNat=j:=Option.some.inj h;exact {by rw [seqIndex_of d h1,e],∎,∎,h1}
  ·rw [if_neg h1] at h;cases h
 ·rw [if_neg d] at h;by_cases h1:-(n:Int)<=i
  ·rw [if_pos h1] at h;let e:(i+n).toNat=j:=Option.some.inj h;exact {by rw [seqIndex_neg ∎ h1,e],∎,h1,∎}
  ·rw [if_neg h1] at h;cases h
def Gz {α:Type} {xs:List α} {i:Int} {v:α} (h:oR xs i=some v):∃j,seqIndex? i xs.length=some j/\xs[j]?=some v/\j<xs.length/\-(xs.length:Int)<=i/\i<xs.length:=by
 unfold oR at h;cases e:Qo xs.length i with
 | none=>rw [e] at h;cases h
 | some j=>
  rw [e] at h;let (h1,h2,n,d):=Gf e;exact {(j),h1,h,h2,n,d}
def bH {α:Type} {xs:List α} {j:Nat} {v:α} (h:xs[j]?=some v):oR xs (j:Int)=some v:=by
 let d:j<xs.length:=(e8.mp h).1;let e:Qo xs.length (j:Int)=some j:=by
  unfold Qo;rw [if_pos ∎,if_pos ∎];simp
 unfold oR;rw [e];exact h
def Sd {α:Type} (xs:List α) (v:α):oR (xs++[v]) (-1)=some v:=by
 let d:(xs++[v]).length=xs.length+1:=by simp
 let e:Qo (xs++[v]).length (-1)=some xs.length:=by
  unfold Qo;rw [d,if_neg 8#0,if_pos ∎];congr 1;omega
 unfold oR;rw [e];show (xs++[v])[xs.length]?=some v;simp
def qE (b:Expr):Prop:=∀o i,subscripted b false o i=operate [o,i] (getItem o i)
def MB (X:Cx) (r:R2):Prop:=
 ∀(value slice:Expr) (pins:List 10#0) (s:Shared) (σ:St) (H:Hp) (x y:V) (v u:Value) (Q:VK),aV X pins σ H s->bF x v->bF y u->r x y H Q ->
  subscripted slice false v u=operate [v,u] (getItem v u)->wpAny 4#0 X.A (subscriptTail value slice v u) 44#0 X.xe s
def LZ (X:Cx) (id:String) (r:V->List V->Hp->VK->Prop):Prop:=
 ∀(pins:List 10#0) (s:Shared) (σ:St) (H:Hp) (x:V) (xs:List V) (v:Value) (us:List Value) (Q:VK),aV X pins σ H s->bF x v->bA xs us->r x xs H Q ->
  wpAny 4#0 X.A (call (.builtin id) (v::us)) 44#0 X.xe s
section
variable {X:Cx} {a b:Expr} {ta tb:TE} {pos:Pos}
def bZ {r:R2} (B:MB X r) (z:PE X a ta) (d:PE X b tb) (j:qE b):PE X (.Subscript a b pos) (Ka r ta tb):=by
 intro pins s σ H Q I h;exact Subscript_ (EU z d I h λv u F x y H2 D i n q=>B a b pins F σ H2 x y v u Q D i n q (j _ _))
inductive FO (K:PySem.W.Frag) (x y:V) (H:Hp) (Q:VK):Prop|mk (p:_) (xs:_) (i:_) (v:_) (_:x=.ref p) (_:y=.int i) (_:cQ K H p xs) (_:oR xs i=some v) (_:Q v H)
def KZ (K:PySem.W.Frag):R2:=λx y H Q=>FO K x y H Q
inductive FN (K:PySem.W.Frag) (x y:V) (H:Hp) (Q:VK):Prop|mk (p:_) (xs:_) (i:_) (v:_) (_:x=.ref p) (_:y=.int i) (_:bX K H p xs) (_:oR xs i=some v) (_:Q v H)
def gQ (K:PySem.W.Frag):R2:=λx y H Q=>FN K x y H Q
def gD:MB X (KZ X.K):=by
 intro value slice pins s σ H x y v u Q I rx ry h hs;let (p,xs,i,z,rfl,rfl,hq,he,q):=h;cases rx;let (t,rfl):=ry;let (its,r,pl,hz):=I.list hq;let (j,h1,h2,h3,h4,h5):=Gz he;let (w,ew,rw'):=r.get h2;let hl:=r.length;let hn:=oH;let fin:EP X pins σ Q w s:={(z),H,I,rw',q};by_cases h0:0<=i
 ·let hj:i.toNat=j:=by
   rw [seqIndex_of h0 h5] at h1;exact Option.some.inj h1
  exact item_listR pl.isList h0 ∎ (by rw [hj];simpa using ew) fin hs
 ·let hj:(i+(its.toArray.size:Int)).toNat=j:=by
   rw [seqIndex_neg ∎ h4] at h1;rw [j7,<- hl];exact Option.some.inj h1
  exact subscriptTail_builtinR (x:=w) pl.isList.typeIs slot_list_getitem.lookup
   (wpAny_getItem_list_neg (Q:=λr s'=>r=w/\EP X pins σ Q r s') pl.isList ∎ (by rw [j7] <;> omega) ∎ (by rw [hj];simpa using ew) {(rfl),fin}) hs
def bT:MB X (gQ X.K):=by
 intro value slice pins s σ H x y v u Q I rx ry h hs;let (p,xs,i,z,rfl,rfl,hq,he,q):=h;cases rx;let (t,rfl):=ry;let (its,r,pl,hz):=I.tuple hq;let (j,h1,h2,h3,h4,h5):=Gz he;let (w,ew,rw'):=r.get h2;let hl:=r.length;let hn:=oH;let fin:EP X pins σ Q w s:={(z),H,I,rw',q};exact subscriptTail_builtinR (x:=w) pl.typeIs slot_tuple_getitem.lookup
  (getItem_tuple (j:=j) (Q:=λr s'=>r=w/\EP X pins σ Q r s') pl ∎ ∎ (by rw [j7,<- hl];exact h1) (by simpa using ew) {(rfl),fin}) hs
def Cj (d:List Value) (n j:Nat) (u:Value):Obj.mapSeq (·.setIfInBounds j u) { cls:=.type "list",data:=.seq d.toArray n }={ cls:=.type "list",data:=.seq (d.set j u).toArray n }:=by
 simp [Obj.mapSeq]
theorem aV.lst {pins:List 10#0} {σ:St} {H:Hp} {s:Shared} {p:Addr} {xs:List V} (I:5#0) (h:H p=some (.lst xs)):
  ∃(d:List Value) (n:Nat),bA xs d/\s.heap.get? p=some { cls:=.type "list",data:=.seq d.toArray n }/\xs.length<=sizeLine:=by
 let (z,d,n,r,e):=I.hok p _ h;exact {(d),n,r,e,z}
def aV.lstUpd {pins:List 10#0} {σ:St} {H:Hp} {p:Addr} {xs ys:List V} {its':List Value} {i:Nat} {f:Obj->Obj} (I:5#0) (h:H p=some (.lst xs))
  (z:s.heap.get? p=some { cls:=.type "list",data:=.seq d.toArray n }) (j:f { cls:=.type "list",data:=.seq d.toArray n }={ cls:=.type "list",data:=.seq its'.toArray i }) (r:bA ys its') (B:ys.length<=sizeLine) (t:Nat):
  aV X pins σ (upd H p (.lst ys)) { s with heap:=s.heap.update p f,toks:=t }:=by
 let e:(s.heap.update p f).get? p=some { cls:=.type "list",data:=.seq its'.toArray i }:=by
  rw [J0 f z (by rw [j] <;> rfl),j]
 refine I.write (x:=p) (e:=p) (by rw [h];trivial) (.inl rfl) (λb u y q=>(A6 _ _ (F6 y)).trans q) {_,e} ?_;exact {(B),its',i,r,e}
def HZ:V->V->V->Hp->(Hp->Prop)->Prop:=λo i v H Q=>∃p xs k j,o=.ref p/\i=.int k/\H p=some (.lst xs)/\Qo xs.length k=some j/\Q (upd H p (.lst (xs.set j v)))
def Lu:JM X HZ:=by
 intro pins s σ H o i v ov iv u Q I ro ri rv h;let (p,xs,k,j,rfl,rfl,hp,hj,q):=h;cases ro;let (t,rfl):=ri;let (its,n,r,ho,hz):=I.lst hp;let (h1,h2,h3,h4):=Gf hj;let hl:=r.length;let hn:=oH;let I':aV X pins σ (upd H p (.lst (xs.set j v))) { s with heap:=s.heap.update p (Obj.mapSeq (·.setIfInBounds j u)) }:=
  I.lstUpd hp ho (Cj its n j u) (r.set rv j) (by rw [R4];exact hz) s.toks
 by_cases h0:0<=k
 ·let hk:k.toNat=j:=by
   rw [seqIndex_of h0 h4] at h1;exact Option.some.inj h1
  exact PySem.W.ki_setAt ho h0 ∎ (by rw [j7,<- hl];exact h4) (by rw [hk];exact {_,I',q})
 ·let hk:(k+(its.toArray.size:Int)).toNat=j:=by
   rw [seqIndex_neg ∎ h3] at h1;rw [j7,<- hl];exact Option.some.inj h1
  exact PySem.W.ki_setBack ho ∎ (by rw [j7,<- hl];exact h3) ∎ (by rw [hk];exact {_,I',q})
def vS (lo hi:Option Int) (n:Nat):(sliceBounds lo hi none n).1=((HT.sIx n 0 lo:Nat):Int)/\(sliceBounds lo hi none n).2.1=((HT.sIx n n hi:Nat):Int)/\(sliceBounds lo hi none n).2.2=1:=by
 refine {?_,?_,ρ}
 ·cases lo with
  | none=>simp [sliceBounds,HT.sIx]
  | some i=>
   simp only [sliceBounds,HT.sIx,Option.getD_none,show (1:Int) > 0 by decide,if_true];by_cases h:i<0
   ·simp only [h,if_true] <;> omega
   ·simp only [h,if_false] <;> omega
 ·cases hi with
  | none=>simp [sliceBounds,HT.sIx]
  | some i=>
   simp only [sliceBounds,HT.sIx,Option.getD_none,show (1:Int) > 0 by decide,if_true];by_cases h:i<0
   ·simp only [h,if_true] <;> omega
   ·simp only [h,if_false] <;> omega
def tI (d:List Value) (lo hi:Option Int):slicePick d.toArray lo hi none=((d.drop (HT.sIx d.length 0 lo)).take (HT.sIx d.length d.length hi-HT.sIx d.length 0 lo)).toArray:=by
 let (h1,h2,i):=vS lo hi d.toArray.size;unfold slicePick;rw [h1,h2,i];simp only [sliceRange_one,pick_run,j7] <;> rfl
def KU (K:PySem.W.Frag):V->Option Int->Option Int->Hp->VK->Prop:=λx lo hi H Q=>∃a xs,x=.ref a/\cQ K H a xs/\∀p,H p=none->Q 49#0 (upd H p (.lst (oN xs lo hi)))
def Ef:KA X (KU X.K):=by
 intro pins s σ H x v G J lo hi L Q I j z B D h;let (a,xs,rfl,y,q):=h;cases j;let (n,r,i,F):=I.list y;let d:=r.length;refine {"list",_,slot_list_getitem.lookup,i.isList.typeIs,?_};refine wpAny_getItem_list_slice i.isList z B D .none 9#0 ?_ (by rw [j7] <;> omega);rw [tI,<- d];refine {.ref s.heap.objs.size,_,I.laid (t':=s.toks) (o:=.lst (oN xs lo hi)) (λb M q=>g8 _ q) (g9 _) ?_,ρ,q _ (I.hok.fresh (g9 _))};exact {u8 (pA xs lo hi) F,_,0,(r.drop (HT.sIx xs.length 0 lo)).take (HT.sIx xs.length xs.length hi-HT.sIx xs.length 0 lo),j3 _ rfl}
def kB:V->Bool
 | .non=>true
 | .bl _=>true
 | .int _=>true
 | .str _=>true
 | _=>false
def Tm:V->V->Bool
 | .non,.non=>true
 | .bl a,.bl b=>a == b
 | .bl a,.int b=>(if a then 1 else 0) == b
 | .int a,.bl b=>a == (if b then 1 else 0)
 | .int a,.int b=>a == b
 | .str a,.str b=>a == b
 | _,_=>false
def EM {A:Around} {y:V} {u:Value} (n:bF y u) (d:bF x v) (q:kB y=true) (j:kB x=true):SeqAt.EqAt A s u v (Tm y x):=by
 cases y with
 | non=>
  cases n;cases x with
  | non=>cases d;exact SeqAt.EqAt.same _
  | bl b=>cases d;exact SeqAt.EqAt.none_bool b
  | int b=>let (t,rfl):=d;exact SeqAt.EqAt.none_int b t
  | str b=>let (t,rfl):=d;exact SeqAt.EqAt.none_str b t
  | _=>exact absurd (show false=true from j) l4
 | bl a=>
  cases n;cases x with
  | non=>cases d;exact SeqAt.EqAt.bool_none a
  | bl b=>cases d;exact SeqAt.EqAt.bool_bool a b
  | int b=>let (t,rfl):=d;exact SeqAt.EqAt.bool_int a b t
  | str b=>let (t,rfl):=d;exact SeqAt.EqAt.bool_str a b t
  | _=>exact absurd (show false=true from j) l4
 | int a=>
  let (i,rfl):=n;cases x with
  | non=>cases d;exact SeqAt.EqAt.int_none a i
  | bl b=>cases d;exact SeqAt.EqAt.int_bool a i b
  | int b=>let (t,rfl):=d;exact SeqAt.EqAt.int_int a i b t
  | str b=>let (t,rfl):=d;exact SeqAt.EqAt.int_str a i b t
  | _=>exact absurd (show false=true from j) l4
 | str a=>
  let (i,rfl):=n;cases x with
  | non=>cases d;exact SeqAt.EqAt.str_none a i
  | bl b=>cases d;exact SeqAt.EqAt.str_bool a i b
  | int b=>let (t,rfl):=d;exact SeqAt.EqAt.str_int a i b t
  | str b=>let (t,rfl):=d;exact SeqAt.EqAt.str_str a i b t
  | _=>exact absurd (show false=true from j) l4
 | _=>exact absurd (show false=true from q) l4
def Kb (x:V) (u:Value):Bool:=match u with
 | .none=>Tm .non x
 | .bool b=>Tm (.bl b) x
 | .int i _=>Tm (.int i) x
 | .str z _=>Tm (.str z) x
 | _=>false
def Rh {y:V} {u:Value} (r:bF y u) (f:kB y=true):Kb x u=Tm y x:=by
 cases y with
 | non=>cases r;rfl
 | bl b=>cases r;rfl
 | int i=>let (t,rfl):=r;rfl
 | str z=>let (t,rfl):=r;rfl
 | _=>exact absurd (show false=true from f) l4
def wT {xs:List V} (p:bA xs us) (f:xs.all kB=true):us.any (Kb x)=xs.any λy=>Tm y x:=by
 induction p with
 | nil=>rfl
 | cons r _ t=>
  rw [List.all_cons,A8] at f;rw [K4,K4,Rh r f.1,t f.2]
def rY {A:Around} (i:bF x v) (d:kB x=true):∀{xs:List V} {us:List Value},bA xs us->xs.all kB=true->∀u ∈ us,SeqAt.EqAt A s u v (Kb x u):=by
 intro xs us p f u hu
 induction p with
 | nil=>cases hu
 | cons r _ t=>
  rw [List.all_cons,A8] at f;rcases i3.mp hu with rfl|hu
  ·rw [Rh r f.1];exact EM r i f.1 d
  ·exact t f.2 hu
def inV (x:V) (xs:List V):Bool:=xs.any λy=>Tm y x
def NM (K:PySem.W.Frag) (neg:Bool):R2:=λx y H Q=>∃p xs,y=.ref p/\(cQ K H p xs\/bX K H p xs)/\kB x=true/\xs.all kB=true/\Q (.bl (if neg then !inV x xs else inV x xs)) H
def Ia:lK X (compareOp .In) (NM X.K false):=by
 intro pins s σ H x y v u Q I n B h;let (p,xs,rfl,hq,z,fs,q):=h;cases B;rcases hq with hq|hq
 ·let (d,r,j,D):=I.list hq;refine SeqAt.in_listAt (Kb x) j.isList (λw i=>rY n z r fs w (by simpa using i)) {.bl _,H,I,ρ,?_};rw [show d.toArray.any (Kb x)=d.any (Kb x) by simp,wT r fs];exact q
 ·let (d,r,j,D):=I.tuple hq;refine SeqAt.in_tupleAt (Kb x) j (λw i=>rY n z r fs w (by simpa using i)) {.bl _,H,I,ρ,?_};rw [show d.toArray.any (Kb x)=d.any (Kb x) by simp,wT r fs];exact q
def cC:gP X (.builtin "len") (λxs H Q=>∃p ys,xs=[.ref p]/\(cQ X.K H p ys\/bX X.K H p ys)/\Q (.int ys.length) H):=by
 intro pins s σ H xs us Q I r h;let (p,ys,rfl,hq,q):=h;let (u,rfl,rx):=jQ r;cases rx;let hn:=oH;rcases hq with hq|hq
 ·let (its,r',pl,hz):=I.list hq;let hlen:=r'.length;exact Calls.call_len_list pl.isList (by simp only [j7] <;> omega) {.int ys.length,H,I.tok _,{s.toks+1,by rw [j7,hlen]},q}
 ·let (its,r',pl,hz):=I.tuple hq;let hlen:=r'.length;exact len_tuple pl (by simp only [j7] <;> omega) {.int ys.length,H,I.tok _,{s.toks+1,by rw [j7,hlen]},q}
def wS:gP X (.builtin "len") (λxs H Q=>∃z,xs=[.str z]/\z.length<=sizeLine/\Q (.int z.length) H):=by
 intro pins s σ H xs us Q I r h;let (z,rfl,hz,q):=h;let (u,rfl,t,rfl):=jQ r;let hn:=oH;exact len_str ∎ {.int z.length,H,I.tok _,{_,ρ},q}
def wR:gP X (.type "list") (λxs H Q=>∃p ys,xs=[.ref p]/\(cQ X.K H p ys\/bX X.K H p ys)/\∀l,H l=none->Q (.ref l) (upd H l (.lst ys))):=by
 intro pins s σ H xs N Q I r h;let (p,ys,rfl,hq,q):=h;let (u,rfl,M):=jQ r;cases M;have B:∀(d:List Value),bA ys d->ys.length<=sizeLine->∀(h':Heap) (i:Nat),(∀b o',s.heap.get? b=some o'->h'.get? b=some o') ->
   h'.get? s.heap.objs.size=some { cls:=.type "list",dict:=none,data:=.seq d.toArray i,slots:=#[] }->EP X pins σ Q (.ref s.heap.objs.size) { s with heap:=h' }:=λd j D h' i y e=>
  {.ref s.heap.objs.size,_,I.laid (t':=s.toks) y (g9 _) (show bL X.prog X.w _ h' _ (.lst ys) from {(D),d,i,j,e}),ρ,q _ (I.hok.fresh (g9 _))}
 rcases hq with hq|hq
 ·let (d,j,G,D):=I.list hq;let z:=j.length;let (o,J,L,n,F):=G.isList;exact call_list_seq p (.inl rfl) J L F (λh' i y e=>B d j D h' i y e) (by simp only [j7] <;> omega)
 ·let (d,j,G,D):=I.tuple hq;let z:=j.length;let (o,J,L,n,F):=G;exact call_list_seq p (.inr rfl) J L F (λh' i y e=>B d j D h' i y e) (by simp only [j7] <;> omega)
def dP:gP X (.type "tuple") (λxs H Q=>∃p ys,xs=[.ref p]/\((cQ X.K H p ys/\∀l,H l=none->Q (.ref l) (upd H l (.tup ys)))\/(bX X.K H p ys/\Q 49#0 H))):=by
 intro pins s σ H xs J Q I r h;let (p,ys,rfl,h):=h;let (u,rfl,D):=jQ r;cases D;rcases h with ⟨i,q⟩|⟨i,q⟩
 ·let (d,n,j,B):=I.list i;let z:=n.length;refine call_tuple_list j.isList (λh' F=>?_) (by simp only [j7] <;> omega);let y:aV X pins σ H { s with heap:=h' }:=I.kept (t':=s.toks) F;let G:aV X pins σ (upd H h'.objs.size (.tup ys)) { s with heap:=h'.push { cls:=.type "tuple",data:=.seq d.toArray } }:=
   y.laid (t':=s.toks) (λb o e=>g8 _ e) (g9 _) (show bL X.prog X.w _ _ _ (.tup ys) from {B,d,n,IsTup.new _ _})
  exact {.ref h'.objs.size,_,G,ρ,q _ (y.hok.fresh (g9 _))}
 ·let (d,n,j,B):=I.tuple i;exact call_tuple_same j {.ref p,H,I,ρ,q}
def KE (K:PySem.W.Frag) (T:String) (x:V) (H:Hp):Prop:=match x with
 | .str _=>T="str"
 | .int _=>T="int"
 | .ref p=>(T="list"/\∃xs,cQ K H p xs)\/(T="tuple"/\∃o,K.lookup p=some o/\o.cls=.type "tuple"/\o.dict=none) \/
   (T="dict"/\((∃kvs,H p=some 45#0)\/∃kvs,H p=some (.dT kvs)))\/(T="set"/\∃S n,H p=some (.set S n))
 | _=>False
def Kt {pins:List 10#0} {σ:St} {H:Hp} {T:String} (I:5#0) (r:bF x v) (j:KE X.K T x H):
  s.TypeIs v T/\∀a,v=.ref a->∃F,s.heap.get? a=some F/\F.dict=none:=by
 cases x with
 | str z=>
  let (t,rfl):=r;cases (show T="str" from j);exact {typeIs_str s z t,λ_ e=>nomatch e}
 | int i=>
  let (t,rfl):=r;cases (show T="int" from j);exact {typeIs_int s i t,λ_ e=>nomatch e}
 | ref p=>
  cases r;rcases j with ⟨rfl,xs,G⟩|⟨rfl,o,d,L,q⟩|⟨rfl,d⟩|⟨rfl,S,n,d⟩
  ·let (J,_,D,_):=I.list G;refine {D.isList.typeIs,λa e=>?_};cases e;let (o,n,e,c,q,_):=D;exact {(o),e,q}
  ·refine {{o,I.kIn p o d,L},λa e=>?_};cases e;exact {o,I.kIn _ o d,q}
  ·let z:∃o,s.heap.get? p=some o/\o.ExactDict:=by
    rcases d with ⟨y,d⟩|⟨y,d⟩
    ·let (_,_,_,_,o,_,_,e,ex,_):=I.hok p _ d;exact {(o),e,ex}
    ·let (_,_,_,_,o,_,_,e,ex,_):=I.hok p _ d;exact {(o),e,ex}
   let (o,e,ex):=z;refine {{(o),e,ex.1},λa B=>?_};cases B;exact {(o),e,ex.2.1}
  ·let (o,_,_,_,e,ex,_):=I.hok p _ d;refine {{(o),e,ex.1},λa B=>?_};cases B;exact {(o),e,ex.2.1}
 | _=>exact False.elim j
def HG (K:PySem.W.Frag) (T:String) (r:V->List V->Hp->VK->Prop) (to:TE):TE:=λσ H Q=>to σ H λx H1=>KE K T x H1/\r x [] H1 Q
def KN (K:PySem.W.Frag) (T:String) (r:V->List V->Hp->VK->Prop) (to:TE) (t:TA):TE:=λσ H Q=>to σ H λx H1=>KE K T x H1/\t σ H1 λxs H2=>r x xs H2 Q
variable {o e:Expr} {es:List Expr} {to:TE} {t:TA} {name:Str} {apos cpos:Pos} {T id:String} {r:V->List V->Hp->VK->Prop}
def DG (J:PlainAttrs T) (j:Slot T name id) (n:typeOf (.builtin id)=pure (.type "method_descriptor")) (F:LZ X id r) (G:PE X o to)
  (d:attributeBase o name X.env (eval o X.env)=eval o X.env:=by rfl) (i:(apos.endLine == cpos.line)=true:=by rfl):PE X (.Call (.Attribute o name apos) [] [] cpos) (HG X.K T r to):=by
 intro pins s σ H Q I h;refine wpAny_Call_method0_late d i (eP (G s σ H _ I h) λv D x H1 y z q=>?_);let (L,B):=q;let (h1,h2):=Kt y z L;exact {T,id,J,j,n,h1,h2,L4 rfl (PySem.evalArgs_none (F pins D σ H1 x [] v [] Q y z .nil B))}
def uM (W:PlainAttrs T) (n:Slot T name id) (z:typeOf (.builtin id)=pure (.type "method_descriptor")) (J:LZ X id r) (S:PE X o to) (Y:PA X (e::es) t)
  (i:attributeBase o name X.env (eval o X.env)=eval o X.env:=by rfl)
  (q:((backTo cpos (starEach (e::es) X.env)).all (λx=>!x.1) && (backToKw cpos (keywordEach [] X.env)).all (λx=>x.1.isSome)
   && decide ((e::es).length+([]:List Keyword).length+(if ([]:List Keyword).isEmpty then 0 else 1)<30))=true:=by rfl)
  (j:(apos.endLine == cpos.line)=true:=by rfl) (O:starEach (e::es) X.env=37#0::starEach es X.env:=by rfl) (d:(backTo cpos 40#0).any (·.1)=false:=by rfl):
  PE X (.Call (.Attribute o name apos) (e::es) [] cpos) (KN X.K T r to t):=by
 intro pins s σ H Q I h;refine wpAny_Call_method_late i q j rfl (eP (S s σ H _ I h) λv G x H1 D F y=>?_);let (U,M):=y;let (h1,h2):=Kt D F U;refine {T,id,W,n,z,h1,h2,?_};let B:=@Y cpos pins G σ H1 _ D M;rw [O] at B ⊢;refine L4 (by show (false || (backTo cpos 40#0).any (·.1))=false;rw [d] <;> rfl) (N0 ?_);exact gA B λZ L ⟨N,H2,I2,r2,q2⟩=>J pins L σ H2 x N v Z Q I2 F r2 q2
end
def NF (X:Cx) (id:String) (r:V->List V->Hp->VK->Prop):Prop:=
 ∀(pins:List 10#0) (s:Shared) (σ:St) (H:Hp) (x:V) (xs:List V) (v:Value) (us:List Value) (Q:VK),aV X pins σ H s->bF x v->bA xs us->r x xs H Q ->
  wpAny 4#0 X.A (call (.builtin id) (v::us)) 44#0 X.xe s
def bA.zero (h:bA [] us):us=[]:=by
 cases h;rfl
def bA.one (h:bA [x] us):∃u,us=[u]/\bF x u:=by
 cases h with
 | cons r t=>cases bA.zero t;exact {_,ρ,r}
theorem bA.rep {xs:List V} {us:List Value} (h:bA xs us):∀k:Nat,bA (List.replicate k xs).flatten (List.replicate k us).flatten
 | 0=>.nil
 | k+1=>by
  rw [K2,K2,P4,P4]
  exact bA.append h (bA.rep h k)
theorem uX (d:List Value):∀(k:Nat) (i:List Value),
  List.foldl (λj n=>j++n) i.toArray (List.replicate k d.toArray)=(i++(List.replicate k d).flatten).toArray
 | 0,i=>by simp
 | k+1,i=>by
  let e:i.toArray++d.toArray=(i++d).toArray:=by simp
  let q:(i++d)++(List.replicate k d).flatten=i++(List.replicate (k+1) d).flatten:=by
   rw [K2,P4,w5]
  rw [<- q,<- uX d k (i++d),<- e,K2,List.foldl_cons]
section
variable {X:Cx} {pins:List (Addr × Obj)} {σ:St} {H:Hp} {s:Shared} {l b:Addr} {xs ys zs:List V}
def aV.lset {its':List Value} {f:Array Value->Array Value} {t':Nat} (I:5#0) (y:H l=some (.lst xs))
  (e:s.heap.get? l=some { cls:=.type "list",data:=.seq d.toArray n }) (i:f d.toArray=its'.toArray) (B:bA ys its') (D:ys.length<=sizeLine):
  aV X pins σ (upd H l (.lst ys)) { s with heap:=s.heap.update l (Obj.mapSeq f),toks:=t' }:=by
 let q:=PySem.IsL.update e f;rw [i] at q;refine I.write (x:=l) (e:=l) (by rw [y];exact trivial) (.inl rfl) (λF u j z=>(A6 s.heap (Obj.mapSeq f) (F6 j)).trans z) {_,q} ?_;exact {D,its',_,B,q}
def aV.lnew {t':Nat} (I:5#0) (i:bA ys d) (j:ys.length<=sizeLine):
  aV X pins σ (upd H s.heap.objs.size (.lst ys)) { s with heap:=s.heap.push { cls:=.type "list",data:=.seq d.toArray },toks:=t' }:=
 I.laid (λ_ _ q=>g8 _ q) (g9 _) {j,d,0,i,j3 _ rfl}
theorem aV.fresh (I:5#0):H s.heap.objs.size=none:=I.hok.fresh (g9 _)
def aV.lstM (I:5#0) (i:H l=some (.lst xs)):xs.length<=sizeLine/\∃(d:List Value) (n:Nat),bA xs d/\xs.length=d.length/\s.heap.get? l=some { cls:=.type "list",data:=.seq d.toArray n }:=by
 let (z,d,n,r,e):=I.hok l _ i;exact {(z),d,n,r,r.length,e}
def Px (h:n<=sizeLine):Builtin.List.listTooLong n=false:=by
 unfold Builtin.List.listTooLong;exact decide_eq_false ∎
end
section
variable {X:Cx}
def wE:V->List V->Hp->VK->Prop:=λx vs H Q=>∃l xs y,x=.ref l/\vs=[y]/\H l=some (.lst xs)/\xs.length<sizeLine/\Q .non (upd H l (.lst (xs++[y])))
def fI:NF X "list.append" wE:=by
 intro pins s σ H x J v M Q I j B h;let (l,xs,y,rfl,rfl,i,L,q):=h;cases j;let (u,rfl,D):=B.one;let (z,d,n,r,G,e):=I.lstM i;refine call_meets F.slot_list_append {_,e,ρ} F.entry_list_append (F.args_list_append_2 _ _) (PySem.list_append l d.toArray n u (by rw [j7];omega)) {e,?_};refine {.non,_,I.lset (its':=d++[u]) i e 9#0 (r.append (.cons D .nil)) ?_,ρ,q};rw [j5,M4];omega
inductive FP (x y:V) (H:Hp) (Q:VK):Prop|mk (l:_) (b:_) (xs:_) (zs:_) (_:x=.ref l) (_:y=.ref b) (_:H l=some (.lst xs)) (_:H b=some (.lst zs)) (_:xs.length+zs.length<=sizeLine) (_:∀p,H p=none->Q 49#0 (upd H p (.lst (xs++zs))))
def ID:R2:=λx y H Q=>FP x y H Q
def iX:lK X (binaryOp .Add) ID:=by
 intro pins s σ H x y v u Q I j D h;let (l,b,xs,zs,rfl,rfl,B,J,U,q):=h;cases j;cases D;let (z,i,n,r,O,e):=I.lstM B;let (S,d,N,F,G,M):=I.lstM J;refine PySem.P.add_list e M ?_ (by rw [j7,j7];omega);let L:i.toArray++d.toArray=(i++d).toArray:=by simp
 rw [L];exact {.ref _,_,I.lnew (t':=s.toks) (r.append F) (by rw [j5];omega),ρ,q _ I.fresh}
def IA:R2:=λx y H Q=>∃l k xs,x=.ref l/\y=.int k/\H l=some (.lst xs)/\-(2 ^ 63)<=k/\k<2 ^ 63/\xs.length * k.toNat<=sizeLine /\
 ∀p,H p=none->Q 49#0 (upd H p (.lst (List.replicate k.toNat xs).flatten))
def wN {α:Type} (xs:List α) (k:Nat):(List.replicate k xs).flatten.length=k * xs.length:=by
 induction k with
 | zero=>simp
 | succ k ih=>rw [K2,P4,j5,ih,Nat.succ_mul,Nat.add_comm]
def Op:lK X (binaryOp .Mult) IA:=by
 intro pins s σ H x y v u Q I rx ry h;let (l,k,xs,rfl,rfl,hH,h1,h2,hz,q):=h;cases rx;let (t,rfl):=ry;let (z,its,n,r,hl,e):=I.lstM hH
 let hlen:its.toArray.size * k.toNat<=sizeLine:=by rw [j7,<- hl];exact hz
 let hcap:¬ its.toArray.size * k.toNat > (2 ^ 63-1) / 8:=by
  have:(sizeLine:Nat)<=(2 ^ 63-1) / 8:=by decide
  omega
 let hfit:¬ (!Builtin.List.listFitsIndex k)=true:=by
  rw [fitsIndex_both h1 h2];exact l4
 let hlong:¬ Builtin.List.listTooLong (its.toArray.size * k.toNat)=true:=by
  rw [Px hlen];exact l4
 let hnew:List.foldl (λx1 x2=>x1++x2) #[] (List.replicate (if its.toArray.isEmpty=true then 0 else k.toNat) its.toArray)=(List.replicate k.toNat its).flatten.toArray:=by
  let f0:∀m:Nat,List.foldl (λx1 x2=>x1++x2) #[] (List.replicate m its.toArray)=(List.replicate m its).flatten.toArray:=λm=>by
   have:=uX its m [];rw [List.nil_append] at this;exact this
  rw [f0];cases its with
  | nil=>simp
  | cons a r'=>rw [if_neg 9#0]
 refine wpAny_binaryOp_repeat_ref (T:="list") (U:="int") 8#0 {_,e,ρ} (λs'=>typeIs_int s' k t) noFill_list_mul F.fills_int_mul F.slot_int_rmul repeat_list F.slot_int_index.lookup
  (call_meets F.slot_int_rmul (typeIs_int s k t) F.entry_int_rmul (F.args_int_rmul_2 _ _) (int___rmul___int_list k t l its.toArray n)
   {e,ρ,{_,e,ρ},call_meets F.slot_list_mul {_,e,ρ} F.entry_list_mul (F.args_list_mul_2 _ _) (AutoListH.list___mul___list_int_3 l its.toArray n k t hfit hcap hlong) {e,?_}})
 rw [hnew];exact {.ref _,_,I.lnew (t':=s.toks) (r.rep k.toNat) (by rw [wN,Nat.mul_comm];exact hz),ρ,q _ I.fresh}
section
variable {prog:Program} {w:World} {A:Around} {E:Value->Shared->Prop} {s:Shared}
set_option maxRecDepth 100000 in
end
end
end
end L2
namespace Att
open PySem PySem.W PySem.Calls PyProof.Rows
def pF {P:Params} {h:Heap}:∀(ns:List Int) (vs:List Value),WellAll P h vs (ns.map WData.int)->IntsAre vs ns:=by
 intro ns
 induction ns with
 | nil=>
  intro vs w;rw [O6] at w;cases w;exact .nil
 | cons n ns ih=>
  intro vs w;rw [x9] at w;cases w with
  | cons a b=>
   cases a;exact .cons _ _ (ih _ b)
def Hr {l:OpenLaw} {n:Nat} (N:l.most=some n) {P:Params} {h:Heap} {args:List WData} {y:List Value}
  (j:l.row.toRowW.claim.pre args=true) (F:WellAll P h y args):
  ∃a I i,y=[Value.ref a]/\args=[WData.list (i.map WData.int)]/\h.get? a=some { cls:=.type "list",data:=.seq I.toArray }/\IntsAre I i/\i.length<=n:=by
 let G:WShape.hasAll [] args [.list .int]=true:=(pre_splitW j).1;let J:l.pre.holds [] { args:=args }=true:=(pre_splitW j).2;let (d,r,rfl,h1,h2):=hasAllW_cons G;obtain rfl:=hasAllW_nil h2;let (xs,rfl,M):=hasW_list h1;let (i,rfl):=items_int M;let z:i.length<=n:=by
  unfold OpenLaw.pre at J;let D:(WTm.not (.lt (.lit (.int (n:Int))) (.len (.arg 0)))).holds [] { args:=[.list (i.map .int)] }=true:=by
   let D:=(holds_andW J).1;rw [N] at D;exact D
  let B:=condW_of D (w_not (w_lt w_lit (w_len_list (w_arg rfl))));rw [g7] at B;refine Nat.le_of_not_lt λq=>?_;let L:(n:Int)<((i.length:Nat):Int):=∎
  first
   | (rw [decide_eq_true L] at B;exact absurd B 8#0)
   | (simp at B;omega)
 cases F with
 | cons w1 w2=>
  cases w2;cases w1 with
  | list ho hall=>exact {_,_,i,ρ,ρ,ho,pF i _ hall,z}
def Hw (l:OpenLaw) (args:List WData):l.row.toRowW.claim.post args (.bool true) args=true:=
 postW_of (r:=l.row.toRowW) (X:=(true == true))
  (show WShape.has [] (.bool true) .bool=true by first|rfl|decide|simp [WShape.has,WShape.arms,WShape.armsAll])
  (show (WTm.eq .res (.lit (.bool true))).value [] { args:=args,res:=some (.bool true),after:=args }=some (.bool (true == true)) from w_eq_bool (w_res rfl) w_lit) rfl
def attach_call {l:OpenLaw} {n:Nat} {q:Program} {i:List Str} {XP:(Str->Option Value)->Heap->Prop} {YP:World->Heap->Prop} {d:DefRec}
  (hn:l.most=some n) (N:d.params.defaults=[])
  (y:∀(w:World) (s₀ j:Shared) (mg U:Str->Option Value) (F:Addr) (o:Obj) (pm L B:Value) (a:Addr) (vs:List Value) (ns:List Int),
   Ground q i [] XP w s₀ mg U j.heap->YP w j.heap ->
   j.heap.get? F=some o->o.data=.func (docDef d.name d.params d.body d.scope pm L B)->j.heap.CodeRec L d.name->mg d.name=some (.ref F) ->
   j.heap.get? a=some { cls:=.type "list",data:=.seq vs.toArray }->IntsAre vs ns->ns.length<=n->j.gens=#[] ->
   codeAny (model l.prog w) callerA (.call (.ref F) {[.ref a],[]}) (λr s'=>r=.ok (.ret (.bool true))/\OldK j.heap s'.heap/\s'.os=j.os/\AllBare s'.gens) j):
  WalkO q i XP YP l.row.toRowW d [] (λf vs=>PySem.call f vs):=by
 intro w s₀ j mg U G Y F o pm L B dV kV ho hd S hD O hg W a0 as D Z a2 M a1;obtain rfl:dV=.none:=Dflts.none hD N;obtain rfl:kV=.none:=Dflts.noKw hD;let (a,vs,ns,rfl,rfl,I,z,J):=Hr hn D M;refine enter_call (G7 (y w s₀ j mg U F o pm L B a vs ns G Y ho (fd_plain hd) S O I z J hg) λr s' hq=>?_);let (rfl,h2,h3,h4):=hq;exact {.inl {.bool true,.bool true,[],ρ,λ_=>rfl,.bool true,Hw l _,λ_=>{J5,λ_ hm=>(nomatch hm)}},h2,h3,h4}
section
variable {prog:Program} {w:World} {A:Around} {E:Value->Shared->Prop} {s:Shared} {K:Frag}
end
end Att
namespace L2
open PySem PySem.Spec PyProof.Rows
section
variable {A B:Prop} {x d:Str} {st:Stmt} {f:Addr} {H:Hp}
def tW {vs:List Value} {ns:List Int} (h:IntsAre vs ns):bA 32#0 vs:=by
 induction h with
 | nil=>exact .nil
 | cons n t _ h=>exact .cons {(t),ρ} h
def bC (s:Stmt) (j:Nat):Stmt:=match s with
 | .ClassDef _ _ _ body _ _ _ _ _ _ _=>body.getD j (.Pass ⟨0,0,0,0⟩)
 | _=>.Pass ⟨0,0,0,0⟩
def eO (s:Stmt):Arguments:=match s with
 | .FunctionDef _ a _ _ _ _ _ _ _ _=>a
 | _=>{ posonlyargs:=[],args:=[],vararg:=none,kwonlyargs:=[],kw_defaults:=[],kwarg:=none,defaults:=[] }
def bQ (s:Stmt):List Stmt:=match s with
 | .FunctionDef _ _ b _ _ _ _ _ _ _=>b
 | _=>[]
def aG (s:Stmt):Scope:=match s with
 | .FunctionDef _ _ _ _ _ _ sc _ _ _=>sc
 | _=>{ kind:=.function,names:=[],isGenerator:=false,isCoroutine:=false }
abbrev dI:pE:=λ_ _ _ _ _ _=>False
abbrev E0:XK:=λ_ _ _=>False
def aN {X:Cx}:eS dI X E0:=λ_ _ _ _ _ _ _ h=>h.elim
structure qG (K:PySem.W.Frag) (x qual:Str) (st:Stmt) (f:Addr) (fd:FuncData):Prop where
 ex:∃(oc:Value) (od:Option Addr) (kV doc pm:Value) (an:Option Addr) (cdv ct:Value) (osl:Array (Option Value)),
  fd=PySem.W.fnOf x qual (eO st) (bQ st) (aG st) .none kV doc pm an cdv ct/\K.lookup f=some ⟨oc,od,.func fd,osl⟩/\PySem.W.codeIn K cdv qual=true
 kp:PySem.W.keepIn K 59#0=true
section
variable {P:Program} {w:World} {K:PySem.W.Frag} {mg:Str->Option Value} {base:Heap}
def qG.ok {fd:FuncData} {N ps:List Str} {k:Nat} {sp:Sp} (F:qG K x d st f fd) (S:aL N ps (aG st)) (y:∀vs H Q E,sp vs H Q E->vs.length=ps.length)
  (i:∀(cdv:Value) (A:Around) (outer:List Env) (s:Shared) (H:Hp) (vs:List V) (Q:VK) (E:XK),Room k (A.deeper (envOfC d (aG st) s.heap.objs.size f cdv))->sp vs H Q E ->
   let X:=(hX dI P w K mg base N d (aG st) f cdv A outer s H E).nox
   let D:dH:={ nx:=λ_ H'=>Q .non H',rt:=Q }
   ∃t,pB X (bQ st) t/\t D (dD N vs) H):bN P w K mg base dI (k+1) f fd ps sp:=by
 let (O,J,kV,B,U,L,cdv,M,z,rfl,I,n):=F.ex;refine Ra I n S y λA outer s H vs Q E G j=>?_;let (t,h,q):=i cdv A outer s H vs Q E G j;exact {(t),h.nox,q}
def qG.binds {fd:FuncData} {ps:List Str} (F:qG K x d st f fd)
  (h:∀(kV i pm:Value) (j:Option Addr) (cdv ct:Value) (us:List Value),us.length=ps.length->bindArgs (PySem.W.fnOf x d (eO st) (bQ st) (aG st) .none kV i pm j cdv ct) {us,[]}=pure (ps.zip us)):eV K fd ps []:=by
 let (z,y,kV,i,pm,j,cdv,ct,n,rfl,B,q):=F.ex;exact .all (h kV i pm j cdv ct)
def Cr {y:Value} {q n:Option Addr} {j:Array (Option Value)} {kV i pm cdv ct:Value} (l:K.lookup f=some {y,q,.func (PySem.W.fnOf x d (eO st) (bQ st) (aG st) .none kV i pm n cdv ct),j})
  (c:PySem.W.codeIn K cdv d=true) (k:PySem.W.keepIn K 59#0=true):qG K x d st f (PySem.W.fnOf x d (eO st) (bQ st) (aG st) .none kV i pm n cdv ct):={{(y),q,kV,i,pm,n,cdv,ct,j,ρ,l,c},k}
end
def jK {A:Around} {k:Nat} (d:Room k A):A.units+1<cLine:=T3 (Nat.add_le_add_left (by decide:1<=64) _) d.units
def iF {n:Nat} (h:n<=1000):n<sizeLine:=T3 h 8#0
section
variable {X:Cx}
def pv (i:Nat) {x:Str} {pos:Pos} (n:X.N[i]?=some x:=by rfl) (j:FT X.env.scope x:=by first|exact E5 rfl|exact K0 (E5 rfl)|exact K0 (K0 rfl)) (hd:27#0=false:=by decide)
  (d:(x == ("__classdict__":Str))=false:=by decide):PE X (.Name x pos) (iU i):=Od n j hd d
end
def cS (h:B):if false=true then A else B:=by
 rw [if_neg l4];exact h
def dE (h:A):if true=true then A else B:=by
 rw [if_pos rfl];exact h
def fT {c:Prop} [Decidable c] (h1:c->A) (h2:¬ c->B):if c then A else B:=by
 by_cases h:c
 ·rw [if_pos h];exact h1 h
 ·rw [if_neg h];exact h2 h
def IT {c:Prop} [Decidable c] (d:c) (h:B):if (!decide c)=true then A else B:=by
 rw [decide_eq_true d];exact cS h
def aJ (H H':Hp):Prop:=∀b o,H b=some o->H' b=some o
def aJ.refl (H:Hp):aJ H H:=λ_ _ h=>h
def aJ.trans {H1 H2:Hp} (a:aJ H H1) (b:aJ H1 H2):aJ H H2:=λc o h=>b c o (a c o h)
def aJ.free {H':Hp} (e:aJ H H') {l:Addr} (h:H' l=Option.none):H l=Option.none:=by
 cases q:H l with
 | none=>rfl
 | some o=>
  rw [e l o q] at h;cases h
def aJ.seq {K:PySem.W.Frag} {H':Hp} {a:Addr} {xs:List V} (e:aJ H H') (h:cQ K H a xs):cQ K H' a xs:=by
 rcases h with (h|⟨o,h⟩)|h
 ·exact .inl (.inl (e _ _ h))
 ·exact .inl (.inr {o,e _ _ h})
 ·exact .inr h
end
end L2
namespace Hd
open PySem PyProof.Rows
section
variable {e L:Addr} {bs h:Heap} {Q:Unit->Shared->Prop} {cls:Value} {env:Env} {rest l:List Env}
section
variable {M:Model} {A:Around} {E:Value->Shared->Prop} {s:Shared}
def NoCtx (h:Addr) (hp:Heap):Prop:=∃oh fs,hp.get? h=some oh/\oh.data=.fields fs/\fs[2]?=some .none
def NoCtx.other {h':Heap} (x:NoCtx e h) (k:h'.get? e=h.get? e):NoCtx e h':=by
 let (o,a,z,r):=x;exact {o,a,k.trans z,r}
def Rj {o:Obj} {fs:Array Value} {D H:Value} {nx:Bool}
  (u:A.frames=some (env::rest)) (n:s.heap.FunFrames bs (env::rest)) (fr:env.frame=some L) (y:s.heap.get? e=some o) (st:bs.StaysIn s.heap) (P:bs.get? e=none)
  (t:o.data=.fields fs) (N:fs[0]?=some H) (F:fs[2]?=some .none)
  (q:∀v,Heap.NotedW bs (env::rest) e o.cls H (rawInt L) s.heap v->NoCtx e v->Q () { s with heap:=v }):
  wpAny M A (do let a <- frameOf env;let p <- entryPlaceOf L nx;let b <- EntryCells.newEntry D a .none (rawInt L) .none p;setField (.ref e) 1 b) Q E s:=by
 let x:e ∉ (env::rest).filterMap (·.frame):=λz=>by
  let (_,c,I,j):=n.mem z;rw [y] at I;cases I;exact j fs t
 let S:2<fs.size:=(N7.mp F).1;refine d0 (wpAny_frameOf_fun u n fr λg r=>d0 (wpAny_entryPlaceOf λp B=>?_));unfold EntryCells.newEntry newFields;refine d0 (B8 ?_ (B.sizeOk5 _ _ _ _ _));generalize hr:([D,Value.ref L,Value.none,rawInt L,Value.none]++(if p.isEmpty then List.replicate 6 Value.none else p)).toArray=row
 let l:row[3]?=some (rawInt L):=by rw [<- hr];simp
 let J:g.get? e=some o:=(r.2.1 e x).trans y;let K:bs.StaysIn g:=λb c z=>(r.2.1 b λw=>by rw [(n.mem w).1] at z;cases z).trans (st b c z);let m:g.objs.size≠e:=λz=>absurd (i7 J) (by rw [z];exact A3 _);let C:=g8 (h:=g) { cls:=.type "traceback",dict:=none,data:=.fields row } J;refine F7 C t ∎ ?_;let i:=O7 t (·.setIfInBounds 1 (Value.ref g.objs.size));let k:=J0 (Obj.mapFields (·.setIfInBounds 1 (Value.ref g.objs.size))) C (Q9 i);let d:∀b c,b≠e->g.get? b=some c->((g.push { cls:=.type "traceback",dict:=none,data:=.fields row }).update e (Obj.mapFields (·.setIfInBounds 1 (Value.ref g.objs.size)))).get? b=some c:=λb c T z=>by
  rw [A6 _ _ (λw=>T w.symm)];exact g8 _ z
 let f:∀b c,s.heap.get? b=some c->(∀O,c.data≠.fields O)->b≠e:=λb c z j w=>by
  subst w;rw [y] at z;cases z;exact j fs t
 refine q _ {λb c z=>d b c (λw=>by rw [w,P] at z;cases z) (K b c z),n.of_keeps λb c z j=>?_,?_,λb c z j=>?_} {_,_,k,i,by rw [Array.getElem?_setIfInBounds_ne 8#0];exact F}
 ·let (G,w):=r.2.2 b c z;exact {_,d b _ (f b c z j) w,ρ}
 ·refine {_,fs.setIfInBounds 1 (.ref g.objs.size),g.objs.size,{ cls:=.type "traceback",dict:=none,data:=.fields row },row,k,{Obj.cls_mapFields _ _,by rw [Array.getElem?_setIfInBounds_ne 8#0];exact N},i,by rw [Array.getElem?_setIfInBounds_self,if_pos ∎],K.fresh,m,?_,ρ,l};rw [A6 _ _ (F6 m)];exact j3 g rfl
 ·let (G,w):=r.2.2 b c z;exact {G,d b _ (f b c z j) w}
def Zz {p:Value}
  (h:A.frames=some (env::rest)) (fr:env.frame=some L) (y:Heap.FlyingW bs (env::rest) e cls p s.heap) (C:NoCtx e s.heap)
  (q:∀g,Heap.NotedW bs (env::rest) e cls p (rawInt L) s.heap g->NoCtx e g->Q () { s with heap:=g }):wpAny M A (noteFrame (.ref e) env) Q E s:=by
 let (N,J,D,o,P,T,O,I,j,(K,u),k,F,t,G,l,i,r):=y;let (a,x,m,n,v):=C;rw [j] at m;cases m;rw [k] at n;cases n;subst K;unfold noteFrame;simp only [fr];refine d0 (z6 j k F ?_);rw [if_pos (by simp:(Value.ref T != Value.none)=true)];refine d0 (z6 l i r ?_);rw [if_neg (by simp [rawInt]:¬ ((Value.none == rawInt L)=true))];refine d0 (F7 l i (N7.mp r).1 ?_);let c:∀b,b≠T->(s.heap.update T (Obj.mapFields (·.setIfInBounds 3 Value.none))).get? b=s.heap.get? b:=λb z=>A6 _ _ (λw=>z w.symm);let d:∀b a,s.heap.get? b=some a->(∀H,a.data≠.fields H)->b≠T:=λb a z f w=>by
  subst w;rw [l] at z;cases z;exact f I i
 refine Rj h (D.of_keeps λb a z f=>{a,(c b (d b a z f)).trans z,ρ}) fr ((c e (F6 G)).trans j) (λb a z=>(c b λw=>by rw [w,t] at z;cases z).trans (N b a z)) J k u v λg ⟨B,x2,x3,x4⟩ nc'=>?_;exact q g {B,x2,x3,λb a z f=>x4 b a ((c b (d b a z f)).trans z) f} nc'
def Ux {n x:Value} (st:bs.StaysIn s.heap) (B:s.heap.FunFrames bs l) (H:s.heap.TracedAtW bs e cls n x) (y:NoCtx e s.heap)
  (q:∀h',bs.StaysIn h'->h'.FunFrames bs l->h'.TracedW bs e cls n->s.heap.UpToSlots h'->NoCtx e h'->Q () { s with heap:=h' }):wpAny M A (setFlight (.ref e) none) Q E s:=by
 let (o,D,T,I,t,r,F,u,p,m,j,k,i,G):=H;let v:3<t.size:=(N7.mp G).1;unfold setFlight;refine d0 (z6 r u p ?_);rw [if_pos (by simp:(Value.ref T != Value.none)=true)];refine F7 k i v ?_;let a:∀b,b≠T->(s.heap.update T (Obj.mapFields (·.setIfInBounds 3 ((none:Option Addr).elim Value.none λf=>rawInt f)))).get? b=s.heap.get? b:=λb z=>A6 _ _ (λw=>z w.symm);let d:∀b c,s.heap.get? b=some c->(∀C,c.data≠.fields C)->b≠T:=λb c z h w=>by
  subst w;rw [k] at z;cases z;exact h t i
 let g:=O7 i (·.setIfInBounds 3 ((none:Option Addr).elim Value.none λf=>rawInt f));refine q _ (λb c z=>(a b λw=>by rw [w,m] at z;cases z).trans (st b c z)) (B.of_keeps λb c z h=>{c,(a b (d b c z h)).trans z,ρ}) ?_ (λb c z h=>{c.slots,(a b (d b c z h)).trans z}) (y.other (a e (F6 j)));exact {o,D,T,_,_,(a e (F6 j)).trans r,F,u,p,m,j,J0 _ k (Q9 g),g,by simp [v]}
def MJ {h1 h2:Heap} (x:∀b o,h.get? b=some o->(∀c,o.data≠.fields c)->∃a,h1.get? b=some { o with slots:=a }) (y:h1.UpToSlots h2):h.UpToSlots h2:=Heap.UpToSlots.trans x y
def made2 {args:List Value} (d:A.frames=some (env::rest)) (fr:env.frame=some L) (st:bs.StaysIn h) (r:h.FunFrames bs (env::rest)) (c:Heap.MadeExcOf h s.heap e cls args)
  (q:∀a p,Heap.FlyingW bs rest e cls p a->s.heap.UpToSlots a->NoCtx e a->Q () { s with heap:=a }):wpAny M A (leaving env (.ref e)) Q E s:=by
 let (t,i,_,_):=c.there;let j:bs.get? e=none:=by
  cases z:bs.get? e with
  | none=>rfl
  | some o=>
   let w:=st e o z;rw [c.new] at w;cases w
 unfold leaving noteFrame;simp only [fr];refine d0 (d0 (z6 i rfl (x:=.none) rfl ?_));rw [if_neg 8#0];refine Rj d (r.of_keeps λb o z _=>{o,c.keeps b o z,ρ}) fr i (λb o z=>c.keeps b o (st b o z)) j rfl rfl rfl λn ⟨m,x2,x3,x4⟩ nc1=>?_;refine Ux (s:={ s with heap:=n }) m x2 x3 nc1 λu l f v k g=>?_;let (_,_,f):=f;exact q u _ {(l),j,f,v} (MJ x4 k) g
def leave2 {g:Value} (b:A.frames=some (env::rest)) (fr:env.frame=some L) (f:Heap.FlyingW bs (env::rest) e cls g s.heap) (k:NoCtx e s.heap)
  (q:∀a,Heap.FlyingW bs rest e cls g a->s.heap.UpToSlots a->NoCtx e a->Q () { s with heap:=a }):wpAny M A (leaving env (.ref e)) Q E s:=by
 let o:=f.2.1;unfold leaving;refine d0 (Zz b fr f k λl ⟨i,x2,x3,x4⟩ nc1=>?_);refine Ux (s:={ s with heap:=l }) i x2 x3 nc1 λm j c n h d=>?_;let (_,_,c):=c;exact q m {(j),o,c,n} (MJ x4 h) d
def look2 {d:Value} (b:A.frames=some (env::rest)) (fr:env.frame=some L) (c:Heap.FlyingW bs (env::rest) e cls d s.heap) (g:NoCtx e s.heap)
  (q:∀a,Heap.HeldW bs (env::rest) e cls d L a->s.heap.UpToSlots a->NoCtx e a->Q () { s with heap:=a }):wpAny M A (noteFrame (.ref e) env) Q E s:=by
 let i:=c.2.1;refine Zz b fr c g λh ⟨f,x2,x3,x4⟩ nc1=>q h {(f),i,x2,x3} x4 nc1
def land2 {c:Value} (f:Heap.HeldW bs l e cls c L s.heap) (k:NoCtx e s.heap)
  (q:∀a,Heap.FlyingW bs l e cls c a->s.heap.UpToSlots a->NoCtx e a->Q () { s with heap:=a }):wpAny M A (setFlight (.ref e) none) Q E s:=by
 let (j,n,g,i):=f;exact Ux j g i k λa h o m d b=>q a {(h),n,o,m} d b
def again2 {c:Value} (f:Heap.FlyingW bs l e cls c s.heap) (k:NoCtx e s.heap)
  (q:∀a,Heap.FlyingW bs l e cls c a->s.heap.UpToSlots a->NoCtx e a->Q () { s with heap:=a }):wpAny M A (setFlight (.ref e) none) Q E s:=by
 let (j,n,g,i):=f;exact Ux j g i.at k λa h o m d b=>q a {(h),n,o,m} d b
end
end
end Hd
namespace L2
open PySem PySem.Spec PyProof.Rows
def bL.is {P:Program} {w:World} {H:Hp} {h:Heap} {a:Addr} {o:HO} (x:bL P w H h a o):∃b,h.get? a=some b:=by
 cases o with
 | lst xs=>let (_,_,_,_,q):=x;exact {_,q}
 | tup xs=>let (_,_,_,b,q,_):=x;exact {_,q}
 | dK kvs=>let (_,_,_,_,b,_,_,q,_):=x;exact {_,q}
 | dT kvs=>let (_,_,_,_,b,_,_,q,_):=x;exact {_,q}
 | set S n=>let (b,_,_,_,q,_):=x;exact {_,q}
 | ins C dx fs=>let (_,_,_,q,_):=x;exact {_,q}
 | own y=>exact x
 | xd fs=>let (_,(_,_,_,q,_),_):=x;exact {_,q}
 | rng lo hi=>let (_,_,_,q):=x;exact {_,q}
 | frz b u=>let (q,_):=x;exact {_,q}
 | tbl ps=>exact {_,(show h.get? a=some _ from x)}
 | met f y=>exact {_,(show h.get? a=some _ from x)}
 | ext φ=>let (_,q,_):=x;exact q
structure Jw (P:Program) (w:World) (outer:List Env) (H:Hp) (h:Heap) (ea:Addr) (cls a0:Value) (H':Hp) (B h':Heap):Prop where
 fly:Heap.FlyingW B outer ea cls a0 h'
 nc:Hd.NoCtx ea h'
 hok:lL P w H' B
 new:h.get? ea=none
 keepB:∀b o,h.get? b=some o->H b=none->b ∉ lW outer->B.get? b=some o
 slot:∀b o,h.get? b=some o->b ∈ lW outer->∃sl,h'.get? b=some { o with slots:=sl }
 free:∀b o,h.get? b=some o->H b=none->H' b=none
 thereB:∀b o,h.get? b=some o->b ∉ lW outer->∃o',B.get? b=some o'
 tups:∀b xs,H b=some (.tup xs)->H' b=some (.tup xs)
 frzs:∀b o u,H b=some (.frz o u)->H' b=some (.frz o u)
 tbls:∀b ps,H b=some (.tbl ps)->∃more,H' b=some (.tbl (ps++more))
section
variable {P:Program} {w:World} {outer:List Env} {H H':Hp} {h h' h2 B:Heap} {ea:Addr} {cls a0:Value}
def Jw.freeE (F:Jw P w outer H h ea cls a0 H' B h'):H' ea=none:=by
 cases q:H' ea with
 | none=>rfl
 | some o=>
  let (ob,z):=(F.hok ea o q).is;rw [F.fly.2.1] at z;cases z
def Jw.later (F:Jw P w outer H h ea cls a0 H' B h') (fl:Heap.FlyingW B outer ea cls a0 h2) (nc:Hd.NoCtx ea h2) (up:h'.UpToSlots h2):Jw P w outer H h ea cls a0 H' B h2 where
 fly:=fl
 nc:=nc
 hok:=F.hok
 new:=F.new
 keepB:=F.keepB
 slot:=λb o q hb=>by
  let (sl,z):=F.slot b o q hb
  let (_,o',z',nf):=F.fly.2.2.1.mem hb
  rw [z] at z'
  cases z'
  let (sl',z2):=up b _ z nf
  exact {(sl'),z2}
 free:=F.free
 thereB:=F.thereB
 tups:=F.tups
 frzs:=F.frzs
 tbls:=F.tbls
def Jw.un (F:Jw P w outer H h ea cls a0 H' B h'):Un (lW outer) [] H H' h h' where
 keep:=λb o q n a _=>F.fly.1 b o (F.keepB b o q n a)
 slot:=λb o q _ a _=>F.slot b o q a
 free:=λb o q n _=>F.free b o q n
 there:=λb o q _=>by
  by_cases a:b ∈ lW outer
  ·let (d,z):=F.slot b o q a
   exact {_,z}
  ·let (c,z):=F.thereB b o q a
   exact {c,F.fly.1 b c z}
 tups:=F.tups
 frzs:=F.frzs
 tbls:=F.tbls
def Jw.hokN (F:Jw P w outer H h ea cls a0 H' B h'):lL P w H' h':=F.hok.kept F.fly.1
end
def MG (P:Program) (w:World):pE:=λouter H s E e s'=>∃(ea:Addr) (cls a0:Value) (H':Hp) (B:Heap),
 e=Value.ref ea/\s'.os=s.os/\AllBare s'.gens/\Jw P w outer H s.heap ea cls a0 H' B s'.heap/\E cls none H'
def Ah (X:Cx) (C:Addr) (R:Hp->Prop):Prop:=
 ∀(pins:List 10#0) (σ:St) (H:Hp) (s:Shared) (h':Heap) (e:Addr) (vs:List Value),aV X pins σ H s->Heap.MadeExcOf s.heap h' e (.ref C) vs->R H->X.xe (.ref e) { s with heap:=h' }
def sH {env:Env} {outer:List Env} {L:Addr} (a:env.frame=some L):lW (env::outer)=L::lW outer:=by
 unfold lW;rw [N9,a]
section
variable {P:Program} {w:World} {K:PySem.W.Frag} {mg:Str->Option Value} {base:Heap} {N:List Str} {qual:Str} {scope:Scope} {f:Addr} {cd:Value} {A:Around} {outer:List Env} {s₀:Shared} {H₀:Hp} {E:XK}
def cV {C:Addr}:Ah (hX 50#0 P w K mg base N qual scope f cd A outer s₀ H₀ E) C (λH=>E (.ref C) none H):=by
 intro pins σ H s h' e vs I hx hE;let stk:s.heap.FunFrames (PySem.W.hideAll s.heap (lW 35#0)) 35#0:=
  PySem.W.funFrames_hide I.stack λenv he a ha=>K5.mpr {(env),he,ha}
 let nof:∀b,(H b).isSome=true->b ∉ lW 35#0:=λb hb z=>by
  rw [I.stkFree b z] at hb;cases hb
 let low:∀b o,s₀.heap.get? b=some o->b ∉ lW outer->b ∉ lW 35#0:=λb o q hb z=>by
  rw [sH (L:=s₀.heap.objs.size) rfl] at z;rcases i3.mp z with z|z
  ·rw [z] at q;exact absurd (i7 q) (A3 _)
  ·exact hb z
 show wpAny _ _ (leaving _ (.ref e)) _ _ _;refine Hd.made2 (bs:=PySem.W.hideAll s.heap (lW 35#0)) (h:=s.heap) (rest:=outer) I.ok.frames rfl (λb o q=>PySem.W.of_hideAll _ q) stk hx λh2 t x1 x4 xn=>?_;refine {e,.ref C,t,H,_,ρ,I.os,I.bare,{x1,xn,λa o q=>?_,?_,λb o q n hb=>?_,λb o q hb=>?_,λb o q n=>I.base.free b o q n 1#0,λb o q hb=>?_,I.base.tups,I.base.frzs,I.base.tbls},hE}
 ·refine(I.hok a o q).stay (λb u hb r=>PySem.W.hideAll_get _ r (nof b ?_)) (λ_ z=>z) λ_ _ z=>z;rcases hb with rfl|hb
  ·rw [q];rfl
  ·rw [hb];rfl
 ·cases q:s₀.heap.get? e with
  | none=>rfl
  | some o=>
   let (o',z):=I.base.there e o q 1#0;rw [hx.new] at z;cases z
 ·exact PySem.W.hideAll_get _ (I.base.keep b o q n hb 1#0) (low b o q hb)
 ·let (sl,z):=I.base.slot b o q (I.ok.frf b hb) hb 1#0;let (_,o',z',nf):=I.funs.mem hb;rw [z] at z';cases z';let (sl',z2):=x4 b _ (hx.keeps b _ z) nf;exact {(sl'),z2}
 ·let (o',z):=I.base.there b o q 1#0;exact {o',PySem.W.hideAll_get _ z (low b o q hb)}
def Hy {E':XK} (hE:∀cls d H,E' cls d H->E cls d H):eS 50#0 (hX 50#0 P w K mg base N qual scope f cd A outer s₀ H₀ E) E':=by
 intro pins σ H s e s' I hc;let (ea,cls,a0,H',B,rfl,os,bare,F,hE'):=hc;let low:∀b o,s₀.heap.get? b=some o->b ∉ lW outer->b ∉ lW 35#0:=λb o q hb z=>by
  rw [sH (L:=s₀.heap.objs.size) rfl] at z;rcases i3.mp z with z|z
  ·rw [z] at q;exact absurd (i7 q) (A3 _)
  ·exact hb z
 let up:∀b,b ∈ lW outer->b ∈ lW 35#0:=λb hb=>by
  rw [sH (L:=s₀.heap.objs.size) rfl];exact g6 _ hb
 show wpAny _ _ (leaving _ (.ref ea)) _ _ _;refine Hd.leave2 (rest:=outer) I.ok.frames rfl F.fly F.nc λh2 x1 x4 xn=>?_;refine {ea,cls,a0,H',B,ρ,os.trans I.os,bare,{x1,xn,F.hok,?_,λb o q n hb=>?_,λb o q hb=>?_,λb o q n=>?_,λb o q hb=>?_,λb xs q=>F.tups b xs (I.base.tups b xs q),λb o u q=>F.frzs b o u (I.base.frzs b o u q),λb ps q=>?_},hE _ _ _ hE'}
 ·cases q:s₀.heap.get? ea with
  | none=>rfl
  | some o=>
   let (o',z):=I.base.there ea o q 1#0;rw [F.new] at z;cases z
 ·exact F.keepB b o (I.base.keep b o q n hb 1#0) (I.base.free b o q n 1#0) (low b o q hb)
 ·let (sl,z):=I.base.slot b o q (I.ok.frf b hb) hb 1#0;let (sl2,z2):=F.slot b _ z (up b hb);let (_,o',z',nf):=F.fly.2.2.1.mem (up b hb);rw [z2] at z';cases z';let (sl',z3):=x4 b _ z2 nf;exact {(sl'),z3}
 ·let (o',z):=I.base.there b o q 1#0;exact F.free b o' z (I.base.free b o q n 1#0)
 ·let (o',z):=I.base.there b o q 1#0;exact F.thereB b o' z (low b o q hb)
 ·let (m1,z):=I.base.tbls b ps q;let (m2,z2):=F.tbls b _ z;exact {m1++m2,by rw [z2,Array.append_assoc]}
end
abbrev Km:List Value:=[.type "ValueError",.type "Exception",.type "BaseException",.type "object"]
def ExcIs (K:PySem.W.Frag) (C:Addr):Prop:=PySem.W.excIn K C Km "ValueError.__new__"=true
def Jf {K:PySem.W.Frag} {h:Heap} {C:Addr} (X:K.In h) (q:ExcIs K C):
  ∃j N m s p e o a k b dd g i d f c y,h.get? C=some (excClassObj m s C N p j e o a k b dd g i d f c "ValueError.__new__")/\h.Ns N y/\y "__init__"=none/\OwnTail h Km j:=by
 unfold ExcIs PySem.W.excIn at q;split at q
 ·next dd cd sl ho=>
  split at q
  ·next C' j g i d f n c hm hs=>
   simp only [A8,beq_iff_eq,L6] at q;let (((((E,B),v),F),t),w):=q;subst E;subst B;let (m,p,D,G,s,z,o,a,k,b,A):=cd;dsimp only at hm v t w;subst hm;subst v;let r:sl=#[g,i,d,f,some (.builtin "ValueError.__new__"),c]:=by
    cases sl with
    | mk l=>
     let u:l=[g,i,d,f,some (.builtin "ValueError.__new__"),c]:=hs;rw [u]
   subst r;exact {j,G,m,s,p,z,o,a,k,b,dd,g,i,d,f,c,_,X _ _ ho,.of_isNs (PySem.W.isNs_of_in X t),PySem.W.nsMap_none_of_in X t w,PySem.W.tail_of_in X F}
  ·cases q
 ·cases q
section
variable {X:Cx} {x:Str} {C:Addr} {R:Hp->Prop} {e₀:Expr} {ta:TA} {np cpos pos:Pos}
def BB (ta:TA) (R:Hp->Prop):TS:=λ_ σ H=>ta σ H λvs H1=>vs.length<=sizeLine/\R H1
def dS (y:X.calm=true) (E:ExcIs X.K C) (w:Gl X x) (B:X.mg x=some (.ref C)) (p:Ah X C R) (t:PA X [e₀] ta)
  (g:starEach [e₀] X.env=[(false,eval e₀ X.env)]:=by rfl) (k:27#0=false:=by decide):
  PS X (.Raise (some (.Call (.Name x np) [e₀] [] cpos)) none pos) (BB ta R):=by
 intro a s σ H D I h;let (l,N,nm,q,bs,hdct,sn,sub,ab,col,dd,k0,k1,k2,k3,k5,mN,v,i,f,T):=Jf I.mod.kin E;refine wpAny_Raise_call_subT (C:=C) (nm:=nm) (q:=q) (N:=N) (bs:=bs) (bm:=l) (hdct:=hdct) (sn:=sn) (sub:=sub) (ab:=ab) (col:=col) (dd:=dd) (k0:=k0) (k1:=k1) (k2:=k2) (k3:=k3) (k5:=k5)
  PySem.F.excBase_ValueError (mN:=mN) (T.hasType PySem.F.excBase_ValueError.hasBase) (I.ok.hd y) (by rw [g];rfl) f (kU I w B {ρ,?_} k)
 let b:=@t cpos a s σ H _ I h;rw [g] at b ⊢;refine N0 (y6 b (λA r G=>?_) λ_ _ z=>z);let (J,m,c,u,o,d):=G;refine {ρ,?_,c.bk _ _ v,i.keeps c.bk,T.keeps c.bk,λj e n=>p a σ m r j e _ c n d};show A.length<=sizeLine;rw [<- u.length];exact o
end
end L2
namespace L2
open PySem PySem.Spec PyProof.Rows PySem.W PySem.Calls Builtin Builtin.ObjectAttr Builtin.Getset_descriptor
section
variable {M:Model} {h:Heap}
structure wW (K:Frag) (C:Addr):Prop where
 exc:ExcIs K C
 cl:(clsIn K C).isSome=true
 ga:findIn K (.ref C) "__getattribute__"=some (some (.builtin "BaseException.__getattribute__"))
 gh:findIn K (.ref C) "__getattr__"=some none
 ca:findIn K (.ref C) "__class__"=some (some (.builtin "object.__class__"))
 cg:specialIn K (.builtin "object.__class__") "__get__"=some (some (.builtin "getset_descriptor.__get__"))
 ct:takesIn K (.builtin "object.__class__")=some true
 mo:mroIn K C (.type "object")=some true
 mb:mroIn K C (.type "BaseException")=some true
def lP (e C:Addr) (h:Heap):Prop:=∃o,h.get? e=some o/\o.cls=.ref C
section
variable {K:Frag} {e C:Addr}
def lP.ty (p:lP e C h):Looks M h (typeOf (.ref e)) (.ref C):=by
 let (o,b,a):=p;exact a ▸ (Looks.ld b).andThen .now
def Jg (X:K.In h) (T:wW K C):Looks M h (find (.ref e) (.ref C) "__class__") (.bind (.builtin "getset_descriptor.__get__") (.builtin "object.__class__")):=by
 let c:=looks_findIn (M:=M) X T.ca;let a:=looks_specialIn (M:=M) X T.cg;let b:=looks_takesIn (M:=M) X T.ct;refine c.andThen (a.andThen ?_);exact(show Looks M h (dataDescriptor? (some _) (some _)) (some (_,_)) from b.andThen .now).andThen (Looks.tag .now)
variable {prog:Program} {w:World} {A:Around} {E:Value->Shared->Prop} {s:Shared} {R:Result->Shared->Prop}
def tM {a:Value} (X:K.In s.heap) (T:wW K C) (p:lP e C s.heap) (h:R (.ok (.ret (.ref C))) s):
  codeAny 7#0 A (.call (.builtin "getset_descriptor.__get__") {[.builtin "object.__class__",.ref e,a],[]}) R s:=by
 let (i,g,b,t,d):=s;let f:=p.ty (M:=model prog w);let c:=looks_mroIn (M:=model prog w) X T.mo;refine R5 KF.slot_gs.plain KF.entry_gs (KF.slot_gs.check _ _ _ _ _ _ _ _ KF.type_class (KF.args_gs _ _ _) ?_);unfold Builtin.«getset_descriptor.__get__» descrGet;rw [dga_obj];refine d0 51#0;unfold descrGetter descrCheckInstance descrNameAndClass isInstance;simp only [KF.owner_class]
 repeat lk
 refine {Code.quiet_builtin _ ⋯,K7 KF.entry_class ?_};unfold Builtin.«object.__class__» shownTypeOf
 repeat lk
 exact h
end
section
variable {K:Frag} {e C:Addr} {prog:Program} {w:World} {A:Around} {E:Value->Shared->Prop} {s:Shared} {R:Result->Shared->Prop}
def wP {a:Value} {Q:Unit->Shared->Prop} (X:K.In s.heap) (T:wW K C) (p:lP e C s.heap) (f:Q () s):
  wpAny M A (checkBuiltinCall "BaseException.__getattribute__" {[.ref e,a],[]}) Q E s:=by
 let c:builtinKind "BaseException.__getattribute__"=some .slot:=⋯;let b:splitId "BaseException.__getattribute__"=some ("BaseException","__getattribute__"):=⋯;let i:=F.args_bexc_ga (.ref e) a;let d:Looks M s.heap (isInstance (.ref e) (.type "BaseException")) true:=p.ty.andThen (looks_mroIn X T.mb);let (k,g,h,t,j):=s;simp only [checkBuiltinCall,c,b];refine d0 (d.at ?_)
 repeat (first|wp_step)
 exact f
def zM {tk:Tok} {Q:Fin->Shared->Prop} (X:K.In s.heap) (T:wW K C) (p:lP e C s.heap) (c:Q (.done (.ret (.ref C))) s):
  wpAny 7#0 A (Builtin.«object.__getattribute__» {[.ref e,.str "__class__" tk],[]}) Q E s:=by
 let b:=p.ty (M:=model prog w);let a:=Jg (M:=model prog w) (e:=e) X T;let (h,g,d,t,f):=s;unfold Builtin.«object.__getattribute__»
 repeat (first|with_reducible refine b.at ?_|with_reducible refine a.at ?_|wp_step)
 refine tM X T p ?_;exact i8 c
def wO {Q:Option Value->Shared->Prop} (X:K.In s.heap) (T:wW K C) (p:lP e C s.heap) (h:Q (some (.ref C)) { s with toks:=s.toks+1 }):
  wpAny 7#0 A (getAttr? (.ref e) "__class__") Q E s:=by
 let d:=p.ty (M:=model prog w);let a:=looks_findIn (M:=model prog w) X T.ga;let c:=looks_findIn (M:=model prog w) X T.gh;let f:=F.attr_ValueError.ga.bind (.ref e);let b:(Value.builtin "BaseException.__getattribute__" == Value.builtin "object.__getattribute__")=false:=⋯;let (i,g,j,t,k):=s;unfold getAttr? getAttrBy? getAttrBy;refine d0 (wpAny_mkText (d0 (J3 (w9 (d0 (d.at (d0 (a.at ?_))))))));dsimp only
 rw [if_neg (by rw [b];simp)];unfold getAttrByItsOwn hookBefore;refine d0 (c.at ?_);refine d0 (J3 (w9 ?_));unfold callGetattribute boundAndCalled;rw [if_neg 9#0];rw [f];refine d0 51#0;refine M9 (R5 F.attr_ValueError.ga.plain F.entry_bexc_ga (wP X T p (zM X T p ?_)));refine i8 51#0;exact h
def Ql (T:wW K C):KitX K (.ref e) (.ref C) (lP e C) where
 ty:=λ_ _ _ p=>p.ty
 it:=λ_ _ X _=>by
  have a:=T.cl
  unfold clsIn at a
  split at a
  ·next c' d' cd' sl' ho=>
   intro j i m g k q
   unfold isType loadHead
   exact d0 (wpAny_loadPart (k _ _ (X _ _ ho)) (i8 q))
  ·cases a
 ne:=λh c dd f n l X b=>by
  have a:=T.cl
  refine F4.mpr λq=>?_
  have d:C=c:=Value.ref.inj (beq_iff_eq.mp q)
  subst d
  unfold clsIn at a
  split at a
  ·next c' d' cd' sl' ho=>
   have z:=(X _ _ ho).symm.trans b
   cases z
  ·cases a
 ca:=λX p k=>wO X T p k
end
def lJ (e C:Addr):HO:=.ext λhp=>lP e C hp/\Hd.NoCtx e hp
def Xl {P:Program} {w:World} {H:Hp} {e C:Addr} (p:lP e C h) (n:Hd.NoCtx e h):bL P w H h e (lJ e C):=by
 refine {{(p),n},?_,λf g q k=>?_}
 ·let (o,z,_):=p;exact {(o),z}
 ·let ((o,z,c),a,b,d,r):=q;exact {{o,k o z,c},a,b,k a d,r}
section
variable {X:Cx}
inductive MD:V->Value->Prop where
 | ty (n:String):MD (.ty n) (.type n)
 | ref (a:Addr):MD (.ref a) (.ref a)
def Nx (K:Frag):List V->Hp->VK->Prop:=λxs H Q=>∃x y c b,xs=[x,y]/\MD y c/\((∃t,kH K H x t/\PySem.W.kitOne K t c=some b)\/∃e C,x=.ref e/\H e=some (lJ e C)/\wW K C/\PySem.W.kitOne K (.ref C) c=some b)/\Q (.bl b) H
def dM:gP X (.builtin "isinstance") (Nx X.K):=by
 intro i s σ H D B Q I r h;let (x,y,c,b,rfl,k,o,q):=h;let (u,v,rfl,g,j):=Kq r;let l:v=c:=by
  cases k with
  | ty n=>exact j
  | ref a=>exact j
 subst l;rcases o with ⟨t,ty,e⟩|⟨d,C,rfl,m,T,e⟩
 ·exact Iy I g ty e λf=>{.bl b,H,I.tok f,ρ,q}
 ·cases (show u=Value.ref d from g);let ((p,_),_):=(show bL X.prog X.w H s.heap d (lJ d C) from I.hok d _ m);exact kia_one (Ql T) I.kIn p e 20#0 λf=>{.bl b,H,I.tok f,ρ,q}
end
end
end L2
namespace L2
open PySem PySem.Spec PyProof.Rows
section
variable {Y:Cx} {H:Hp}
def aV.re {X:Cx} {pins pins':List 10#0} {σ:St} {s:Shared} (I:5#0) (x:Y.Ok) (e1:Y.prog=X.prog) (l:Y.w=X.w) (h:Y.N=X.N) (q:Y.s₀=X.s₀) (t:Y.H₀=X.H₀) (k:Y.env=X.env) (j:Y.outer=X.outer) (n:Y.ex=X.ex)
  (u:∀p ∈ Y.pn++pins',p ∈ X.pn++pins):aV Y pins' σ H s:=by
 let (m,w,K,mg,r,A,N,P,T,B,d,e,U,Q,o,J,O):=X;let (f,L,S,D,g,M,W,y,G,i,a,b,E,v,c,C,F):=Y;dsimp only at e1 l h q t k j n;subst e1 l h q t k j n;exact {x,I.os,I.bare,I.base,I.loc,I.cell,I.free,I.freeC,λp z=>I.pin p (u p z),I.hok,I.len}
abbrev Cx.try_ (X:Cx) (pn:List 10#0) (xe:Value->Shared->Prop):Cx:={ X with pn:=pn,xe:=xe }
abbrev Cx.suite (X:Cx) (e:Value):Cx:={ X with A:=X.A.mark (some e),calm:=false,xe:=λ_ _=>False }
theorem Cx.Ok.try_ {X:Cx} (a:X.Ok) (pn:List 10#0) (xe:Value->Shared->Prop):(X.try_ pn xe).Ok:=
 {(a.mod),a.kind,a.glob,a.blt,a.above,a.inj,a.has,a.cab,a.hd,a.frames,a.stk,a.exf,a.bs,a.bsz,a.noex,a.exfs,a.funs,a.frf}
theorem Cx.Ok.suite {X:Cx} (a:X.Ok) (e:Value):(X.suite e).Ok:=
 {a.mod,a.kind,a.glob,a.blt,a.above,a.inj,a.has,a.cab,λz=>(nomatch z),a.frames,a.stk,a.exf,a.bs,a.bsz,a.noex,a.exfs,a.funs,a.frf}
def Jw.laid {P:Program} {w:World} {outer:List Env} {H':Hp} {h h' B:Heap} {d C:Addr} {j:Value} (F:Jw P w outer H h d (.ref C) j H' B h'):
  Un (lW outer) [] H (upd H' d (lJ d C)) h h'/\lL P w (upd H' d (lJ d C)) h':=by
 let a:=F.un;let e:=F.freeE;refine {{a.keep,a.slot,λb o q n i=>?_,a.there,λb g q=>?_,λb o u q=>?_,λb k q=>?_},λb u q=>?_}
 ·rw [aC (λz=>by rw [z,F.new] at q;cases q)];exact a.free b o q n i
 ·let z:=a.tups b g q;rw [aC (aD z e)];exact z
 ·let z:=a.frzs b o u q;rw [aC (aD z e)];exact z
 ·let (m,z):=a.tbls b k q;exact {m,by rw [aC (aD z e)];exact z}
 ·by_cases f:b=d
  ·subst f;rw [aB] at q;cases q;let (o,z,c):=F.fly.there;exact Xl {(o),z,c} F.nc
  ·rw [aC f] at q;exact(F.hokN b u q).stay (λ_ _ _ z=>z) (λc z=>by rw [aC (aD z e)];exact z) λc g z=>by rw [aC (aD z e)];exact z
section
variable {X:Cx}
def kR {A:Around} {E:Value->Shared->Prop} {pins:List 10#0} {σ:St} {s:Shared} {i:Nat} {x:Str} {pos:Pos} {Q:Unit->Shared->Prop} (I:5#0) (O:X.N.Nodup) (hi:X.N[i]?=some x) (Z:X.env.scope.names.lookup x=some .local)
  (h:∀J,aV X pins (σ.set i none) H J->Q () J):wpAny 4#0 A (do bindName X.env x .none;unbindBehindTheSuite X.env x pos) Q E s:=by
 let (m,L,hl):=id I.loc;let g:(X.env.scope.kind == .class || (X.env.scope.kind == .module && X.env.locals != X.env.globals))=false:=by rw [I.ok.kind];rfl
 refine wpAny_nameGoes_keeps Z L g λh' v u f=>?_;let (oL,_,_,a0,_):=id L;let a:∀b o,X.s₀.heap.get? b=some o->b≠X.env.locals:=λb o q=>j9 (p9 (i7 q) I.ok.above);refine h _ {I.ok,I.os,I.bare,{λb o q n D l=>(f.2 b (a b o q)).trans (I.base.keep b o q n D l),λb o q n D l=>?_,I.base.free,λb o q l=>?_,I.base.tups,I.base.frzs,I.base.tbls},
  {_,u,λj y P K t T=>?_},λy c q=>?_,I.free,I.freeC,λp S=>?_,λb ob q=>?_,by simpa using I.len}
 ·let (Y,z):=I.base.slot b o q n D l;exact {Y,(f.2 b (a b o q)).trans z}
 ·let (o',z):=I.base.there b o q l;exact {o',(f.2 b (a b o q)).trans z}
 ·by_cases B:j=i
  ·subst B;let C:j<σ.length:=by rw [I.len];exact(e8.mp hi).1
   rw [E6 C] at t;cases t
  ·rw [E9 (F6 B)] at t;let (M,U,z):=hl j y P K t T;refine {M,U,?_};rcases z with ⟨k,z⟩|⟨k,c,z,W⟩
   ·refine .inl {k,?_};let ny:y≠x:=λw=>B (rW O K (w ▸ hi));show (if y=x then v else m y)=some M;rw [if_neg ny];exact z
   ·exact .inr {k,c,z,W.sameBut f (I.cne y c z)}
 ·let (F,z):=I.cell y c q;exact {F,z.sameBut f (I.cne y c q)}
 ·let (e,n,G,nf,d):=I.pin p S;exact {(f.2 p.1 G).trans e,n,G,nf,d}
 ·refine(I.hok b ob q).stay (λc F hc r=>(f.2 c ?_).trans r) (λ_ r=>r) λ_ _ r=>r;rintro rfl;rcases hc with rfl|hc
  ·rw [I.free] at q;cases q
  ·rw [I.free] at hc;cases hc
def KB (Y:Cx) (ifs:List Expr) (t:TT):Prop:=
 ∀ ⦃pins:List 10#0⦄ (s:Shared) (σ:St) (H:Hp) (Q:Bool->Hp->Prop),aV Y pins σ H s->t σ H Q ->
  wpAny (model Y.prog Y.w) Y.A (forIn ifs true λc r=>if r=true then do let ok <- isTrue c Y.env (eval c Y.env);pure (ForInStep.yield ok) else pure (ForInStep.yield r)) (TP Y pins σ Q) Y.xe s
def GP:TT:=λ_ H Q=>Q true H
def eZ:KB Y [] GP:=λ_ _ _ H _ I h=>wpAny_tests_nil {(H),I,h}
def kO {c:Expr} {t:TT} (h:PT Y c t):KB Y [c] t:=λa s σ H Q I b=>wpAny_tests_one (h s σ H Q I b)
section
variable {NB:List Str} {scope:Scope}
end
mutual
inductive sW (K:PySem.W.Frag) (H:Hp):V->PyData->Prop where
 | non:sW K H .non .none
 | bl (b:Bool):sW K H (.bl b) (.bool b)
 | int (i:Int):sW K H (.int i) (.int i)
 | str (x:Str):sW K H (.str x) (.str x)
 | lst {a:Addr} {xs:List V} {ds:List PyData}:cQ K H a xs->Ag K H xs ds->sW K H (.ref a) (.list ds)
 | tup {a:Addr} {xs:List V} {ds:List PyData}:bX K H a xs->Ag K H xs ds->sW K H (.ref a) (.tuple ds)
inductive Ag (K:PySem.W.Frag) (H:Hp):List V->List PyData->Prop where
 | nil:Ag K H [] []
 | cons {x:V} {d:PyData} {xs:List V} {ds:List PyData}:sW K H x d->Ag K H xs ds->Ag K H (x::xs) (d::ds)
end
section
variable {pins:List (Addr × Obj)} {σ:St} {H:Hp} {s:Shared}
def sW.reads (I:5#0) {x:V} {d:PyData} {u:Value} (h:sW X.K H x d):bF x u->∃c,Reads s.heap u d c:=by
 refine sW.rec (motive_1:=λx d _=>∀u,bF x u->∃c,Reads s.heap u d c) (motive_2:=λg j _=>∀z,bA g z->∃c,ReadsAll s.heap z j c) ?_ ?_ ?_ ?_ ?_ ?_ ?_ ?_ h u
 ·intro _ r;cases (show _=Value.none from r);exact {_,.none}
 ·intro b _ r;cases (show _=Value.bool b from r);exact {_,.bool b}
 ·intro i _ r;let (t,q):=(show ∃t,_=Value.int i t from r);cases q;exact {_,.int i t}
 ·intro x _ r;let (t,q):=(show ∃t,_=Value.str x t from r);cases q;exact {_,.str x t}
 ·intro a g j w _ m _ r;cases (show _=Value.ref a from r);let (e,y,p,_):=I.list w;let (c,f):=m _ y;let (o,v,l,n,k):=p.isList;exact {_,.list v l k (by simpa using f)}
 ·intro a g j w _ m _ r;cases (show _=Value.ref a from r);let (e,y,p,_):=I.tuple w;let (c,f):=m _ y;let (o,v,l,n,k):=(show s.heap.IsTuple a e.toArray from p);exact {_,.tuple v l k (by simpa using f)}
 ·intro _ r;cases r;exact {_,.nil}
 ·intro x d g j _ _ B C _ r;cases r with
  | cons r rs=>
   let (c,f):=B _ r;let (E,D):=C _ rs;exact {_,.cons f D}
end
def LA (K:PySem.W.Frag):R2:=λx y H Q=>∃dx dy,sW K H x dx/\sW K H y dy/\SeqAt.shaped dx=true/\SeqAt.shaped dy=true/\Q (.bl (PyData.eqv dx dy)) H
def IB (K:PySem.W.Frag):R2:=λx y H Q=>∃dx dy,sW K H x dx/\sW K H y dy/\SeqAt.shaped dx=true/\SeqAt.shaped dy=true/\Q (.bl (!PyData.eqv dx dy)) H
def Ca (d:X.A.units+64<cLine):lK X (compareOp .Eq) (LA X.K):=by
 intro pins s σ H x y v u Q I f a h;let (m,l,e,b,i,c,q):=h;let (n,j):=e.reads I f;let (k,g):=b.reads I a;exact SeqAt.compareEq_shaped j g i c d {.bl _,H,I,ρ,q}
def iW (d:X.A.units+64<cLine):lK X (compareOp .NotEq) (IB X.K):=by
 intro pins s σ H x y v u Q I f a h;let (m,l,e,b,i,c,q):=h;let (n,j):=e.reads I f;let (k,g):=b.reads I a;exact SeqAt.compareNe_shaped j g i c d {.bl _,H,I,ρ,q}
end
end
end L2
namespace PySem.SeqAt
open AutoSeq1 (wpAny_loadPart')
open MeetsSeq MeetsSeq2 MeetsSeq3
section
variable {A:Around} {s:Shared}
end
end PySem.SeqAt
namespace L2
open PySem PySem.Spec PyProof.Rows
section
variable {H H':Hp} {Q:Value->Shared->Prop} {w:World} {pos:Pos} {P:Program} {s:Shared}
section
variable {X:Cx}
section
variable {κ:Type} [DecidableEq κ]
def cW (kvs:List (κ × V)) (k:κ):Option V:=(kvs.find? λkv=>decide (kv.1=k)).map (·.2)
def iM (kvs:List (κ × V)) (k:κ) (v:V):List (κ × V):=
 if (kvs.any λkv=>decide (kv.1=k))=true then kvs.map (λkv=>if kv.1=k then(kv.1,v) else kv) else kvs++[(k,v)]
def iR (kvs:List (κ × V)) (k:κ):List (κ × V):=kvs.filter λkv=>decide (kv.1≠k)
def fO {p:κ × V} {r:List (κ × V)} {k:κ} (e:p.1=k):cW (p::r) k=some p.2:=by simp [cW,K8,e]
def fP {p:κ × V} {r:List (κ × V)} {k:κ} (e:¬ p.1=k):cW (p::r) k=cW r k:=by simp [cW,K8,e]
theorem qQ (k:κ):∀kvs:List (κ × V),(kvs.any λb=>decide (b.1=k))=(cW kvs k).isSome
 | []=>rfl
 | p::r=>by
  rw [K4]
  by_cases e:p.1=k
  ·simp only [fO e,decide_eq_true e,Bool.true_or,Option.isSome_some]
  ·rw [fP e,decide_eq_false e,Bool.false_or];exact qQ k r
theorem tY (k j:κ) (y:V):∀kvs:List (κ × V),cW kvs k=none->cW (kvs++[(k,y)]) j=if j=k then some y else cW kvs j
 | [],_=>by
  by_cases e:k=j
  ·rw [if_pos e.symm];exact fO (p:=(k,y)) e
  ·rw [if_neg (λz=>e z.symm)];exact fP (p:=(k,y)) e
 | p::r,hn=>by
  rw [List.cons_append]
  have b:¬ p.1=k:=λz=>by rw [fO z] at hn;cases hn
  rw [fP b] at hn
  have c:=tY k j y r hn
  by_cases e:p.1=j
  ·rw [fO e,fO e,if_neg (λz=>b (e.trans z))]
  ·rw [fP e,fP e,c]
def jX (kvs:List (κ × V)) (k:κ) (v:V):(iM kvs k v).length<=kvs.length+1:=by
 unfold iM;split
 ·rw [g7];omega
 ·rw [j5,p8,O1];omega
def yD {kvs:List (κ × V)} {k:κ} (v:V) (h:cW kvs k=none):iM kvs k v=kvs++[(k,v)]:=by
 unfold iM;rw [qQ,h];exact if_neg 8#0
def jF.isSome_eq {o:Option V} {u:Option Value} (r:jF o u):o.isSome=u.isSome:=by
 cases o with
 | none=>cases u with
  | none=>rfl
  | some _=>exact(show False from r).elim
 | some _=>cases u with
  | none=>exact(show False from r).elim
  | some _=>rfl
theorem jF.getD {o:Option V} {u:Option Value} {d:V} {d':Value} (r:jF o u) (b:bF d d'):bF (o.getD d) (u.getD d'):=by
 cases o with
 | none=>cases u with
  | none=>exact b
  | some _=>exact(show False from r).elim
 | some _=>cases u with
  | none=>exact(show False from r).elim
  | some _=>exact r
def KV.val {kvs:List (κ × V)} {vs:List (κ × Value)} (r:KV kvs vs) (k:κ):jF (cW kvs k) (valueAt vs k):=by
 unfold KV at r
 induction r with
 | nil=>exact E2
 | @cons p q n g h t l=>
  let (j,m):=h;by_cases e:p.1=k
  ·let c:q.1=k:=j.symm.trans e;let b:valueAt (q::g) k=some q.2:=by simp [valueAt,K8,c]
   rw [fO e,b];exact m
  ·let c:¬ q.1=k:=λz=>e (j.trans z);let b:valueAt (q::g) k=valueAt g k:=by simp [valueAt,K8,c]
   rw [fP e,b];exact l
theorem KV.any {kvs:List (κ × V)} {vs:List (κ × Value)} (r:KV kvs vs) (k:κ):(kvs.any λb=>decide (b.1=k))=vs.any λb=>decide (b.1=k):=by
 unfold KV at r
 induction r with
 | nil=>rfl
 | cons h t ih=>rw [K4,K4,ih,h.1]
def KV.repl {kvs:List (κ × V)} {vs:List (κ × Value)} (r:KV kvs vs) (k:κ) {y:V} {u:Value} (j:bF y u):
  KV (kvs.map λb=>if b.1=k then(b.1,y) else b) (vs.map λb=>if b.1=k then(b.1,u) else b):=by
 unfold KV at r ⊢
 induction r with
 | nil=>exact .nil
 | @cons p q ps qs h t ih=>
  rw [x9,x9];refine .cons ?_ ih;let (c,g):=h;by_cases e:p.1=k
  ·rw [if_pos e,if_pos (c.symm.trans e)];exact {(c),j}
  ·rw [if_neg e,if_neg (λz=>e (c.trans z))];exact {(c),g}
def KV.put {kvs:List (κ × V)} {vs:List (κ × Value)} (r:KV kvs vs) (k:κ) {y:V} {u:Value} (b:bF y u):KV (iM kvs k y) (stored vs k u):=by
 unfold iM stored;rw [r.any k];by_cases e:(vs.any λc=>decide (c.1=k))=true
 ·rw [if_pos e,if_pos e];exact r.repl k b
 ·rw [if_neg e,if_neg e];exact Paired.snoc r {(rfl),b}
def KV.drop {kvs:List (κ × V)} {vs:List (κ × Value)} (r:KV kvs vs) (k:κ):KV (iR kvs k) (without vs k):=by
 unfold KV at r ⊢;unfold iR without
 induction r with
 | nil=>exact .nil
 | @cons p q ps qs h t ih=>
  let (c,g):=h;rw [F8,F8];by_cases e:p.1=k
  ·let a:¬ decide (p.1≠k)=true:=by simp [e]
   let b:¬ decide (q.1≠k)=true:=by simp [c.symm.trans e]
   rw [if_neg a,if_neg b];exact ih
  ·let j:¬ q.1=k:=λz=>e (c.trans z);let a:decide (p.1≠k)=true:=by simp [e]
   let b:decide (q.1≠k)=true:=by simp [j]
   rw [if_pos a,if_pos b];exact .cons {(c),g} ih
theorem KV.length {kvs:List (κ × V)} {vs:List (κ × Value)} (r:KV kvs vs):kvs.length=vs.length:=Paired.length r
def Rm (kvs:List (κ × V)) (k:κ):(iR kvs k).length<=kvs.length:=D5 _ _
end
def oX {k:bJ} {u:Value} (r:bF (kV k) u):(cD P w).is k u=true:=by
 cases k with
 | inl i=>let (t,e):=(show ∃t,u=Value.int i t from r);subst e;exact yW P w i t
 | inr x=>let (t,e):=(show ∃t,u=Value.str x t from r);subst e;exact yV P w x t
theorem uV {P:Program} {w:World}:∀{ks:List bJ} {us:List Value},bA (ks.map kV) us->ItemsAre (cD P w) ks us
 | [],_,r=>by rw [O6] at r;cases r;exact .nil
 | k::ks,_,r=>by
  rw [x9] at r
  cases r with
  | cons h t=>exact .cons (oX h) (uV t)
abbrev KT (H:Hp):List (List bJ × V)->List (List bJ × Addr × Value)->Prop:=Paired λp q=>p.1=q.1/\H q.2.1=some (.tup (p.1.map kV))/\bF p.2 q.2.2
def KT.val {kvs:List (List bJ × V)} {xs:List (List bJ × Addr × Value)} (r:KT H kvs xs) (k:List bJ):jF (cW kvs k) ((atKey xs k).map (·.2)):=by
 induction r with
 | nil=>exact E2
 | @cons p q n g h t l=>
  let (j,_,m):=h;by_cases e:p.1=k
  ·let c:q.1=k:=j.symm.trans e;let b:atKey (q::g) k=some q.2:=by simp [atKey,K8,c]
   rw [fO e,b];exact m
  ·let c:¬ q.1=k:=λz=>e (j.trans z);let b:atKey (q::g) k=atKey g k:=by simp [atKey,K8,c]
   rw [fP e,b];exact l
def KT.repl {kvs:List (List bJ × V)} {xs:List (List bJ × Addr × Value)} (r:KT H kvs xs) (k:List bJ) {y:V} {u:Value} (j:bF y u):
  KT H (kvs.map λc=>if c.1=k then(c.1,y) else c) (xs.map (putAt k u)):=by
 induction r with
 | nil=>exact .nil
 | @cons p q ps qs h t ih=>
  rw [x9,x9];refine .cons ?_ ih;let (b,g,l):=h;unfold putAt;by_cases e:p.1=k
  ·rw [if_pos e,if_pos (b.symm.trans e)];exact {(b),g,j}
  ·rw [if_neg e,if_neg (λz=>e (b.trans z))];exact {(b),g,l}
def KT.put {kvs:List (List bJ × V)} {xs:List (List bJ × Addr × Value)} (r:KT H kvs xs) (k:List bJ) {b:Addr} {y:V} {u:Value} (j:H b=some (.tup (k.map kV))) (c:bF y u):
  KT H (iM kvs k y) (storedH xs k b u):=by
 let e:(kvs.any λg=>decide (g.1=k))=(atKey xs k).isSome:=by
  rw [qQ,(r.val k).isSome_eq,Option.isSome_map]
 unfold iM storedH;rw [e];by_cases q:(atKey xs k).isSome=true
 ·rw [if_pos q,if_pos q];exact r.repl k c
 ·rw [if_neg q,if_neg q];exact Paired.snoc r {(rfl),j,c}
def KT.keeps {kvs:List (List bJ × V)} {xs:List (List bJ × Addr × Value)} (r:KT H kvs xs) (g:∀b c,H b=some (.tup c)->H' b=some (.tup c)):KT H' kvs xs:=
 Paired.mapP r λ_ _ z=>{z.1,g _ _ z.2.1,z.2.2}
section
variable {P:Program} {w:World} {H:Hp} {h:Heap} {a:Addr}
def Zs {u:HO} (b:lL P w H h) (e:Rd H a u):bL P w H h a u:=e.ok b
def sN {kvs:List (bJ × V)} (c:lL P w H h) (e:Rd H a 45#0):kvs.length<=sizeLine/\(a == sysModules)=false/\∃b,KV kvs b/\h.DictOf (cD P w) a b:=
 show bL P w H h a 45#0 from Zs c e
def Rq {kvs:List (bJ × V)} (c:lL P w H h) (e:H a=some 45#0):kvs.length<=sizeLine/\(a == sysModules)=false/\∃b,KV kvs b/\h.DictOf (cD P w) a b:=sN c (.inl e)
def oK {ks:List bJ} (j:lL P w H h) (e:H a=some (.tup (ks.map kV))):(tupleKind (cD P w)).is h ks a:=by
 let (_,b,r,o,c,g,n,l):=(show bL P w H h a (.tup (ks.map kV)) from j a _ e);exact {o,b.toArray,n,c,g,l,by simpa using uV r}
def sL {kvs:List (List bJ × V)} (g:lL P w H h) (e:Rd H a (.dT kvs)):kvs.length<=sizeLine/\(a == sysModules)=false /\
  ∃b,KT H kvs b/\h.DictOfH (tupleKind (cD P w)) a b:=by
 let (z,y,b,r,o,n,C,D,F,G,j,B):=(show bL P w H h a (.dT kvs) from Zs g e);refine {z,y,b,r,o,n,C,D,F,G,j,λx hx=>?_,B};let c:∀{l:List (List bJ × V)} {m:List (List bJ × Addr × Value)},KT H l m->∀x ∈ m,(tupleKind (cD P w)).is h x.1 x.2.1:=by
  intro l m q
  induction q with
  | nil=>intro x hx;exact nomatch hx
  | @cons p q ps qs hq t ih=>
   intro x hx;rcases i3.mp hx with e|hx
   ·subst e;exact oK g (by rw [<- hq.1];exact hq.2.1)
   ·exact ih x hx
 exact c r x hx
def JB {kvs:List (List bJ × V)} (c:lL P w H h) (e:H a=some (.dT kvs)):kvs.length<=sizeLine/\(a == sysModules)=false /\
  ∃b,KT H kvs b/\h.DictOfH (tupleKind (cD P w)) a b:=sL c (.inl e)
end
def fD (H:Hp) (a:Addr) (y:V) (r:Option V):Prop:=
 (∃kvs k,Rd H a 45#0/\y=kV k/\r=cW kvs k)\/∃kvs k b,Rd H a (.dT kvs)/\y=.ref b/\H b=some (.tup (k.map kV))/\r=cW kvs k
def tQ (H:Hp) (a:Addr) (y v:V) (H':Hp):Prop:=
 (∃kvs k,H a=some 45#0/\y=kV k/\kvs.length<sizeLine/\H'=upd H a (.dK (iM kvs k v))) \/
 ∃kvs k b,H a=some (.dT kvs)/\y=.ref b/\H b=some (.tup (k.map kV))/\kvs.length<sizeLine/\H'=upd H a (.dT (iM kvs k v))
theorem fD.k {H:Hp} {a:Addr} {kvs:List (bJ × V)} {k:bJ} (e:H a=some 45#0):fD H a (kV k) (cW kvs k):=.inl {kvs,k,.inl e,ρ,ρ}
theorem tQ.k {H:Hp} {a:Addr} {kvs:List (bJ × V)} {k:bJ} {v:V} (e:H a=some 45#0) (b:kvs.length<sizeLine):tQ H a (kV k) v (upd H a (.dK (iM kvs k v))):=.inl {(kvs),k,e,ρ,b,ρ}
section
variable {pins:List (Addr × Obj)} {σ:St} {H:Hp} {s:Shared} {a:Addr} {y v:V} {u r:Value} {o:Option V} {A:Around} {E:Value->Shared->Prop}
def aV.big (I:5#0):sysModules<s.heap.objs.size:=by
 let h:mainGlobals<s.heap.objs.size:=(I.mod.glob.keeps I.bk).lt;exact Nat.lt_trans 8#0 h
def Jl (G:A.units+1<cLine) (I:5#0) (g:fD H a y (some v)) (x:bF y u) (h:∀m B,aV X pins σ H B->bF v m->Q m B):
  wpAny 4#0 A (getItem (.ref a) u) Q E s:=by
 rcases g with ⟨kvs,k,e,n,l⟩|⟨kvs,k,b,e,n,K,l⟩
 ·subst n;let (z,D,J,j,dd):=sN I.hok e;let (m,q,c):=jF.some_of (v:=v) (o:=valueAt J k) (by rw [l];exact j.val k);exact wpAny_getItem_of (oX x) dd.mapOf q (h m _ (I.tok _) c)
 ·subst n;cases (show u=Value.ref b from x);let (z,D,F,j,dd):=sL I.hok e;let (m,q,c):=jF.some_of (v:=v) (o:=(atKey F k).map (·.2)) (by rw [l];exact j.val k);let (p,C,t):=Option.map_eq_some_iff.mp q;refine wpAny_getItem_heap (tupleKind_room_in1 G) (oK I.hok K) dd C ?_;rw [t];exact h m _ (I.tok _) c
def LU (t:A.units+1<cLine) (I:5#0) (g:fD H a y o) (n:bF y u) (h:∀p,aV X pins σ H p->Q (.bool o.isSome) p):
  wpAny 4#0 A (compareOp .In u (.ref a)) Q E s:=by
 rcases g with ⟨kvs,k,e,j,l⟩|⟨kvs,k,b,e,j,x,l⟩
 ·subst j;let (z,m,C,c,dd):=sN I.hok e;refine wpAny_in_of (oX n) m dd.mapOf ?_;rw [<- (c.val k).isSome_eq,<- l];exact h _ (I.tok _)
 ·subst j;cases (show u=Value.ref b from n);let (z,m,B,c,dd):=sL I.hok e;refine wpAny_in_heap (tupleKind_room_in1 t) (oK I.hok x) m dd ?_;let q:=(c.val k).isSome_eq;rw [Option.isSome_map] at q;rw [<- q,<- l];exact h _ (I.tok _)
def Xt (t:A.units+1<cLine) (I:5#0) (g:fD H a y o) (n:bF y u) (h:∀p,aV X pins σ H p->Q (.bool (!o.isSome)) p):
  wpAny 4#0 A (compareOp .NotIn u (.ref a)) Q E s:=by
 rcases g with ⟨kvs,k,e,j,l⟩|⟨kvs,k,b,e,j,x,l⟩
 ·subst j;let (z,m,C,c,dd):=sN I.hok e;refine wpAny_notIn_of (oX n) m dd.mapOf ?_;rw [<- (c.val k).isSome_eq,<- l];exact h _ (I.tok _)
 ·subst j;cases (show u=Value.ref b from n);let (z,m,B,c,dd):=sL I.hok e;refine wpAny_notIn_heap (tupleKind_room_in1 t) (oK I.hok x) m dd ?_;let q:=(c.val k).isSome_eq;rw [Option.isSome_map] at q;rw [<- q,<- l];exact h _ (I.tok _)
def qA {h':Heap} {t':Nat} {c:HO} (I:5#0) (n:JP (H a)) (m:Heap.SameBut a s.heap h') (l:∃q,h'.get? a=some q) (g:bL X.prog X.w (upd H a c) h' a c):
  aV X pins σ (upd H a c) { s with heap:=h',toks:=t' }:=
 I.write (x:=a) (e:=a) n (.inl rfl) (λb q j z=>(m.2 b j).trans z) l g
def Cs {h':Heap} {kvs:List (bJ × V)} {vs:List (bJ × Value)} (z:kvs.length<=sizeLine) (c:(a == sysModules)=false) (b:KV kvs vs) (dd:h'.DictOf (cD P w) a vs):
  bL P w H' h' a 45#0:={(z),c,vs,b,dd}
def Jk {Q:Unit->Shared->Prop} (U:A.units+1<cLine) (I:5#0) (g:tQ H a y v H') (K:bF y u) (M:bF v r) (h:∀L,aV X pins σ H' L->Q () L):
  wpAny 4#0 A (setItem (.ref a) u r) Q E s:=by
 rcases g with ⟨kvs,k,e,t,l,p⟩|⟨kvs,k,b,e,t,J,l,p⟩
 ·subst t p;let (z,x,T,j,dd):=Rq I.hok e
  let B:T.length<=sizeLine:=by rw [<- j.length];exact z
  let C:(iM kvs k v).length<=sizeLine:=by have:=jX kvs k v;omega
  refine wpAny_setItem_pairs (hsz:=B) (oX K) dd λF m D=>h _ ?_;let Z:∃q,F.get? a=some q:=let ⟨q,_,_,n,_⟩:=m;{(q),n};exact qA I (by rw [e];exact E2) D Z (Cs C x (j.put k M) m)
 ·subst t p;cases (show u=Value.ref b from K);let (z,x,xs,j,dd):=JB I.hok e
  let B:xs.length<=sizeLine:=by rw [<- Paired.length j];exact z
  let C:(iM kvs k v).length<=sizeLine:=by have:=jX kvs k v;omega
  refine wpAny_setItem_heap (hsz:=B) (tupleKind_room_in1 U) (oK I.hok J) dd λF m D=>h _ ?_;let (q,N,Y,n,h2,W,S,_,O):=m;refine qA I (by rw [e];exact E2) D {(q),n} {C,x,_,(j.put k J M).keeps λc ys G=>?_,q,N,Y,n,h2,W,S,O};rw [aC (aK G e 20#0)];exact G
end
section
variable {pins:List (Addr × Obj)} {σ:St} {H:Hp} {s:Shared} {a:Addr} {kvs:List (bJ × V)} {k:bJ} {u:Value} {A:Around} {E:Value->Shared->Prop}
def JD {v:V} {b:List Value} (I:5#0) (e:H a=some 45#0) (n:bF (kV k) u) (l:cW kvs k=some v) (B:b=[]\/∃x,b=[x])
  (h:∀j p,aV X pins σ (upd H a (.dK (iR kvs k))) p->bF v j->Q j p):wpAny 4#0 A (call (.builtin "dict.pop") (.ref a::u::b)) Q E s:=by
 let (z,J,C,c,dd):=Rq I.hok e
 let (j,M,m):=jF.some_of (v:=v) (o:=valueAt C k) (by rw [<- l];exact c.val k)
 let G:(keyPart u).isSome=true:=by
  cases k with
  | inl i=>let (t,q):=(show ∃t,u=Value.int i t from n);subst q;rfl
  | inr x=>let (t,q):=(show ∃t,u=Value.str x t from n);subst q;rfl
 let N:argsOk "dict.pop" {.ref a::u::b,[]}:=by
  rcases B with q|⟨x,q⟩
  ·subst q;exact PySem.F.args_dict_pop_2 _ _
  ·subst q;exact PySem.F.args_dict_pop_3 _ _ _
 refine call_meetsIn PySem.F.slot_dict_pop dd.typeIs PySem.F.entry_dict_pop N (meets_dict_pop_there (cD X.prog X.w) a (oX n) b B G)
  {C,j,dd,by rw [<- c.length];exact z,M,λD g L=>h j _ ?_ m}
 let K:∃q,D.get? a=some q:=let ⟨q,_,_,hq,_⟩:=g;{(q),hq};exact qA I (by rw [e];exact E2) L K (Cs (u8 (Rm kvs k) z) J (c.drop k) g)
end
def FI (i:Expr):Prop:=∀ov iv,subscripted i false ov iv=operate [ov,iv] (getItem ov iv)
def Uf {prog:Program} {A:Around} {E:Value->Shared->Prop} {env:Env} {value b:Expr} {T t:String}
  (z:typeLookup (.type T) "__getitem__"=pure (some (.builtin t))) (q:FI b)
  (h:wpAny 7#0 A (eval value env) (λo j=>wpAny 7#0 A (eval b env) (λi s₂=>s₂.TypeIs o T/\wpAny 7#0 A (getItem o i) Q E s₂) E j) E s):
  wpAny 7#0 A (eval (.Subscript value b pos) env) Q E s:=by
 refine Subscript_ (y6 h (λo j n=>y6 n (λi s₂ g=>?_) λ_ _ x=>x) λ_ _ x=>x);let (l,g):=g;unfold subscriptTail;refine d0 ?_;rw [getitemInPython_of_ne l.not_modules];refine d0 (wpAny_specialOf l z ?_);let c:wpAny 7#0 A (subscripted b false o i) (λr m=>wpAny 7#0 A (letTemporaryGo value o r >>= λ_=>pure r) Q E m) E s₂:=by
  rw [q o i];exact wpAny_operating (y6 g (λr m p=>d0 (wpAny_letTemporaryGo (i8 p))) λ_ _ x=>x)
 first
  | exact i8 (d0 c)
  | exact d0 (i8 (d0 c))
  | exact d0 c
def zT {X:Cx} {pins:List 10#0} {σ:St} {a:Addr} {y:V} {o:Option V} (I:5#0) (g:fD H a y o):s.TypeIs (.ref a) "dict":=by
 rcases g with ⟨kvs,k,e,_,_⟩|⟨kvs,k,b,e,_,_,_⟩
 ·let (_,_,c,_,dd):=sN I.hok e;exact dd.typeIs
 ·let (_,_,j,_,dd):=sL I.hok e;exact dd.typeIs
def Zh (td ty:TE):TE:=λσ H Q=>td σ H λx H1=>ty σ H1 λy H2=>∃a v,x=.ref a/\fD H2 a y (some v)/\Q v H2
def KM (ty td:TE):TE:=λσ H Q=>ty σ H λy H1=>td σ H1 λx H2=>∃a o,x=.ref a/\fD H2 a y o/\Q (.bl o.isSome) H2
def Ue (ty td:TE):TE:=λσ H Q=>ty σ H λy H1=>td σ H1 λx H2=>∃a o,x=.ref a/\fD H2 a y o/\Q (.bl (!o.isSome)) H2
def HY (td ty tv:TE):TS:=λD σ H=>tv σ H λv H1=>td σ H1 λx H2=>ty σ H2 λy H3=>∃a H4,x=.ref a/\tQ H3 a y v H4/\D.nx σ H4
section
variable {o i e value:Expr} {pos pos' tpos:Pos} {td ty tv:TE}
def mS (hu:X.A.units+1<cLine) (ho:PE X o td) (hi:PE X i ty) (hs:FI i):PE X (.Subscript o i pos) (Zh td ty):=by
 intro pins s σ H Q I h;refine Uf PySem.F.slot_dict_getitem.lookup hs (eP (ho s σ H _ I h) λu s1 x H1 I1 rx q1=>eP (hi s1 σ H1 _ I1 q1) λiv s2 y H2 I2 ry hUp=>?_);let (a,v,ex,g,q2):=hUp;subst ex;obtain rfl:u=Value.ref a:=rx;exact {zT I2 g,Jl hu I2 g ry λw' s3 I3 rw'=>{(v),H2,I3,rw',q2}}
def DI (hu:X.A.units+1<cLine) (hi:PE X i ty) (ho:PE X o td):PC X .In i o (KM ty td):=by
 intro pins s σ H Q I h;refine eP (hi s σ H _ I h) λiv s1 y H1 I1 ry q1=>eP (ho s1 σ H1 _ I1 q1) λu s2 x H2 I2 rx hUp=>?_;let (a,ov,ex,g,q2):=hUp;subst ex;obtain rfl:u=Value.ref a:=rx;exact LU hu I2 g ry λs3 I3=>{.bl ov.isSome,H2,I3,ρ,q2}
def uO (hu:X.A.units+1<cLine) (hi:PE X i ty) (ho:PE X o td):PC X .NotIn i o (Ue ty td):=by
 intro pins s σ H Q I h;refine eP (hi s σ H _ I h) λiv s1 y H1 I1 ry q1=>eP (ho s1 σ H1 _ I1 q1) λu s2 x H2 I2 rx hUp=>?_;let (a,ov,ex,g,q2):=hUp;subst ex;obtain rfl:u=Value.ref a:=rx;exact Xt hu I2 g ry λs3 I3=>{.bl (!ov.isSome),H2,I3,ρ,q2}
def mO (hu:X.A.units+1<cLine) (ho:PE X o td) (hi:PE X i ty) (hv:PE X value tv) (hs:swapsWith value (some (.Subscript o i pos')) pos.line X.env=pure false):
  PS X (.Assign [.Subscript o i pos'] value pos) (HY td ty tv):=by
 intro pins s σ H D I h;refine wpAny_Assign_Subscript (eP (hv s σ H _ I h) λr s1 v H1 I1 rv q1=>eP (ho s1 σ H1 _ I1 q1) λu s2 x H2 I2 rx q2=>eP (hi s2 σ H2 _ I2 q2) λiv s3 y H3 I3 ry hUp=>?_) hs;let (a,H4,ex,g,q3):=hUp;subst ex;obtain rfl:u=Value.ref a:=rx;exact Jk hu I3 g ry rv λs4 I4=>{(σ),H4,I4,q3}
end
def zS (h:Heap) (b:sysModules<h.objs.size):bL P w H (h.push { cls:=.type "dict",data:=.dict #[] }) h.objs.size (.dK []):=
 {i9 _,beq_eq_false_iff_ne.mpr (F6 (j9 b)),[],.nil,Heap.DictOf.new h}
def BD:TE:=λ_ H Q=>∀p,H p=none->Q 49#0 (upd H p (.dK []))
section
variable {pos:Pos}
def rJ:PE X (.Dict [] [] pos) BD:=λpins s σ H Q I h=>
 wpAny_Dict_empty {.ref s.heap.objs.size,_,I.laid (a:=s.heap.objs.size) (o:=.dK []) (t':=s.toks) (λ_ _ q=>g8 _ q) (g9 _) (zS s.heap I.big),ρ,h _ (I.hok.fresh (g9 _))}
end
def Aw:List (TE × TE)->St->Hp->(List (V × V)->Hp->Prop)->Prop
 | [],_,H,Q=>Q [] H
 | (tk,tv)::r,σ,H,Q=>tk σ H λx H1=>tv σ H1 λy H2=>Aw r σ H2 λps H3=>Q ((x,y)::ps) H3
abbrev VV:List (V × V)->List (Value × Value)->Prop:=Paired λp q=>bF p.1 q.1/\bF p.2 q.2
def KC (X:Cx) (pos:Pos) (keys:List (Option Expr)) (values:List Expr) (trs:List (TE × TE)):Prop:=
 ∀(pins:List 10#0) (s:Shared) (σ:St) (H:Hp) (Q:List (V × V)->Hp->Prop),aV X pins σ H s->Aw trs σ H Q ->
  wpAny 4#0 X.A (evalPairs (pairTrees keys values X.env pos)) (λvs s'=>∃ps H',aV X pins σ H' s'/\VV ps vs/\Q ps H') X.xe s
def Vq {X:Cx}:KC X pos [] [] []:=λpins s σ H Q I h=>pairTrees_nil_walk {[],H,I,.nil,h}
def iN {X:Cx} {k v:Expr} {ks:List (Option Expr)} {vs:List Expr} {tk tv:TE} {b:List (TE × TE)} (l:PE X k tk) (F:PE X v tv) (t:KC X pos ks vs b):
  KC X pos (some k::ks) (v::vs) ((tk,tv)::b):=λpins s σ H Q I h=>
 pairTrees_cons_walk (eP (l s σ H _ I h) λu D x n j z c=>eP (F D σ n _ j c) λK q y C m g p=>
  gA (t pins q σ C _ m p) λG J ⟨B,H3,I3,rel,q3⟩=>{(x,y)::B,H3,I3,.cons {(z),g} rel,q3})
def oG (kvs more:List (bJ × V)):List (bJ × V):=more.foldl (λacc kv=>iM acc kv.1 kv.2) kvs
def KV.merge:∀{b:List (bJ × V)} {c:List (bJ × Value)} {kvs:List (bJ × V)} {vs:List (bJ × Value)},KV b c->KV kvs vs->KV (oG kvs b) (merged vs c):=by
 intro b c kvs vs r;unfold KV at r
 induction r generalizing kvs vs with
 | nil=>intro q;exact q
 | @cons p q ps qs h t ih=>
  intro g;let e:KV (iM kvs p.1 p.2) (stored vs q.1 q.2):=by
   have:=g.put p.1 h.2;rw [<- h.1];exact this
  exact ih e
theorem lO:∀(b kvs:List (bJ × V)),(oG kvs b).length<=kvs.length+b.length
 | [],kvs=>by show kvs.length<=kvs.length+0;omega
 | p::r,kvs=>by
  have g:=lO r (iM kvs p.1 p.2)
  have c:=jX kvs p.1 p.2
  show (oG (iM kvs p.1 p.2) r).length<=_
  rw [p8];omega
theorem sP {P:Program} {w:World}:∀{kvs:List (bJ × V)} {j:List (Value × Value)},VV (kvs.map λl=>(kV l.1,l.2)) j->∃g,Carries (cD P w) j g/\KV kvs g
 | [],_,r=>by rw [O6] at r;cases r;exact {[],E2,.nil}
 | p::kvs,_,r=>by
  rw [x9] at r
  cases r with
  | @cons a b as bs h t=>
   let (g,c,q):=sP (P:=P) (w:=w) t
   let (n,m):=b
   exact {(p.1,m)::g,{oX h.1,ρ,c},.cons {(rfl),h.2} q}
def HE (trs:List (TE × TE)):TE:=λσ H Q=>∀p,H p=none->Aw trs σ (upd H p (.dK [])) λps H2=>H2 p=some (.dK [])/\∃kvs:List (bJ × V),ps=kvs.map (λkv=>(kV kv.1,kv.2))/\kvs.length<=15/\Q 49#0 (upd H2 p (.dK (oG [] kvs)))
def Vx {X:Cx} {b:List (Option Expr)} {g:List Expr} {m:List (TE × TE)} (h:KC X pos b g m) (j:b.all (·.isSome)=true) (F:b.length=g.length) (K:b≠[])
  (n:b.length<=15):PE X (.Dict b g pos) (HE m):=by
 intro pins s σ H Q I q;let L:=I.hok.fresh (g9 s.heap.objs.size);let J:=I.laid (a:=s.heap.objs.size) (o:=.dK []) (h':=s.heap.push { cls:=.type "dict",data:=.dict #[] }) (t':=s.toks) (λ_ _ q=>g8 _ q) (g9 _) (zS s.heap I.big);refine wpAny_Dict_walk (knd:=cD X.prog X.w) j F K n (gA (h pins _ σ _ _ J (q _ L)) λws s2 t=>?_);let (Z,H2,x,p,(e,kvs,N,Y,O)):=t;subst N;let (W,c,D):=sP (P:=X.prog) (w:=X.w) p;let (z,B,M,G,dd):=Rq x.hok e;cases G;refine {W,c,dd,λh' l T=>{.ref s.heap.objs.size,_,?_,ρ,O}};let C:(oG [] kvs).length<=sizeLine:=by
  let U:=lO kvs [];rw [O1] at U;rw [sizeLine_eq];omega
 let S:∃q,h'.get? s.heap.objs.size=some q:=let ⟨q,_,_,hq,_⟩:=l;{(q),hq};exact qA x (by rw [e];exact E2) T S (Cs C B (D.merge .nil) l)
structure M1 (X:Cx) (o:Expr) (m:Str) (apos:Pos) (e:Expr) (cpos:Pos):Prop where
 base:attributeBase o m X.env (eval o X.env)=eval o X.env
 few:((backTo cpos (starEach [e] X.env)).all (λx=>!x.1) && (backToKw cpos (keywordEach [] X.env)).all (λx=>x.1.isSome)
  && decide (([e]:List Expr).length+([]:List Keyword).length+(if ([]:List Keyword).isEmpty then 0 else 1)<30))=true
 line:(apos.endLine == cpos.line)=true
 trees:backTo cpos (starEach [e] X.env)=[37#0]
def MC (H:Hp) (a:Addr):Prop:=(∃kvs,Rd H a 45#0)\/∃kvs,Rd H a (.dT kvs)
def Qq {X:Cx} {pins:List 10#0} {σ:St} {a:Addr} (I:5#0) (d:MC H a):
  s.TypeIs (.ref a) "dict"/\(∀b,Value.ref a=.ref b->∃c,s.heap.get? b=some c/\c.dict=none)/\(a == sysModules)=false:=by
 rcases d with ⟨kvs,e⟩|⟨kvs,e⟩
 ·let (_,g,n,_,dd):=sN I.hok e;refine {dd.typeIs,λb q=>?_,g};cases q;let (c,_,_,j,l,_):=dd;exact {(c),j,l.2.1}
 ·let (_,g,m,_,dd):=sL I.hok e;refine {dd.typeIs,λb q=>?_,g};cases q;let (c,_,_,j,l,_):=dd;exact {(c),j,l.2.1}
section
variable {pins:List (Addr × Obj)} {σ:St} {H:Hp} {s:Shared} {a:Addr} {y d:V} {u r:Value} {o:Option V} {A:Around} {E:Value->Shared->Prop}
def ES (x:A.units+1<cLine) (I:5#0) (g:fD H a y o) (n:bF y u) (h:∀q p,aV X pins σ H p->bF (o.getD .non) q->Q q p):
  wpAny 4#0 A (call (.builtin "dict.get") [.ref a,u]) Q E s:=by
 rcases g with ⟨kvs,k,e,j,l⟩|⟨kvs,k,b,e,j,B,l⟩
 ·subst j;let (z,m,C,c,dd):=sN I.hok e;refine call_meetsIn PySem.F.slot_dict_get dd.typeIs PySem.F.entry_dict_get (PySem.F.args_dict_get_2 _ _) (meets_dict_get (cD X.prog X.w) a (oX n) m) {_,dd.mapOf,h _ _ (I.tok _) ?_};rw [l];exact(c.val k).getD rfl
 ·subst j;cases (show u=Value.ref b from n);let (z,m,t,c,dd):=sL I.hok e;refine call_meetsIn PySem.F.slot_dict_get dd.typeIs PySem.F.entry_dict_get (PySem.F.args_dict_get_2 _ _) (meetsH_dict_get (tupleKind (cD X.prog X.w)) a b m) {tupleKind_room_in1 x,k,t,oK I.hok B,dd,h _ _ (I.tok _) ?_};rw [l];exact(c.val k).getD rfl
end
def BE (td ty:TE):TE:=λσ H Q=>td σ H λx H1=>∃a,x=.ref a/\MC H1 a/\ty σ H1 λy H2=>∃o,fD H2 a y o/\Q (o.getD .non) H2
def BC (td ty:TE):TE:=λσ H Q=>td σ H λx H1=>∃a,x=.ref a/\MC H1 a/\ty σ H1 λy H2=>∃kvs k v,H2 a=some 45#0/\y=kV k/\cW kvs k=some v/\Q v (upd H2 a (.dK (iR kvs k)))
section
variable {o e f:Expr} {apos cpos:Pos} {td ty tx:TE}
def Oh (hu:X.A.units+1<cLine) (ho:PE X o td) (he:PE X e ty) (m:M1 X o "get" apos e cpos):PE X (.Call (.Attribute o "get" apos) [e] [] cpos) (BE td ty):=by
 intro pins s σ H Q I h;refine wpAny_Call_method m.base m.few m.line PySem.F.plainAttrs_dict PySem.F.slot_dict_get PySem.F.type_dict_get (eP (ho s σ H _ I h) λu s1 x H1 I1 rx hUp=>?_);let (a,ex,d,q1):=hUp;subst ex;obtain rfl:u=Value.ref a:=rx;let (t1,t2,_):=Qq I1 d;refine {t1,t2,?_};rw [m.trees];refine L4 rfl (N0 (S9 (eP (he s1 σ H1 _ I1 q1) λiv s2 y H2 I2 ry ⟨ov,g,q2⟩=>Calls.spliced_nil ?_)));exact ES hu I2 g ry λw' s3 I3 rw'=>{_,H2,I3,rw',q2}
def Og (ho:PE X o td) (he:PE X e ty) (m:M1 X o "pop" apos e cpos):PE X (.Call (.Attribute o "pop" apos) [e] [] cpos) (BC td ty):=by
 intro pins s σ H Q I h;refine wpAny_Call_method m.base m.few m.line PySem.F.plainAttrs_dict PySem.F.slot_dict_pop PySem.F.type_dict_pop (eP (ho s σ H _ I h) λu s1 x H1 I1 rx hUp=>?_);let (a,ex,d,q1):=hUp;subst ex;obtain rfl:u=Value.ref a:=rx;let (t1,t2,_):=Qq I1 d;refine {t1,t2,?_};rw [m.trees];refine L4 rfl (N0 (S9 (eP (he s1 σ H1 _ I1 q1) λiv s2 y H2 I2 ry ⟨kvs,k,v,ea,ey,l,q2⟩=>Calls.spliced_nil ?_)));subst ey;exact JD I2 ea ry l (.inl rfl) λw' s3 I3 rw'=>{v,_,I3,rw',q2}
end
section
variable {pins:List (Addr × Obj)} {σ:St} {H:Hp} {s:Shared} {a:Addr} {kvs:List (bJ × V)} {A:Around} {E:Value->Shared->Prop}
end
section
variable {pins:List (Addr × Obj)} {σ:St} {H:Hp} {s:Shared} {a:Addr} {y:V} {u:Value} {A:Around} {E:Value->Shared->Prop}
end
def aI {p:Addr} {o:HO} (h:H p=none):aJ H (upd H p o):=λb u q=>by
 rw [aC (aD q h)]
 exact q
def Ou:lK X (binaryOp .FloorDiv) (rI (λ_ j=>0<j/\j<2 ^ 64) λi j=>.int (i / j)):=IG λi j _ _ _ _ _ a q=>by
 let e:i.fdiv j=i / j:=Int.fdiv_eq_ediv_of_nonneg _ (y9 a.1)
 rw [<- e] at q
 refine floordiv_int (Int.ne_of_gt a.1) q (.inl (PyProof.noPylong_of_log2 ?_))
 let c:j.natAbs<2 ^ 64:=∎
 let b:j.natAbs≠0:=∎
 let d:j.natAbs.log2<64:=(Nat.log2_lt b).mpr c
 omega
end
end
end L2
namespace HT
open PySem PyProof.Rows
section
variable {prog:Program} {w:World} {A:Around} {E:Value->Shared->Prop} {s:Shared}
def getItem_tuple_all {t d:Addr} {a:Array Value} {i l:Value} {lo hi:Option Int} {Q:Value->Shared->Prop} (b:IsTup s.heap t a) (k:s.heap.IsSliceOf d i l .none) (pl:IsPart i lo) (m:IsPart l hi)
  (j:sIx a.size 0 lo=0/\sIx a.size a.size hi=a.size) (h:Q (.ref t) s):wpAny 7#0 A (getItem (.ref t) (.ref d)) Q E s:=by
 let (p,f,e,q):=id k;let g:s.TypeIs (.ref d) "slice":={(p),f,e};unfold getItem
 try with_reducible refine w9 ?_
 first|refine d0 (i8 ?_)|skip
 refine d0 (wpAny_sequenceKey b.typeIs 8#0 ?_);refine d0 (B0 (name:=Str.ofString "__getitem__") b.typeIs E8
  (D9 E8 b.typeIs entry_tuple_getitem ?_ (args_tuple_getitem _ _)));show wpAny _ _ (Builtin.Tuple.tupleItemsOf (.ref t) >>= _) _ _ s;refine d0 (tupleItemsOf_ b ?_);refine d0 (wpAny_typeOf g ?_);rw [if_pos 8#0];refine d0 (iG k pl m ?_);let c:(((sIx a.size 0 lo:Nat):Int) == 0 && (1:Int) == 1 && (sIx a.size a.size hi-sIx a.size 0 lo) == a.size)=true:=by
  rw [j.1,j.2];simp
 show wpAny _ _ (if (((sIx a.size 0 lo:Nat):Int) == 0 && (1:Int) == 1 && (sIx a.size a.size hi-sIx a.size 0 lo) == a.size)=true then _ else _) _ _ s;rw [if_pos c];let (o,v,u,n,r):=id b;refine d0 ?_;unfold Builtin.Tuple.tupleIsExact;refine d0 (wpAny_typeOf b.typeIs ?_);refine i8 ?_;rw [if_pos 8#0];refine d0 (F1 ?_);exact i8 {_,ρ,i8 h}
end
end HT
namespace L2
open PySem PySem.Spec PyProof.Rows
section
variable {σ:St}
section
variable {X:Cx}
def KW:V->Option Int->Option Int->Hp->VK->Prop:=λx lo hi H Q=>∃a xs,x=.ref a/\H a=some (.tup xs)/\∀p H',aJ H H'->H' p=some (.tup (oN xs lo hi))->Q 49#0 H'
def BV:KA X KW:=by
 intro c s σ H x v y B j g z Q I o n t m h;let (a,b,rfl,i,q):=h;by_cases f:HT.sIx b.length 0 j=0/\HT.sIx b.length b.length g=b.length
 ·cases (show v=Value.ref a from o);let (k,r,l,C):=I.tuple (bX.of i);let d:k.toArray.size=b.length:=by rw [j7];exact r.length.symm
  refine {"tuple",_,PyProof.Rows.slot_tuple_getitem.lookup,l.typeIs,?_};refine HT.getItem_tuple_all l n t m (by rw [d];exact f) {.ref a,H,I,ρ,q a H (aJ.refl H) ?_};let e:oN b j g=b:=by
   unfold oN;rw [f.1,f.2];simp
  rw [e];exact i
 ·exact BU c s σ H _ v y B j g z Q I o n t m {a,b,ρ,bX.of i,f,λp u=>q p _ (aI u) aB}
end
abbrev Cx.blkF (X:Cx) (NB:List Str) (scope:Scope) (cl:List (Str × Addr)) (C:Addr) (s:Shared) (H:Hp) (fp:List Addr) (pn:List 10#0):Cx:=
 { X with N:=NB,s₀:=s,H₀:=H,env:=compEnvC scope cl C X.env,outer:=X.stack,ex:=fp,fn:=λ_=>false,pn:=pn,xe:=λ_ _=>False }
def dG (n:Nat) (js:List Nat) (σ:St):St:=List.replicate n none++js.map λj=>(σ[j]?).join
def vN (n:Nat) (js:List Nat) (wi:TI) (g:TG) (tc:TT) (te:TE):TE:=λσ H Q=>wi σ H λJ H1=>∀acc,H1 acc=none ->
 ∃W:Nat->Nat->List V->Hp->Prop,(∃m,W 0 m [] (upd H1 acc (.lst [])))/\∀i m ys H,W i m ys H->H acc=some (.lst ys) /\
  ((J.stop i H/\Q (.ref acc) H)\/(J.go i H/\∀x H',J.yld i H x H'->g x (dG n js σ) H' λσ2 H2=>σ2.drop n=(dG n js σ).drop n/\tc σ2 H2 λb H3=>
   if b=true then te σ2 H3 λy H4=>H4 acc=some (.lst ys)/\ys.length<sizeLine/\∃m',m'<m/\W (i+1) m' (ys++[y]) (upd H4 acc (.lst (ys++[y])))
   else ∃m',m'<m/\W (i+1) m' ys H3))
structure gO (X:Cx) (NB:List Str) (n:Nat) (js:List Nat) (scope:Scope) (cl:List (Str × Addr)):Prop where
 clo:closureFor scope X.env=pure cl
 sub:∀x c,cl.lookup x=some c->X.env.cells.lookup x=some c
 has:∀x,53#0->(cl.lookup x).isSome=true
 len:NB.length=n+js.length
 nam:∀k j,js[k]?=some j->NB[n+k]?=X.N[j]?
 ck:∀x,FT (relabel scope X.env) x->x ∈ NB.drop n->53#0/\(X.env.kindOf x=some .cell\/X.env.kindOf x=some .free)/\(cl.lookup x).isSome=true
section
variable {X:Cx} {NB:List Str} {n:Nat} {js:List Nat} {scope:Scope} {cl:List (Str × Addr)}
def oQ (T:gO X NB n js scope cl) (σ:St):(dG n js σ).length=NB.length:=by
 unfold dG;rw [j5,D4,g7,T.len]
def sS {i:Nat} {v:V} (h:(dG n js σ)[i]?=some (some v)):∃k j,i=n+k/\js[k]?=some j/\σ[j]?=some (some v):=by
 unfold dG at h;rcases Nat.lt_or_ge i n with c|c
 ·rw [B1 (by rw [D4];exact c),List.getElem?_replicate,if_pos c] at h;cases h
 ·rw [C8 (by rw [D4];exact c),D4,j1] at h;cases hj:js[i-n]? with
  | none=>rw [hj] at h;cases h
  | some j=>
   rw [hj] at h;let h:some ((σ[j]?).join)=some (some v):=h;let h:=Option.some.inj h;refine {i-n,j,∎,hj,?_};cases hs:σ[j]? with
   | none=>rw [hs] at h;cases h
   | some o=>
    rw [hs] at h;let h:o=some v:=h;rw [h]
def zX {pins:List 10#0} {H:Hp} {s:Shared} {h4:Heap} {tk:Nat} {A:List Addr} (I:5#0) (M:scope.kind=.function) (T:gO X NB n js scope cl)
  (t:∀b ∈ A,lV X pins H b) (Y:∀b ∈ A,b<s.heap.objs.size) {m:Str->Option Value} (hn:h4.Ns s.heap.objs.size m) (a:∀b o,s.heap.get? b=some o->h4.get? b=some o):
  aV (X.blkF NB scope cl s.heap.objs.size s H A (X.pn++pins)) [] (dG n js σ) H { s with heap:=h4,toks:=tk }:=by
 let r:∀b,b≠X.env.locals->b ∉ X.fs->b ∉ lW X.stack:=λb h1 h2 z=>(i3.mp (I.stkSub b z)).elim h1 h2;let (m0,W,C):=I.loc;refine {{I.ok.mod,M,I.ok.glob,I.ok.blt,g9 _,λx y c l D=>I.ok.inj x y c (T.sub x c l) (T.sub y c D),λx q=>O5.mp (T.has x q),λx c q=>(nomatch q),I.ok.hd,I.ok.frames,.inl rfl,λb h=>{j9 (Y b h),λx c q=>(t b h).2.2.2.2.1 x c (T.sub x c q)},I.bs,u8 I.ok.bsz I.sz,
  λb o q h=>?_,λb h=>r b (t b h).2.1 (t b h).2.2.1,I.stack,I.stkFree},ρ,I.bare,Un.kept a,{m,hn,λi x v l D J=>?_},λx c q=>?_,I.hok.fresh (g9 _),λx c q=>I.freeC x c (T.sub x c q),λp K=>?_,I.hok.kept a,?_}
 ·rcases (t b h).2.2.2.1 with z|z
  ·exact I.ok.noex b o q z
  ·exact absurd (p9 (i7 q) (u8 I.ok.bsz z)) (A3 _)
 ·let (k,j,rfl,S,hs):=sS D;let l:NB[n+k]?=some x:=l
  let Q:X.N[j]?=some x:=by rw [<- T.nam k j S];exact l
  let L:x ∈ NB.drop n:=i5 (i:=k) (by rw [v7];exact l);let (k1,F,k3):=T.ck x J L;let (c,G):=O5.mp k3;let (u,Z,P):=C j x v Q hs (F.elim (λz=>.inr (.inl z)) λz=>.inr (.inr z));refine {u,Z,.inr {k1,c,G,?_}};rcases P with ⟨z,_⟩|⟨_,O,B,o,f,g⟩
  ·rcases F with w|w <;> (rw [w] at z;cases z)
  ·let e:O=c:=Option.some.inj (B.symm.trans (T.sub x c G));subst e;exact {o,a _ _ f,g}
 ·let (v,o,f,g):=I.cell x c (T.sub x c q);exact {v,o,a _ _ f,g}
 ·let E:p ∈ X.pn++pins:=by simpa using K
  let (q,n,U,nf,d):=I.pin p E;exact {a _ _ q,n,j9 (i7 q),r _ U nf,d}
 ·exact oQ T σ
def vC {pins:List 10#0} {m:St} {H H':Hp} {s s':Shared} {h2:Heap} {f:List Addr} {pl:List 10#0} (I:5#0) (l:∀b ∈ f,lV X pins H b) (x:∀b ∈ f,b<s.heap.objs.size)
  (J:aV (X.blkF NB scope cl s.heap.objs.size s H f (X.pn++pins)) pl m H' s') (g:Heap.SameBut s.heap.objs.size s'.heap h2):aV X pins σ H' { s' with heap:=h2 }:=by
 let u:=J.base;let a:∀b o,s.heap.get? b=some o->b≠s.heap.objs.size:=λb o q=>j9 (i7 q);refine I.call' (s':={ s' with heap:=h2 }) (ch:=f) J.os {λb o q n d e=>(g.2 b (a b o q)).trans (u.keep b o q n d e),λb o q n d e=>?_,u.free,λb o q e=>?_,u.tups,u.frzs,u.tbls} (λb o q=>?_) J.bare λb d=>?_
 ·let (k,z):=u.slot b o q n d e;exact {k,(g.2 b (a b o q)).trans z}
 ·let (j,z):=u.there b o q e;exact {j,(g.2 b (a b o q)).trans z}
 ·refine(J.hok b o q).stay (λc y hc r=>(g.2 c ?_).trans r) (λ_ r=>r) λ_ _ r=>r;let h:H' s.heap.objs.size=none:=J.free;rintro rfl;rcases hc with rfl|hc
  ·rw [h] at q;cases q
  ·rw [h] at hc;cases hc
 ·let (v,p,w,t,f4,i):=l b d;exact {(t),p,f4,i}
def eK {S tg E:Expr} {N:List Expr} {pos:Pos} {wi:TI} {g:TG} {tc:TT} {te:TE} (hk:scope.kind=.function) (a6:∀x ∈ scope.names,x.2≠.cell)
  (P:∀x ∈ scope.names,x.2=.local->scope.names.lookup x.1=some .local) (_:(0:Nat)=0) (T:gO X NB n js scope cl) (hi:PI X tg E wi)
  (hg:∀C s H B pn,PG (X.blkF NB scope cl C s H B pn) tg g) (ht:∀C s H B pn,KB (X.blkF NB scope cl C s H B pn) N tc) (he:∀C s H B pn,PE (X.blkF NB scope cl C s H B pn) S te)
  (hs:∀x,foldedSetIterable E X.env x=pure x:=by intro _;rfl):PE X (.ListComp S [{tg,E,N,0}] scope pos) (vN n js wi g tc te):=by
 intro a s σ H Q I h;rw [eval_ListComp];refine wpAny_comprehension_free (use:=none) rfl hs T.clo hk P (gA (hi s σ H _ I h) λv s1 h1=>gA h1 λb2 t h2=>?_);let (it,B,tn,J,K,rfl,I2,U,a4,f2,h2):=h2;let aw:∀b ∈ B,b<t.heap.objs.size:=λb D=>by
  let (o,q,_):=U.obj 0 _ a4 b D;exact i7 q
 refine B8 ?_;let hz:K t.heap.objs.size=none:=I2.hok.fresh (g9 _);let (W,(m0,w0),ad):=h2 t.heap.objs.size hz;let I3:aV X a σ (upd K t.heap.objs.size (.lst [])) { t with heap:=t.heap.push { cls:=.type "list",dict:=none,data:=.seq ([]:List Value).toArray } }:=
  I2.laid (t':=t.toks) (λb o q=>g8 _ q) (g9 _) {i9 _,[],0,.nil,j3 _ rfl}
 generalize hs3:({ t with heap:=t.heap.push { cls:=.type "list",dict:=none,data:=.seq ([]:List Value).toArray } }:Shared)=f at I3 ⊢
 let a0:∀b o,t.heap.get? b=some o->f.heap.get? b=some o:=λb o q=>by rw [<- hs3];exact g8 _ q
 let f3:∀b ∈ B,lV X a (upd K t.heap.objs.size (.lst [])) b:=λb D=>{by rw [aC (j9 (aw b D))];exact(f2 b D).1,(f2 b D).2};let a3:∀b ∈ B,b<f.heap.objs.size:=λb D=>by
  let (o,q,_):=U.obj 0 _ a4 b D;exact i7 (a0 b o q)
 refine wpAny_newFunctionEnv a6 (by intro y hy;simp at hy) (λh4 ar av=>?_) hk;let F:∀b o,f.heap.get? b=some o->h4.get? b=some o:=λb o q=>(av.2 b (j9 (i7 q))).trans (g8 _ q);let I4:=zX (tk:=f.toks+([]:List (Str × Value)).length) I3 hk T f3 a3 ar F;let aa:tn 0 h4:=U.keep _ _ _ a4 λb D o q=>F b o (a0 b o q);let a8:∀{Y:Hp},(∀b ∈ B,Y b=none)->∀b ∈ B,lV 14#0 [] Y b:=λhn b D=>by
  let (g0,g1,g2,g3,g4,g5):=f3 b D;exact {hn b D,j9 (a3 b D),λz=>(i3.mp (I3.stkSub b z)).elim g1 g2,.inl D,λx c q=>g4 x c (T.sub x c q),λp hp=>g5 p (by simpa using hp)}
 let a1:∀s5:Shared,s5={ f with heap:=h4,toks:=f.toks+([]:List (Str × Value)).length }->codeAny 4#0 X.A (.compLoop (.ListComp S [{tg,E,N,0}] scope pos) 0 (.ref it) (.ref t.heap.objs.size) (compEnvC scope cl f.heap.objs.size X.env))
   (compPost 4#0 X.A X.xe none (EP X a σ Q) (.ref t.heap.objs.size) f.heap.objs.size) s5:=by
  rintro s5 rfl;refine codeAny_loop rfl (λk s'=>∃i ys Y,aV 14#0 [] (dG n js σ) Y s'/\tn i s'.heap/\(∀b ∈ B,Y b=none)/\W i k ys Y)
   (λk s6 hI=>?_) m0 {0,[],_,I4,aa,λb D=>(f3 b D).1,w0}
  let (i,ys,H6,I6,a9,af,w6):=hI;show wpAny _ _ ((compTurn (.ListComp S [{tg,E,N,0}] scope pos) 0 (.ref it) (.ref t.heap.objs.size) (compEnvC scope cl f.heap.objs.size X.env)).onRaise (λx=>do noteFrame x (compEnvC scope cl f.heap.objs.size X.env);theTreesLotGoes x)) _ _ s6;refine wpAny_noted ?_;rw [compTurn_list];refine d0 (N5 (d0 ?_));let (b0,ak):=ad i k ys H6 w6;rcases ak with ⟨ah,q⟩|⟨go,ac⟩
  ·refine gA (U.done 14#0 rfl rfl rfl rfl i [] s6 _ H6 _ I6 (a8 af) a9 ah) λr s7 G=>?_;let (hr,I7):=G;subst hr;let (m,hm,_):=I7.loc;exact i8 {m,hm,λh' an=>{.ref t.heap.objs.size,H6,vC I3 f3 a3 I7 an,ρ,q}}
  ·refine gA (U.item 14#0 rfl rfl rfl rfl i [] s6 _ H6 _ I6 (a8 af) a9 go) λr s7 G=>?_;let (u,hr,h7):=G;subst hr;refine d0 (gA h7 λ_ s8 G=>?_);let (x,H8,I8,r8,y8,a7,as):=G;let al:=I8.pinned (a8 as) (U.obj _ _ a7);let gp:∀{L:St} {Z:Hp} {s9:Shared},aV 14#0 ([]++gH B s8.heap) L Z s9->tn (i+1) s9.heap/\∀b ∈ B,Z b=none:=λI9=>
    ⟨U.keep _ _ _ a7 λb D o e=>(I9.pin (b,o) (j0 _ (j0 _ (dU D e)))).1,λb D=>by
     let (o,e,d):=U.obj _ _ a7 b D
     exact(I9.pin (b,o) (j0 _ (j0 _ (dU D e)))).2.1⟩
   let wk:∀{L:St} {Z:Hp} {s9:Shared},L.drop n=(dG n js σ).drop n->aV 14#0 ([]++gH B s8.heap) L Z s9->aV 14#0 [] (dG n js σ) Z s9:=λ{L Z s9} hd I9=>
    I9.unpinned.weak (by rw [oQ T,I9.len]) λk v z=>by
     let (k',j,rfl,_,_):=sS z;let e:=congrArg (λl=>l[k']?) hd;simp only [v7] at e;rw [e];exact z
   refine d0 (y6 (hg _ _ _ _ _ s8 _ H8 x u _ al r8 (ac x H8 y8)) (λ_ s9 hq=>?_) λ_ _ z=>z.elim);let (L,Z,I9,ai,q9):=hq;refine d0 (y6 (ht _ _ _ _ _ s9 L Z _ I9 q9) (λok az hq=>?_) λ_ _ z=>z.elim);let (ag,O,M):=hq;cases ok with
   | false=>
    rw [if_neg 9#0] at M;let (m',a5,ay):=M;exact i8 {ρ,m',a5,i+1,ys,ag,wk ai O,(gp O).1,(gp O).2,ay}
   | true=>
    rw [if_pos rfl] at M;refine d0 (d0 (y6 (he _ _ _ _ _ az L ag _ O M) (λy ap hq=>?_) λ_ _ z=>z.elim));let (yv,aq,au,ry,aj,ae,m',a5,ax):=hq;let mt:=fI (X:=X.blkF NB scope cl f.heap.objs.size f (upd K t.heap.objs.size (.lst [])) B (X.pn++a)) ([]++gH B s8.heap) ap L aq (.ref t.heap.objs.size) [yv] (.ref t.heap.objs.size) [y] (λ_ Y=>W (i+1) m' (ys++[yv]) Y) au rfl (.cons ry .nil) {_,ys,yv,ρ,ρ,aj,ae,ax};refine d0 (y6 mt (λ_ b3 hq=>?_) λ_ _ z=>z.elim);let (b1,am,a2,_,ao):=hq;exact i8 (i8 {ρ,m',a5,i+1,_,am,wk ai a2,(gp a2).1,(gp a2).2,ao})
 exact codeAny_compStart_list (a1 _ rfl) (U.self _ 0 _ _ _ aa (a1 _ rfl))
def LP (K:PySem.W.Frag) (tl:TE):TI:=λσ H R=>tl σ H λx H1=>∃a,x=.ref a/\(((∃xs,cQ K H1 a xs)/\R (Do K a) H1)\/((∃xs,bX K H1 a xs)/\R (Yw K a) H1))
def DD {w l:Expr} {m:TE} (B:PE X l m) (f:X.calm=true:=by rfl):PI X w l (LP X.K m):=by
 intro t s σ H R I h;refine eP (B s σ H _ I h) λv c x r d z i=>?_;let (a,e,i):=i;subst e;cases z;rcases i with ⟨⟨y,k⟩,q⟩|⟨⟨y,k⟩,q⟩
 ·let (g,A,p,u):=d.list k;refine P3 p.isList ?_;refine {c.heap.objs.size,[c.heap.objs.size],_,_,r,ρ,d.kept (t':=c.toks) λb o e=>g8 _ e,tZ a _ (I.ok.hd f),{_,j3 _ rfl,ρ,ρ},λb j=>?_,q};let e:b=c.heap.objs.size:=by simpa using j
  subst e;exact d.fpOk (g9 _) (d.hok.fresh (g9 _))
 ·let (g,A,p,u):=d.tuple k;refine S7 (show c.heap.IsTuple a g.toArray from p) ?_;refine {c.heap.objs.size,[c.heap.objs.size],_,_,r,ρ,d.kept (t':=c.toks) λb o e=>g8 _ e,qS a _ (I.ok.hd f),{_,j3 _ rfl,ρ,ρ},λb j=>?_,q};let e:b=c.heap.objs.size:=by simpa using j
  subst e;exact d.fpOk (g9 _) (d.hok.fresh (g9 _))
theorem xH:∀{a:List Str} {us:List Value},bA (a.map V.str) us->StrsAre us a
 | [],_,.nil=>.nil
 | y::a,_,.cons {(t),e} r=>by
  subst e
  exact .cons _ _ (xH r)
def IC (K:PySem.W.Frag):V->List V->Hp->VK->Prop:=λx vs H Q=>∃z a ys,x=.str z/\vs=[.ref a]/\cQ K H a (ys.map V.str)/\(ys.map λy=>y.length).sum+ys.length * z.length<=16777216/\Q (.str (Txt.join z ys)) H
def Wv:NF X "str.join" (IC X.K):=by
 intro b s σ H x r v p Q I e j h;let (z,a,w,rfl,rfl,f,c,q):=h;let (t,rfl):=e;let (u,rfl,d):=j.one;cases d;let (i,l,g,m):=I.list f;exact join_list g.isList (xH l) c λo k=>{.str _,H,I.tok _,{_,ρ},q}
end
end
end L2
namespace L2
open PySem PySem.Spec PyProof.Rows PySem.W
open Classical in
section
variable {t it e:Addr} {pins:List 10#0} {σ:St} {H:Hp} {s:Shared} {h':Heap} {tk:Nat} {i:Int} {Q:Value->Shared->Prop} {a:Array Value}
section
variable {prog:Program} {w:World} {A:Around} {E:Value->Shared->Prop} {s:Shared}
end
theorem lN {α β γ:Type} {F:β->γ->Prop} (f:α->β) (g:α->γ):∀{l:List α},(∀i ∈ l,F (f i) (g i))->Paired F (l.map f) (l.map g)
 | [],_=>.nil
 | a::l,h=>.cons (h a (i4 ..)) (lN f g λi b=>h i (g6 _ b))
section
variable {X:Cx}
section
variable {prog:Program} {w:World} {A:Around} {E:Value->Shared->Prop}
end
section
variable {pos:Pos}
end
def aV.byNews {m:Str->Option Value} (I:5#0) (h:s.heap.Ns X.env.locals m) (F:Fr X.base X.env.locals h' m) (N:News X.base X.env.locals h' (qD X.base s.heap X.env.locals)):
  aV X pins σ H { s with heap:=h',toks:=tk }:=by
 let a:∀b o,b≠X.env.locals->s.heap.get? b=some o->h'.get? b=some o:=λb o d e=>by
  cases z:X.base.get? b with
  | some f=>
   have:=I.bk b f z;rw [e] at this;cases this;exact F.keep b o z
  | none=>exact(N (b,o) (jW d z e)).1
 refine I.step (g':=s.gens) (d':=s.drawn) (ch:=[]) (λ_ z=>nomatch z) (λb o d _ _ e _=>a b o d e) (λb o d _ _ e _=>{o.slots,a b o d e}) (λb o _ e n=>n) (λb o _ e=>?_) (λ_ _ e=>e) (λ_ _ _ e=>e) (λb k e=>{#[],by simpa using e}) (λj g=>?_) (λb o q=>?_) I.bare
 ·by_cases d:b=X.env.locals
  ·subst d;let (f,_,_,z,_):=F.ns;exact {(f),z}
  ·exact {o,a b o d e}
 ·have:j=m:=funext λx=>g.agree h x;subst this;exact F.ns
 ·refine(I.hok b o q).stay (λc i hc r=>a c i ?_ r) (λ_ r=>r) λ_ _ r=>r;rintro rfl;rcases hc with hc|hc
  ·rw [<- hc,I.free] at q;cases q
  ·rw [I.free] at hc;cases hc
theorem oO:∀{bs:List Bool} {us:List Value},bA (bs.map V.bl) us->LSm.BoolsAre us bs
 | [],_,.nil=>.nil
 | b::bs,_,.cons e r=>by
  cases (show _=Value.bool b from e)
  exact .cons b (oO r)
def Rw (d:X.calm=true):gP X (.builtin "any") (λb H Q=>∃(a:Addr) (bs:List Bool),b=[.ref a]/\cQ X.K H a (bs.map V.bl)/\Q (.bl (bs.any id)) H):=by
 intro c s σ H b p Q I r h;let (a,bs,rfl,i,q):=h;let (u,rfl,f):=jQ r;cases f;let (l,k,j,o):=I.list i;let (m,F):=I.fr;exact LSm.any_bools F rX (I.ok.hd d) j.isList (oO k) λn t g e=>{.bl _,H,I.byNews F.ns g e,ρ,q}
def zV (d:X.calm=true):gP X (.builtin "all") (λb H Q=>∃(a:Addr) (bs:List Bool),b=[.ref a]/\cQ X.K H a (bs.map V.bl)/\Q (.bl (bs.all id)) H):=by
 intro c s σ H b p Q I r h;let (a,bs,rfl,i,q):=h;let (u,rfl,f):=jQ r;cases f;let (l,k,j,o):=I.list i;let (m,F):=I.fr;exact LSm.all_bools F rX (I.ok.hd d) j.isList (oO k) λn t g e=>{.bl _,H,I.byNews F.ns g e,ρ,q}
theorem bL.get {P:Program} {w:World} {H:Hp} {h:Heap} {a:Addr} {o:HO} (x:bL P w H h a o):∃u,h.get? a=some u:=by
 cases o with
 | lst xs=>let (_,_,_,_,e):=x;exact {_,e}
 | tup xs=>let (_,_,_,o,e,_):=x;exact {_,e}
 | dK kvs=>let (_,_,_,_,o,_,_,e,_):=x;exact {_,e}
 | dT kvs=>let (_,_,_,_,o,_,_,e,_):=x;exact {_,e}
 | set S n=>let (o,_,_,_,e,_):=x;exact {_,e}
 | ins C dx fs=>let (_,_,_,e,_):=x;exact {_,e}
 | own y=>let (_,e):=x;exact {_,e}
 | xd fs=>let (_,(_,_,_,e,_),_):=x;exact {_,e}
 | rng lo hi=>let (_,_,_,e):=x;exact {_,e}
 | frz ob u=>let (e,_):=x;exact {_,e}
 | tbl ps=>exact {_,show h.get? a=some _ from x}
 | met f y=>exact {_,show h.get? a=some _ from x}
 | ext φ=>let (_,(_,e),_):=x;exact {_,e}
def aV.byNewsL {m:Str->Option Value} {D:Addr} {zs:List V} (I:5#0) (y:s.heap.Ns X.env.locals m) (h:h'.Ns X.env.locals m)
  (a:∀b o,b≠X.env.locals->s.heap.get? b=some o->h'.get? b=some o) (k:s.heap.get? D=none) (C:zs.length<=sizeLine) {g:List Value} {n:Nat} (l:bA zs g) (i:h'.get? D=some { cls:=.type "list",data:=.seq g.toArray n }):
  H D=none/\aV X pins σ (upd H D (.lst zs)) { s with heap:=h',toks:=tk }:=by
 let j:H D=none:=by
  cases z:H D with
  | none=>rfl
  | some o=>
   let (u,e):=(I.hok D o z).get;rw [k] at e;cases e
 refine {j,?_};let p:∀b o,s.heap.get? b=some o->b≠D:=λb o e z=>by
  rw [z,k] at e;cases e
 let d:∀b o,H b=some o->b≠D:=λb o e z=>by
  rw [z,j] at e;cases e
 refine I.step (g':=s.gens) (d':=s.drawn) (ch:=[]) (λ_ z=>nomatch z) (λb o f _ _ e _=>a b o f e) (λb o f _ _ e _=>{o.slots,a b o f e}) (λb o _ e n=>by rw [aC (p b o e)];exact n) (λb o _ e=>?_) (λb v e=>by rw [aC (d b _ e)];exact e) (λb o u e=>by rw [aC (d b _ e)];exact e) (λb E e=>{#[],by rw [aC (d b _ e)];simpa using e}) (λB w=>?_) (λb o q=>?_) I.bare
 ·by_cases f:b=X.env.locals
  ·subst f;let (t,_,_,z,_):=h;exact {(t),z}
  ·exact {o,a b o f e}
 ·have:B=m:=funext λx=>w.agree y x;subst this;exact h
 ·by_cases f:b=D
  ·subst f;rw [aB] at q;cases q;exact {(C),g,n,l,i}
  ·rw [aC f] at q;refine(I.hok b o q).stay (λc A hc r=>a c A ?_ r) (λc e=>by rw [aC (d c _ e)];exact e) λc v e=>by rw [aC (d c _ e)];exact e
   rintro rfl;rcases hc with hc|hc
   ·rw [<- hc,I.free] at q;cases q
   ·rw [I.free] at hc;cases hc
theorem zD:∀{ns:List Int} {us:List Value},bA 32#0 us->IntsAre us ns
 | [],_,.nil=>.nil
 | n::ns,_,.cons {(t),e} r=>by
  subst e
  exact .cons n t (zD r)
def uP:lK X (compareOp .LtE) (λx y H Q=>∃i j,x=.str i/\y=.str j/\Q (.bl (!decide (j.cps.toList<i.cps.toList))) H):=by
 intro a s σ H x y v u Q I c b h;let (i,j,rfl,rfl,q):=h;let (t,rfl):=c;let (d,rfl):=b;exact PySem.P.le_str {.bl _,H,I,ρ,q}
section
variable {prog:Program} {w:World} {A:Around} {E:Value->Shared->Prop} {s:Shared}
def Ap {α:Type} {M:Model} {c:Prop} [Decidable c] {a b:Sem α} {Q:α->Shared->Prop} (d:c->wpAny M A a Q E s) (h2:¬ c->wpAny M A b Q E s):wpAny M A (if c then a else b) Q E s:=by
 split
 ·exact d ‹_›
 ·exact h2 ‹_›
def Da {items:Array Value} {u:Tok} (ht:IsTup s.heap t items) (hi:Builtin.SmallTypes.fitsIndex i=true)
  (hQ:∀h':Heap,IsEnum h' 16#0 s.heap.objs.size i .none->h'.IsTupleIter s.heap.objs.size t 0->h'.objs.size=s.heap.objs.size+2->(∀b o,s.heap.get? b=some o->h'.get? b=some o)->Q (.ref 16#0) { s with heap:=h' }):
  wpAny 7#0 A (call (.type "enumerate") [.ref t] [("start",.int i u)]) Q E s:=by
 refine M9 (codeAny_of_tree ?_);refine i8 {Code.quiet_builtin _ callType_meets._proof_1_1,K7 F.entry_type_call ?_};rw [Around.under_plain (weight_type_call_type "enumerate" [.ref t] [("start",.int i u)]) (units_type_call_type "enumerate" [.ref t] [("start",.int i u)])];let ft:=F.called_enumerate;unfold Builtin.«type.__call__»;refine D0 8#0 ?_;refine D0 (by rw [ft.canCreate];decide) ?_;let hct:checkTypeCall "enumerate" { pos:=[.ref t],kw:=[("start",.int i u)] }=pure ():=by rfl
 let (c,tl,hmro):=ft.mro;let hmade:=ft.made;refine d0 (C6 hct ?_);refine d0 (C6 hmro ?_);refine D0 9#0 ?_;refine d0 (C6 hmade ?_);refine d0 51#0;refine d0 (w9 ?_);let hcn:checkBuiltinCall "enumerate.__new__" { pos:=[Value.type "enumerate",.ref t],kw:=[("start",.int i u)] }=pure ():=by kernel_rfl
 refine M9 (R5 ft.plain F.entry_enumerate_new (C6 hcn ?_));unfold Builtin.«enumerate.__new__»;let hnc:Builtin.SmallTypes.newClass "enumerate" { pos:=[Value.type "enumerate",.ref t],kw:=[("start",.int i u)] }=pure (Value.type "enumerate",[.ref t]):=by rfl
 refine d0 (C6 hnc ?_);refine R9 8#0 ?_;refine d0 ?_;unfold Builtin.SmallTypes.calledThroughType;refine d0 (wpAny_stack_any λst=>i8 ?_);let rest:∀(R:PySem.Fin->Shared->Prop) (E':Value->Shared->Prop),(∀h':Heap,IsEnum h' 16#0 s.heap.objs.size i .none->h'.IsTupleIter s.heap.objs.size t 0->h'.objs.size=s.heap.objs.size+2->(∀b o,s.heap.get? b=some o->h'.get? b=some o)->R (PySem.Fin.done (Flow.ret (.ref 16#0))) { s with heap:=h' }) ->
   wpAny 7#0 A.in1.in1 (do
    let obj <- Builtin.SmallTypes.indexObject "enumerate.__new__" (Value.int i u)
    let x <- asInt? obj
    match x with
    | some i=>
     if (!Builtin.SmallTypes.fitsIndex i)=true then do
      rule "enumerate.__new__.huge-start"
      match obj with
      | Value.int _ _=>do
       let given <- pure obj
       let it <- pyIter (.ref t)
       let r <- Builtin.SmallTypes.newRecord (Value.type "enumerate") (Builtin.SmallTypes.ownedTupleFields++[it,rawInt i,given,Value.none])
       ret r
      | _=>do
       let given <- mkInt i
       let it <- pyIter (.ref t)
       let r <- Builtin.SmallTypes.newRecord (Value.type "enumerate") (Builtin.SmallTypes.ownedTupleFields++[it,rawInt i,given,Value.none])
       ret r
     else do
      let it <- pyIter (.ref t)
      let r <- Builtin.SmallTypes.newRecord (Value.type "enumerate") (Builtin.SmallTypes.ownedTupleFields++[it,rawInt i,Value.none,Value.none])
      ret r
    | none=>do
     let _ <- (unsupported "internal:enumerate.__new__":Sem Unit)
     let it <- pyIter (.ref t)
     let r <- Builtin.SmallTypes.newRecord (Value.type "enumerate") (Builtin.SmallTypes.ownedTupleFields++[it,rawInt 0,Value.none,Value.none])
     ret r) R E' s:=λR E' hR=>by
  refine d0 (C6 (a:=Value.int i u) 33#0 ?_);refine d0 (C6 (a:=some i) 33#0 ?_);refine D0 (by rw [hi];decide) ?_;refine d0 (S7 (show s.heap.IsTuple t items from ht) ?_);refine d0 ?_;show wpAny _ _ (newObj (Value.type "enumerate") (Data.fields #[Value.none,Value.bool false,.ref s.heap.objs.size,rawInt i,Value.none,Value.none])) _ _ _;refine B8 ?_;refine i8 ?_;let sz:(s.heap.push { cls:=Value.type "tuple_iterator",data:=Data.fields #[Value.ref t,Value.int 0 0] }).objs.size=s.heap.objs.size+1:=by rw [M3]
  rw [sz];refine hR _ ?_ ?_ ?_ ?_
  ·rw [<- sz];exact j3 _ rfl
  ·exact {_,g8 _ (j3 _ rfl),ρ,ρ}
  ·rw [M3,sz]
  ·exact λb o e=>g8 _ (g8 _ e)
 refine Ap (λ_=>?_) (λ_=>?_)
 all_goals
  refine d0 (C6 (a:=(Value.ref t,some (Value.int i u))) (by kernel_rfl) ?_);refine rest _ _ λh' e1 e2 e3 e4=>?_;show wpAny _ _ (isInstance (Value.ref 16#0) (Value.type "enumerate") >>= _) _ _ _;refine d0 (Q6 {_,e1,ρ} ft.sub ?_);refine D0 8#0 ?_;refine d0 (w9 (B0 {_,e1,ρ} ft.init ?_));refine wpAny_call_entry_kw ft.init {_,e1,ρ} F.entry_object_init ?_ (by kernel_rfl);unfold Builtin.«object.__init__»;refine R9 33#0 ?_;refine d0 (wpAny_typeOf {_,e1,ρ} ?_);refine d0 (C6 ft.init.lookup ?_);refine d0 (C6 hmade ?_);refine D0 8#0 ?_;refine D0 (by kernel_rfl) ?_;refine i8 {_,ρ,?_};refine D0 8#0 ?_;refine i8 ?_;exact hQ h' e1 e2 e3 e4
def Ci {i:Nat} {x:Value} (b:IsTupIter s.heap it t i) (j:IsTup s.heap t a) (l:a[i]?=some x)
  (h:∀e,IsTupIter e it t (i+1)->Heap.SameBut it s.heap e->Q x { s with heap:=e }):wpAny 7#0 A (Builtin.SmallTypes.nextOf (.ref it)) Q E s:=by
 let (o,d,k,c):=id b;let (p,f,m,n,g):=id j;unfold Builtin.SmallTypes.nextOf;refine d0 (B0 b.typeIs slot_tupleiter_next (D9 slot_tupleiter_next b.typeIs entry_tupleiter_next ?_ (args_tupleiter_next _)));show wpAny _ _ (field (Value.ref it) 0 >>= _) _ _ _;refine d0 (z6 d c (x:=.ref t) rfl ?_);refine D0 33#0 ?_;refine d0 (z6 d c (x:=.int i 0) rfl ?_);refine d0 (J9 f g ?_);show wpAny _ _ (match a[((i:Int)).toNat]? with|some x=>_|none=>_) _ _ _;rw [J4,l];refine d0 (F7 d c 9#0 ?_);refine i8 {x,ρ,i8 (h _ {_,J0 _ d (Q9 (O7 c _)),(Obj.cls_mapFields o _).trans k,?_} (C9 s.heap it _))};rw [O7 c];simp [rawInt]
def jV {i:Nat} (q:A.handled=none) (c:IsTupIter s.heap it t i) (k:IsTup s.heap t a) (n:a[i]?=none)
  (m:∀d e,Heap.ExtBut it s.heap d->(∃o,d.get? e=some o/\o.cls=Value.type "StopIteration")->E (.ref e) { s with heap:=d }):wpAny 7#0 A (Builtin.SmallTypes.nextOf (.ref it)) Q E s:=by
 let (o,g,r,f):=id c;let (v,h,p,u,j):=id k;unfold Builtin.SmallTypes.nextOf;refine d0 (B0 c.typeIs slot_tupleiter_next (D9 slot_tupleiter_next c.typeIs entry_tupleiter_next ?_ (args_tupleiter_next _)));show wpAny _ _ (field (Value.ref it) 0 >>= _) _ _ _;refine d0 (z6 g f (x:=.ref t) rfl ?_);refine D0 33#0 ?_;refine d0 (z6 g f (x:=.int i 0) rfl ?_);refine d0 (J9 h j ?_);show wpAny _ _ (match a[((i:Int)).toNat]? with|some x=>_|none=>_) _ _ _;rw [J4,n];refine d0 (F1 ?_);refine d0 (F7 g f 9#0 ?_);unfold Builtin.SmallTypes.stopIteration;refine d0 ?_;unfold newExc;refine d0 (S0 ?_ (i9 _));refine d0 (C6 rfl ?_);refine B8 ?_ (sizeOk_excFields _ _ _ _ _ _ _ _);unfold raiseNew;refine d0 (wpAny_handled ?_);rw [show A.in1.handled=none from q];refine wpAny_throw ?_;refine m _ _ (λb y l e=>?_) {_,j3 _ rfl,ρ};refine g8 _ (g8 _ ?_);rw [Heap.get?_update_ne _ _ _ _ l];exact e
def Jj (n:A.handled=none) (m:t≠it):Draws prog w A it [it,t] a.size (λi v=>a[i]?=some v) (λi h=>IsTupIter h it t i/\IsTup h t a) where
 live:=λi h ⟨⟨o,ho,_⟩,_⟩=>{(o),ho}
 frame:=λi h g ⟨⟨o,ho,r⟩,⟨e,b,f⟩⟩ k=>{{o,k it 9#0 o ho,r},{e,k t 9#0 e b,f}}
 item:=λi s Q E j c h=>Ci c.1 c.2 (y0 j) λg d l=>h _ g s.toks (y0 j) ⟨d,by
  let (e,b,f):=c.2
  exact {e,(l.2 t m).trans b,f}⟩ l
 done:=λs Q E c h=>jV n c.1 c.2 9#0 h
def Il {Z:List Addr} {n j:Nat} {P:Nat->Value->Prop} {St:Nat->Heap->Prop} {B:Value} {Q:Option Value->Shared->Prop} (D:Draws prog w A.in1 it Z n P St) (H:IsEnum s.heap e it i B) (W:St j s.heap) (O:j<n) (X:e≠it) (M:e ∉ Z)
  (hQ:∀x p k,P j x->IsEnumOut p e it (i+1) x s.heap.objs.size->St (j+1) p->p.get? s.heap.objs.size=some { cls:=Value.type "tuple",data:=Data.seq #[Value.int i k,x] }->p.objs.size=s.heap.objs.size+1 ->
   (∀b o,b≠e->b≠it->s.heap.get? b=some o->p.get? b=some o)->Q (some (.ref s.heap.objs.size)) { s with heap:=p,toks:=k+1 }):wpAny 7#0 A (pyNext (.ref e)) Q E s:=by
 let hT:s.TypeIs (.ref e) "enumerate":={_,H,ρ};show wpAny _ _ (_ >>= _) _ _ _;refine d0 (J3 (B0 hT M5 (D9 M5 hT F.entry_enumerate_next ?_ (F.args_enumerate_next_1 _))));unfold Builtin.«enumerate.__next__»;refine d0 (C6 (a:=(Value.ref e,[])) 33#0 ?_);refine d0 (z6 H rfl rfl ?_);refine d0 (D.item j s _ _ O W λx h1 k hx I m=>?_);let l:=(m.2 e X).trans H;refine d0 (z6 l rfl rfl ?_);refine d0 (z6 l rfl rfl ?_);refine R9 33#0 ?_;refine d0 (wpAny_mkInt ?_);refine d0 (K9 l 9#0 λh2 J u=>?_);refine d0 (K9 J 9#0 λt S C=>?_);refine d0 (S0 ?_ (by show 2<=sizeLine;decide));let h:(t.push { cls:=Value.type "tuple",data:=Data.seq #[Value.int i k,x] }).get? e=some { cls:=Value.type "enumerate",data:=Data.fields #[Value.none,Value.bool false,Value.ref it,rawInt (i+1),Value.none,B] }:=g8 _ S;unfold Builtin.SmallTypes.ownedTupleIsFree;refine d0 (d0 (z6 h rfl rfl 51#0));refine R9 33#0 ?_;refine d0 (F1 ?_);refine d0 (z6 h rfl rfl ?_);refine d0 (K9 h 9#0 λh5 Y v=>?_);unfold Builtin.SmallTypes.ownedTupleHandOut;refine d0 (d0 (K9 Y 9#0 λh6 N y=>?_));refine K9 N 9#0 λr K G=>?_;refine d0 (Q0 ?_);let d:t.objs.size=s.heap.objs.size:=C.1.trans (u.1.trans m.1);let T:(t.push { cls:=Value.type "tuple",data:=Data.seq #[Value.int i k,x] }).objs.size=s.heap.objs.size+1:=by rw [M3,d]
 let U:r.objs.size=s.heap.objs.size+1:=G.1.trans (y.1.trans (v.1.trans T));let el:e<s.heap.objs.size:=i7 H;let g:∀b o,b≠e->(t.push { cls:=Value.type "tuple",data:=Data.seq #[Value.int i k,x] }).get? b=some o->r.get? b=some o:=λb o c z=>(G.2 b c).trans ((y.2 b c).trans ((v.2 b c).trans z));let k1:∀b o,b≠e->h1.get? b=some o->r.get? b=some o:=λb o c z=>g b o c (g8 _ ((C.2 b c).trans ((u.2 b c).trans z)));refine i8 {_,ρ,?_};show wpAny _ _ (pure (some (Value.ref t.objs.size))) _ _ _;refine i8 ?_;rw [d];let f:r.get? e=some { cls:=Value.type "enumerate",data:=Data.fields #[rawInt (t.objs.size:Nat),Value.bool false,Value.ref it,rawInt (i+1),Value.none,x] }:=K;rw [d] at f;refine hQ x r k hx f (D.frame (j+1) h1 r I λb c o z=>k1 b o (λq=>M (q ▸ c)) z) ?_ U λb o c L z=>k1 b o c ((m.2 b L).trans z);refine g _ _ (M0 el) ?_;rw [<- d];exact j3 _ rfl
def tK {j:Nat} {b:Array Value} {f:Value} {Q:Option Value->Shared->Prop} (p:A.handled=none) (h:IsEnum s.heap e it i f) (g:IsTupIter s.heap it t j) (m:IsTup s.heap t b) (n:b[j]?=none)
  (l:∀c,Heap.ExtBut it s.heap c->Q none { s with heap:=c }):wpAny 7#0 A (pyNext (.ref e)) Q E s:=by
 let k:s.TypeIs (.ref e) "enumerate":={_,h,ρ};show wpAny _ _ (_ >>= _) _ _ _;refine d0 (J3 (B0 k M5 (D9 M5 k F.entry_enumerate_next ?_ (F.args_enumerate_next_1 _))));unfold Builtin.«enumerate.__next__»;refine d0 (C6 (a:=(Value.ref e,[])) 33#0 ?_);refine d0 (z6 h rfl rfl ?_);exact d0 (jV p g m n λc x d ⟨o,ho,hc⟩=>d0 (Q6 {(o),ho,hc} isSubtype_stop (i8 (l c d))))
end
def aV.turnedL {ch:List Addr} {T:Addr} {zs:List V} (I:5#0) (f:∀b ∈ ch,lV X pins H b) (k:∀b o,b ∉ ch->s.heap.get? b=some o->h'.get? b=some o)
  (i:s.heap.objs.size<=T) (h:bL X.prog X.w (upd H T (.tup zs)) h' T (.tup zs)):aV X pins σ (upd H T (.tup zs)) { s with heap:=h',toks:=tk }:=by
 let m:H T=none:=I.hok.fresh i;let j:∀b o,s.heap.get? b=some o->b≠T:=λb o e z=>by
  have:=i7 e;rw [z] at this;exact absurd (p9 this i) (A3 _)
 let a:∀b o,H b=some o->b≠T:=λb o e z=>by
  rw [z,m] at e;cases e
 let g:X.env.locals ∉ ch:=λz=>(f _ z).2.1 rfl;refine I.step (g':=s.gens) (d':=s.drawn) (ch:=ch) (λb d=>{(f b d).2.2.2.1,(f b d).2.1,(f b d).2.2.2.2.1,(f b d).2.2.2.2.2}) (λb o _ _ hc e _=>k b o hc e) (λb o _ _ hc e _=>{o.slots,k b o hc e}) (λb o _ e n=>by rw [aC (j b o e)];exact n) (λb o hc e=>{o,k b o hc e}) (λb t e=>by rw [aC (a b _ e)];exact e) (λb o u e=>by rw [aC (a b _ e)];exact e) (λb y e=>{#[],by rw [aC (a b _ e)];simpa using e}) (λB v=>?_) (λb o q=>?_) I.bare
 ·let (o,l,p,z,r):=v;exact {o,l,p,k _ _ g z,r}
 ·by_cases d:b=T
  ·subst d;rw [aB] at q;cases q;exact h
  ·rw [aC d] at q;refine(I.hok b o q).stay (λc x hc r=>k c x ?_ r) (λc e=>by rw [aC (a c _ e)];exact e) λc t e=>by rw [aC (a c _ e)];exact e
   intro z;rcases hc with hc|hc
   ·rw [<- hc,(f c z).1] at q;cases q
   ·rw [(f c z).1] at hc;cases hc
def aV.turnedN {ch:List Addr} (I:5#0) (a:∀b ∈ ch,lV X pins H b) (k:∀b o,b ∉ ch->s.heap.get? b=some o->h'.get? b=some o):aV X pins σ H { s with heap:=h',toks:=tk }:=by
 let f:X.env.locals ∉ ch:=λz=>(a _ z).2.1 rfl;refine I.step (g':=s.gens) (d':=s.drawn) (ch:=ch) (λb d=>{(a b d).2.2.2.1,(a b d).2.1,(a b d).2.2.2.2.1,(a b d).2.2.2.2.2}) (λb o _ _ hc e _=>k b o hc e) (λb o _ _ hc e _=>{o.slots,k b o hc e}) (λb o _ e n=>n) (λb o hc e=>{o,k b o hc e}) (λb i e=>e) (λb o u e=>e) (λb m e=>{#[],by simpa using e}) (λp j=>?_) (λb o q=>?_) I.bare
 ·let (o,g,h,z,r):=j;exact {o,g,h,k _ _ f z,r}
 ·refine(I.hok b o q).stay (λc l hc r=>k c l ?_ r) (λc e=>e) λc i e=>e;intro z;rcases hc with hc|hc
  ·rw [<- hc,(a c z).1] at q;cases q
  ·rw [(a c z).1] at hc;cases hc
def JR (K:Frag) (t:Addr) (dD:Int):It:=
 ⟨λi H=>∃xs x,bX K H t xs/\xs[i]?=some x,λi H x H'=>∃T v,H T=none/\x=.ref T/\H'=upd H T (.tup [.int (dD+i),v])/\∀xs,bX K H t xs->xs[i]?=some v,λi H=>∃xs,bX K H t xs/\xs.length<=i⟩
def Hk {P:Program} {m:Option Value} {w:World} {K:Frag} {C:List Expr} {k1:Nat} {pos:Pos} {dD:Int} (j:e≠it) (e0:m=none):Aa P w K m (.Tuple C k1 pos) (JR K t dD) [e,it] e (λi h=>(∃a,IsEnum h e it (dD+i) a)/\IsTupIter h it t i) where
 mem:=by simp
 obj:=λi h ⟨⟨a,d⟩,⟨o,F,_,hd⟩⟩ b hb=>by
  rcases i3.mp hb with rfl|hb
  ·exact {_,d,λv z=>by cases z}
  ·let e1:b=it:=by simpa using hb
   subst e1
   exact {o,F,λv z=>by rw [hd] at z;cases z}
 keep:=λi h h' ⟨⟨a,d⟩,⟨o,F,r⟩⟩ k=>{{a,k e 9#0 _ d},{o,k it 9#0 o F,r}}
 item:=by
  intro X U Z hK hc i G s σ H E I J st hg;subst U Z hK;let (xs,x,L,T):=hg;let (c,rv,p,hz):=I.tuple L;let (u,hu,ru):=rv.get T;let ((a,d),f):=st;let Y:t≠it:=λz=>by
   let (o1,z1,z2,_):=f;let (o2,n,g,_):=p;rw [z,z1] at n;cases n;rw [z2] at g;injection g with g;exact absurd g (by decide)
  let Q:t≠e:=λz=>by
   let (o2,n,g,_):=p;rw [z,d] at n;cases n;injection g with g;exact absurd g (by decide)
  let D:Draws X.prog X.w X.A.in1 it [it,t] c.toArray.size (λi v=>c.toArray[i]?=some v) (λi h=>IsTupIter h it t i/\IsTup h t c.toArray):=Jj (hc.trans e0) Y;let O:i<c.toArray.size:=by
   have:=(e8.mp hu).1;simpa using this
  refine Il D d {(f),p} O j (by simp [j,Q.symm]) λy h1 tk hy F M hT a2 kp=>{_,ρ,?_};let ey:y=u:=by
   have:c.toArray[i]?=some u:=by simpa using hu
   exact Option.some.inj (hy.symm.trans this)
  subst ey;refine wpAny_letOwnedTupleGo_enum F λh2 N l=>?_;let S:s.heap.objs.size≠e:=M0 (i7 d);let T2:h2.get? s.heap.objs.size=some { cls:=Value.type "tuple",data:=Data.seq #[Value.int (dD+i) tk,y] }:=(l.2 _ S).trans hT;let k2:∀b o,b ∉ [e,it]->s.heap.get? b=some o->h2.get? b=some o:=λb o hb z=>by
   let B:b≠e:=λq=>hb (by simp [q]);let a1:b≠it:=λq=>hb (by simp [q]);exact(l.2 b B).trans (kp b o B a1 z)
  refine {.ref s.heap.objs.size,upd H s.heap.objs.size (.tup [.int (dD+i),x]),I.turnedL J k2 (g9 _) {by show 2<=sizeLine;decide,[Value.int (dD+i) tk,y],.cons {_,ρ} (.cons ru .nil),{_,T2,ρ,_,ρ}},ρ,{_,x,I.hok.fresh (g9 _),ρ,ρ,λys a0=>by rw [I.tuple_inj a0 L];exact T},{{y,?_},?_},λb hb=>?_}
  ·rw [show dD+((i+1:Nat):Int)=dD+i+1 by omega];exact N
  ·let (o,z,r):=M.1;exact {o,(l.2 it j.symm).trans z,r}
  ·let lb:b<s.heap.objs.size:=by
    rcases i3.mp hb with rfl|hb
    ·exact i7 d
    ·let e1:b=it:=by simpa using hb
     subst e1;let (o,z,_):=f;exact i7 z
   rw [aC (j9 lb)];exact(J b hb).1
 done:=by
  intro X U Z hK hc i G s σ H E I J st hg;subst U Z hK;let (xs,L,T):=hg;let (c,rv,p,hz):=I.tuple L;let ((a,d),f):=st;let hl:=rv.length;exact tK (hc.trans e0) d f p (by simp;omega) λh' eb=>{ρ,I.turnedN (tk:=s.toks) J λb o hb z=>eb b o (λq=>hb (by simp [q])) z}
 self:=λ_ _ _ _ _ ⟨⟨a,d⟩,_⟩ h=>wpAny_pyIter_enum d h
def IY (K:Frag) (ta td:TA):TI:=λσ H R=>ta σ H λxs H1=>td σ H1 λds H2=>∃(t:Addr) (d:Int),xs=[.ref t]/\ds=[.int d]/\Builtin.SmallTypes.fitsIndex d=true/\(∃ys,bX K H2 t ys)/\R (JR K t d) H2
def Fj {x:Str} {p pos c m:Pos} {a b:Expr} {k:List Expr} {k1:Nat} {F B:TA} (hg:Gl X x) (hm:X.mg x=none) (S:bootBuiltins x=some (.type "enumerate")) (ha:PA X [a] F) (J:PK X [{some "start",b,c}] B) (hn:x≠"__name__":=by decide) (n:27#0=false:=by decide)
  (l:(backToKw pos (keywordEach [{some "start",b,c}] X.env)).all (·.1.isSome)=true:=by rfl) (v:(backToKw pos (keywordEach [{some "start",b,c}] X.env)).filterMap (·.1)=[("start":Str)]:=by rfl)
  (he:starEach [a] X.env=(false,eval a X.env)::starEach [] X.env:=by rfl) (y:((backTo pos (starEach [a] X.env)).any (·.1) || (backToKw pos (keywordEach [{some "start",b,c}] X.env)).any (·.1.isNone))=false:=by rfl) (o:X.calm=true:=by rfl):
  PI X (.Tuple k k1 m) (.Call (.Name x p) [a] [{some "start",b,c}] pos) (IY X.K F B):=by
 intro f s σ H R I h;refine D7 (jY I hg hm S ?_ hn n);refine PySem.W.callWith_of (P:=λg=>X.K.In g) y (λ_ _=>{.machine,.inr (.inl rfl),.now}) (O2 l (vM (ha f s σ H _ I h) λus Q vs L T r q=>?_) he);refine vM (J pos f Q σ L _ T q) λws j zs D i M z=>{i.kIn,?_};rw [v];let (t,d,rfl,rfl,hf,(ys,hq),z):=z;let (u,rfl,Y):=r.one;cases Y;let (u',rfl,tk,rfl):=M.one;let (a0,rv,O,hz):=i.tuple hq;refine Da O hf λG C N e3 Z=>?_;refine wpAny_pyIter_enum C ?_;let U:aV X f σ D { j with heap:=G }:=i.kept (t':=j.toks) Z;refine {j.heap.objs.size+1,[j.heap.objs.size+1,j.heap.objs.size],_,_,D,ρ,U,Hk (t:=t) (dD:=d) (Nat.succ_ne_self _) (I.ok.hd o),{{.none,by rw [show d+((0:Nat):Int)=d by omega];exact C},N},λb hb=>?_,z};rcases i3.mp hb with rfl|hb
 ·exact i.fpOk (L3 _) (i.hok.fresh (L3 _))
 ·let e:b=j.heap.objs.size:=by simpa using hb
  subst e;exact i.fpOk (g9 _) (i.hok.fresh (g9 _))
end
end
end L2
namespace L2
open PySem PySem.Spec PyProof.Rows
section
variable {X:Cx}
end
section
variable {X:Cx} {NB:List Str} {n:Nat} {js:List Nat} {scope:Scope} {cl:List (Str × Addr)}
def iV {M tg B:Expr} {L:List Expr} {pos a5 py:Pos} {y:Str} {ix:Nat} {wi:TI} {g:TG} {tc:TT} {te:TE} (hN:X.N.Nodup) (b2:X.N[ix]?=some y) (as:vI X.env.scope y) (hk:scope.kind=.function) (ad:∀x ∈ scope.names,x.2≠.cell)
  (a2:∀x ∈ scope.names,x.2=.local->scope.names.lookup x.1=some .local) (_:(0:Nat)=0) (T:gO X NB n js scope cl) (hi:PI X tg B wi)
  (hg:∀C s H G pn,PG (X.blkF NB scope cl C s H G pn) tg g) (ht:∀C s H G pn,KB (X.blkF NB scope cl C s H G pn) L tc) (he:∀C s H G pn,PE (X.blkF NB scope cl C s H G pn) M te)
  (b6:swapsWith (.ListComp M [{tg,B,L,0}] scope pos) (some (.Name y py)) a5.line X.env=pure true:=by rfl)
  (hf:X.fn y=true\/X.env.scope.names.lookup y=some .local:=by first|exact .inl rfl|exact .inr rfl|assumption)
  (hs:∀x,foldedSetIterable B X.env x=pure x:=by intro _;rfl):PS X (.Assign [.Name y py] (.ListComp M [{tg,B,L,0}] scope pos) a5) (Hm (vN n js wi g tc te) (dF ix)):=by
 intro f s σ H D I h;rw [exec_Assign_Name_used _ _ _ _ b6];refine d0 (N5 (d0 ?_));show wpAny _ X.A (do let _ <- comprehension (.ListComp M [{tg,B,L,0}] scope pos) scope X.env _ (newList []) false (eval B X.env) (some (assign (.Name y py) X.env))) _ _ s;refine d0 (y6 (wpAny_comprehension_free (use:=some (assign (.Name y py) X.env)) (Q:=λ_ s'=>SP X f D .next s') rfl hs T.clo hk a2 (gA (hi s σ H _ I h) λv s1 h1=>gA h1 λbd E h2=>?_)) (λ_ s' hq=>i8 (i8 hq)) λ_ _ e=>e);let (it,G,tn,J,S,rfl,I2,U,a9,f2,h2):=h2;let b7:∀b ∈ G,b<E.heap.objs.size:=λb F=>by
  let (o,q,_):=U.obj 0 _ a9 b F;exact i7 q
 refine B8 ?_;let hz:S E.heap.objs.size=none:=I2.hok.fresh (g9 _);let (W,(m0,w0),aj):=h2 E.heap.objs.size hz;let I3:aV X f σ (upd S E.heap.objs.size (.lst [])) { E with heap:=E.heap.push { cls:=.type "list",dict:=none,data:=.seq ([]:List Value).toArray } }:=
  I2.laid (t':=E.toks) (λb o q=>g8 _ q) (g9 _) {i9 _,[],0,.nil,j3 _ rfl}
 generalize hs3:({ E with heap:=E.heap.push { cls:=.type "list",dict:=none,data:=.seq ([]:List Value).toArray } }:Shared)=t at I3 ⊢
 let a3:∀b o,E.heap.get? b=some o->t.heap.get? b=some o:=λb o q=>by rw [<- hs3];exact g8 _ q
 let f3:∀b ∈ G,lV X f (upd S E.heap.objs.size (.lst [])) b:=λb F=>{by rw [aC (j9 (b7 b F))];exact(f2 b F).1,(f2 b F).2};let a7:∀b ∈ G,b<t.heap.objs.size:=λb F=>by
  let (o,q,_):=U.obj 0 _ a9 b F;exact i7 (a3 b o q)
 refine wpAny_newFunctionEnv ad (by intro y hy;simp at hy) (λh4 b1 b5=>?_) hk;let O:∀b o,t.heap.get? b=some o->h4.get? b=some o:=λb o q=>(b5.2 b (j9 (i7 q))).trans (g8 _ q);let I4:=zX (tk:=t.toks+([]:List (Str × Value)).length) I3 hk T f3 a7 b1 O;let ah:tn 0 h4:=U.keep _ _ _ a9 λb F o q=>O b o (a3 b o q);let af:∀{H':Hp},(∀b ∈ G,H' b=none)->∀b ∈ G,lV 13#0 [] H' b:=λhn b F=>by
  let (g0,g1,g2,g3,g4,g5):=f3 b F;exact {hn b F,j9 (a7 b F),λz=>(i3.mp (I3.stkSub b z)).elim g1 g2,.inl F,λx c q=>g4 x c (T.sub x c q),λp hp=>g5 p (by simpa using hp)}
 let a4:∀s5:Shared,s5={ t with heap:=h4,toks:=t.toks+([]:List (Str × Value)).length }->codeAny 4#0 X.A (.compLoop (.ListComp M [{tg,B,L,0}] scope pos) 0 (.ref it) (.ref E.heap.objs.size) (compEnvC scope cl t.heap.objs.size X.env))
   (compPost 4#0 X.A X.xe (some (assign (.Name y py) X.env)) (λ_ s'=>SP X f D .next s') (.ref E.heap.objs.size) t.heap.objs.size) s5:=by
  rintro s5 rfl;refine codeAny_loop rfl (λk s'=>∃i ys H',aV 13#0 [] (dG n js σ) H' s'/\tn i s'.heap/\(∀b ∈ G,H' b=none)/\W i k ys H')
   (λk s6 hI=>?_) m0 {0,[],_,I4,ah,λb F=>(f3 b F).1,w0}
  let (i,ys,H6,I6,ag,al,w6):=hI;show wpAny _ _ ((compTurn (.ListComp M [{tg,B,L,0}] scope pos) 0 (.ref it) (.ref E.heap.objs.size) (compEnvC scope cl t.heap.objs.size X.env)).onRaise (λx=>do noteFrame x (compEnvC scope cl t.heap.objs.size X.env);theTreesLotGoes x)) _ _ s6;refine wpAny_noted ?_;rw [compTurn_list];refine d0 (N5 (d0 ?_));let (bb,aq):=aj i k ys H6 w6;rcases aq with ⟨an,q⟩|⟨go,ai⟩
  ·refine gA (U.done 13#0 rfl rfl rfl rfl i [] s6 _ H6 _ I6 (af al) ag an) λr s7 P=>?_;let (hr,I7):=P;subst hr;let (m,hm,_):=I7.loc;let av:aV X f σ H6 s7:=vC (h2:=s7.heap) I3 f3 a7 I7 {ρ,λ_ _=>rfl};let ac:H6 t.heap.objs.size=none:=I7.free;let K:=I3.fpOk (H':=H6) (g9 _) ac;refine i8 ?_;show wpAny _ _ (assign (.Name y py) X.env (.ref E.heap.objs.size)) _ _ _;refine wpAny_assign_Name (uA av hN b2 as (v:=.ref E.heap.objs.size) rfl (λs8 I8 a8=>?_) hf);let (a,aw,ha):=a8;let ar:t.heap.objs.size≠a:=by
    rcases ha with rfl|ha
    ·exact K.2.1
    ·exact λz=>K.2.2.2.2.1 _ _ ha z.symm
   refine {m,hm.sameBut aw ar,λh9 a1=>{_,H6,?_,q}};refine I8.call' (s':={ s8 with heap:=h9 }) (ch:=[t.heap.objs.size]) rfl {λb o q n F he=>(a1.2 b (λz=>he (by simp [z]))).trans q,λb o q n F he=>{o.slots,(a1.2 b (λz=>he (by simp [z]))).trans q},λ_ _ _ n _=>n,λb o q he=>{o,(a1.2 b (λz=>he (by simp [z]))).trans q},λ_ _ q=>q,λ_ _ _ q=>q,λ_ ps q=>{#[],by rw [q];simp}} (λb o q=>?_) I8.bare λb F=>?_
   ·refine(I8.hok b o q).stay (λc w' hc r=>(a1.2 c ?_).trans r) (λ_ r=>r) λ_ _ r=>r;rintro rfl;rcases hc with rfl|hc
    ·rw [ac] at q;cases q
    ·rw [ac] at hc;cases hc
   ·let e:b=t.heap.objs.size:=by simpa using F
    subst e;exact {(K.2.2.2.1),K.2.1,K.2.2.2.2.1,K.2.2.2.2.2}
  ·refine gA (U.item 13#0 rfl rfl rfl rfl i [] s6 _ H6 _ I6 (af al) ag go) λr s7 P=>?_;let (u,hr,h7):=P;subst hr;refine d0 (gA h7 λ_ s8 P=>?_);let (x,H8,I8,r8,y8,ae,b3):=P;let au:=I8.pinned (af b3) (U.obj _ _ ae);let gp:∀{Y:St} {H9:Hp} {s9:Shared},aV 13#0 ([]++gH G s8.heap) Y H9 s9->tn (i+1) s9.heap/\∀b ∈ G,H9 b=none:=λI9=>
    ⟨U.keep _ _ _ ae λb F o e=>(I9.pin (b,o) (j0 _ (j0 _ (dU F e)))).1,λb F=>by
     let (o,e,d):=U.obj _ _ ae b F
     exact(I9.pin (b,o) (j0 _ (j0 _ (dU F e)))).2.1⟩
   let wk:∀{Y:St} {H9:Hp} {s9:Shared},Y.drop n=(dG n js σ).drop n->aV 13#0 ([]++gH G s8.heap) Y H9 s9->aV 13#0 [] (dG n js σ) H9 s9:=λ{Y H9 s9} hd I9=>
    I9.unpinned.weak (by rw [oQ T,I9.len]) λk v z=>by
     let (k',j,rfl,_,_):=sS z;let e:=congrArg (λl=>l[k']?) hd;simp only [v7] at e;rw [e];exact z
   refine d0 (y6 (hg _ _ _ _ _ s8 _ H8 x u _ au r8 (ai x H8 y8)) (λ_ s9 hq=>?_) λ_ _ z=>z.elim);let (Y,H9,I9,ao,q9):=hq;refine d0 (y6 (ht _ _ _ _ _ s9 Y H9 _ I9 q9) (λok ba hq=>?_) λ_ _ z=>z.elim);let (am,a0,Z):=hq;cases ok with
   | false=>
    rw [if_neg 9#0] at Z;let (m',aa,b9):=Z;exact i8 {ρ,m',aa,i+1,ys,am,wk ao a0,(gp a0).1,(gp a0).2,b9}
   | true=>
    rw [if_pos rfl] at Z;refine d0 (d0 (y6 (he _ _ _ _ _ ba Y am _ a0 Z) (λy az hq=>?_) λ_ _ z=>z.elim));let (yv,b0,b4,ry,ap,ak,m',aa,b8):=hq;let mt:=fI (X:=X.blkF NB scope cl t.heap.objs.size t (upd S E.heap.objs.size (.lst [])) G (X.pn++f)) ([]++gH G s8.heap) az Y b0 (.ref E.heap.objs.size) [yv] (.ref E.heap.objs.size) [y] (λ_ H'=>W (i+1) m' (ys++[yv]) H') b4 rfl (.cons ry .nil) {_,ys,yv,ρ,ρ,ap,ak,b8};refine d0 (y6 mt (λ_ be hq=>?_) λ_ _ z=>z.elim);let (bc,ax,a6,_,ay):=hq;exact i8 (i8 {ρ,m',aa,i+1,_,ax,wk ao a6,(gp a6).1,(gp a6).2,ay})
 exact codeAny_compStart_list (a4 _ rfl) (U.self _ 0 _ _ _ ah (a4 _ rfl))
end
end L2
namespace L2
open PySem PySem.Spec PyProof.Rows PySem.W
theorem hG {α β:Type} {F:α->β->Prop}:∀{xs:List α} {c:List β},xs.length=c.length->(∀(j:Nat) x y,xs[j]?=some x->c[j]?=some y->F x y)->Paired F xs c
 | [],[],_,_=>.nil
 | [],_::_,h,_=>by simp at h
 | _::_,[],h,_=>by simp at h
 | a::xs,b::c,h,f=>.cons (f 0 a b rfl rfl) (hG (by simpa using h) λj x y d e=>f (j+1) x y (by simpa using d) (by simpa using e))
section
variable {X:Cx}
def KY:List V->Hp->VK->Prop:=λxs H Q=>∃i j:Int,xs=[.int i,.int j]/\∀r,H r=none->Q (.ref r) (upd H r (.rng i j))
def nP:gP X (.type "range") KY:=by
 intro a s σ H d c Q I r h;let (i,j,rfl,q):=h;let (u,v,rfl,(t,rfl),(t',rfl)):=Kq r;refine call_range_2 ?_;refine {.ref s.heap.objs.size,_,I.laid (o:=.rng i j) (t':=s.toks+1) (λb o e=>g8 _ e) (g9 _) {t,t',s.toks,j3 _ rfl},ρ,q _ (I.hok.fresh (g9 _))}
def Bp (lo:Int) (n:Nat):List V:=(List.range n).map λ(k:Nat)=>V.int (lo+(k:Int))
def xY (lo:Int) (n:Nat):(Bp lo n).length=n:=by
 unfold Bp;rw [g7,A4]
def CY:List V->Hp->VK->Prop:=λxs H Q=>∃(p:Addr) (lo hi:Int),xs=[.ref p]/\H p=some (.rng lo hi)/\(-(2 ^ 62)<=lo/\lo<2 ^ 62/\-(2 ^ 62)<=hi/\hi<2 ^ 62)/\hi-lo<=1000/\∀l,H l=none->Q (.ref l) (upd H l (.lst (Bp lo (hi-lo).toNat)))
def jD (G:X.calm=true):gP X (.type "list") CY:=by
 intro k s σ H S O Q I r h;let (p,a,c,rfl,m,(K,l,A,F),P,q):=h;let (u,rfl,v):=jQ r;cases v;let (t,t',L,e):=(show bL X.prog X.w H s.heap p (.rng a c) from I.hok p _ m);let D:Builtin.Range.rangeSize a c 1=(((c-a).toNat:Nat):Int):=by rw [rangeSize_one];split <;> omega
 refine call_list_range (I.ok.hd G) e (small_one K l A F) D ∎ λM f b n E z g=>?_;let (J,B):=g;refine {.ref s.heap.objs.size,_,I.laid (o:=.lst (Bp a (c-a).toNat)) (t':=f) E (g9 _) ?_,ρ,q _ (I.hok.fresh (g9 _))};let N:sizeLine=16777216:=sizeLine_eq;refine {by rw [xY];omega,b.toList,n,?_,by simpa using z};refine hG (by rw [xY];simp [J]) λj x y d i=>?_;unfold Bp at d;rw [j1] at d;let C:j<(c-a).toNat:=by
  have:=(e8.mp i).1;simp only [u9] at this;omega
 rw [List.getElem?_range C] at d;cases d;let (f,rfl):=B j y (by simpa using i);exact {f,by rw [Int.mul_one]}
theorem xZ:∀{cs:List Addr} {us:List Value},bA (cs.map V.ref) us->us=cs.map Value.ref
 | [],_,.nil=>rfl
 | c::cs,_,.cons r t=>by
  cases r
  rw [xZ t]
  rfl
end
end L2
namespace L2
open PySem PySem.Spec PyProof.Rows PySem.W Builtin
section
variable {K:Frag} {x C:Addr} {prog:Program} {w:World} {A:Around} {E:Value->Shared->Prop} {s:Shared}
end
section
variable {X:Cx}
end
end L2
namespace L2
open PySem PySem.Spec PyProof.Rows PySem.W
section
variable {H:Hp} {a:Addr} {pins:List 10#0} {σ:St} {s:Shared}
section
variable {X:Cx}
def aV.as_at {u h:HO} (I:5#0) (e:H a=some u) (l:∀d,u≠.tup d) (D:∀i,u≠.tbl i) (t:∀x,u≠.own x) (F:∀o v,X.H₀ a≠some (.frz o v)) (g:bL X.prog X.w (upd H a h) s.heap a h):aV X pins σ (upd H a h) s:=by
 let f:∀b,H b=none->b≠a:=λb n z=>by
  rw [z,e] at n;cases n
 refine {I.ok,I.os,I.bare,{I.base.keep,I.base.slot,λb o q n E=>?_,I.base.there,λb d q=>?_,λb o v q=>?_,λb i q=>?_},I.loc,I.cell,?_,λx c q=>?_,λp B=>?_,λb o q=>?_,I.len}
 ·let z:=I.base.free b o q n E;rw [aC (f b z)];exact z
 ·let z:=I.base.tups b d q;rw [aC (λy=>by rw [y,e] at z;exact l d (Option.some.inj z))];exact z
 ·rw [aC (λy=>F o v (by rw [<- y];exact q))];exact I.base.frzs b o v q
 ·let (m,z):=I.base.tbls b i q;exact {m,by rw [aC (λy=>by rw [y,e] at z;exact D _ (Option.some.inj z))];exact z}
 ·rw [aC (f _ I.free)];exact I.free
 ·rw [aC (f _ (I.freeC x c q))];exact I.freeC x c q
 ·let (A,k,C):=I.pin p B;exact {A,by rw [aC (f _ k)];exact k,C}
 ·by_cases j:b=a
  ·subst j;rw [aB] at q;cases q;exact g
  ·rw [aC j] at q;refine(I.hok b o q).stay (λc G _ r=>r) (λc z=>?_) λc d z=>?_
   ·rw [aC (λy=>by rw [y,e] at z;exact t _ (Option.some.inj z))];exact z
   ·rw [aC (λy=>by rw [y,e] at z;exact l _ (Option.some.inj z))];exact z
def bL.dK_at {P:Program} {w:World} {H':Hp} {h:Heap} {kvs:List (bJ × V)} (q:bL P w H h a 45#0):bL P w H' h a 45#0:=q
def aV.thaw {o:Obj} {kvs:List (bJ × V)} (I:5#0) (e:H a=some (.frz o 45#0)) (b:∀o v,X.H₀ a≠some (.frz o v)):aV X pins σ (upd H a 45#0) s:=by
 let (_,q):=(show bL X.prog X.w H s.heap a (.frz o 45#0) from I.hok a _ e);exact I.as_at e (λ_ z=>nomatch z) (λ_ z=>nomatch z) (λ_ z=>nomatch z) b q.dK_at
def aV.freeze {kvs:List (bJ × V)} (I:5#0) (e:H a=some 45#0):∃o,s.heap.get? a=some o/\aV X pins σ (upd H a (.frz o 45#0)) s:=by
 let q:=(show bL X.prog X.w H s.heap a 45#0 from I.hok a _ e);let (o,b):=q.is;refine {o,b,I.as_at e (λ_ z=>nomatch z) (λ_ z=>nomatch z) (λ_ z=>nomatch z) (λc v z=>?_) {(b),q.dK_at}};have:=I.base.frzs a c v z;rw [e] at this;cases this
def Zl (H0:Hp) (t:TS):TS:=λD σ H=>t { D with nx:=λσ1 H1=>∃a o kvs,H1 a=some (.frz o 45#0)/\(∀o v,H0 a≠some (.frz o v))/\D.nx σ1 (upd H1 a 45#0) } σ H
def Fg {st:Stmt} {t:TS} (h:PS X st t):PS X st (Zl X.H₀ t):=λb s σ H D I q=>gA (h s σ H _ I q) λf l z=>by
 cases f with
 | next=>
  let (i,k,c,a,o,j,d,e,g):=z
  exact {i,_,c.thaw d e,g}
 | _=>exact z
def Gp {X:Cx} {o:Obj} {kvs:List (bJ × V)} {f:Array DictEntry} {ep:Nat} (I:5#0) (e:H a=some (.frz o 45#0)) (h:o.data=.dict f ep):
  ∃b,KV kvs b/\s.heap.DictAt (cD X.prog X.w) a b ep:=by
 let (g,_,_,b,r,n,k,j,q,c,d,m,i,l):=(show bL X.prog X.w H s.heap a (.frz o 45#0) from I.hok a _ e);rw [g] at q;cases q;rw [h] at d;cases d;exact {(b),r,o,f,g,c,h,m,i,l}
section
variable {tg:Expr}
end
section
variable {prog:Program} {w:World} {A:Around} {E:Value->Shared->Prop} {s:Shared}
end
section
variable {prog:Program} {w:World} {A:Around} {E:Value->Shared->Prop} {s:Shared}
end
section
variable {prog:Program} {w:World} {A:Around} {E:Value->Shared->Prop}
end
def NG (x:Str):It:=⟨λi _=>i<x.length,λi H v H'=>H'=H/\∃c,x.cps[i]?=some c/\v=.str ⟨#[c]⟩,λi _=>x.length<=i⟩
def Ku {P:Program} {j:Option Value} {w:World} {K:Frag} {Q:Expr} (x:Str) (t:Tok) (it:Addr) (T:j=none):Aa P w K j Q (NG x) [it] it (λi h=>h.IsStrIter it "str_ascii_iterator" x t i) where
 mem:=by simp
 obj:=λi h a b g=>by
  let e:b=it:=by simpa using g
  subst e
  let (o,e,c,d):=a
  exact {o,e,λv z=>by rw [d] at z;cases z}
 keep:=λi h m a k=>by
  let (o,e,c,d):=a
  exact {o,k it 9#0 o e,c,d}
 item:=by
  intro X y u A F i f s σ H E I n a C;subst y u A;let p:i<x.cps.size:=C;let (q,B,G,D,f4,r):=n it 9#0;refine wpAny_pyNext_ascii_item a (y0 p) λm l J=>?_;let O:aV X f σ H { s with heap:=m,toks:=s.toks+1 }:=I.turned (λb o g e=>(J.2 b g).trans e) q B D f4 r;let (U,L,M,S):=id l;exact {_,ρ,uW (s:={ s with heap:=m,toks:=s.toks+1 }) L M S 8#0 {.str _,H,O,{_,ρ},{ρ,_,y0 p,ρ},l,λb g=>(n b g).1}}
 done:=by
  intro X y u A F i f s σ H E I n a C;subst y u A;let p:x.cps.size<=i:=C;let (q,B,G,D,f4,r):=n it 9#0;exact wpAny_pyNext_ascii_end (F.trans T) a (Array.getElem?_eq_none p) λm N=>{ρ,I.turned (t':=s.toks) (λb o g e=>N b o g e) q B D f4 r}
 self:=λ_ _ _ _ _ a h=>wpAny_pyIter_striter_ascii a h
def LO (tl:TE):TI:=λσ H R=>tl σ H λv H1=>∃x,v=.str x/\x.cps.all (·<128)=true/\R (NG x) H1
def DC {k l:Expr} {f:TE} (r:PE X l f) (d:X.calm=true:=by rfl):PI X k l (LO f):=by
 intro g s σ H R I h;refine eP (r s σ H _ I h) λv a y m c n i=>?_;let (x,rfl,p,q):=i;let (t,rfl):=n;refine wpAny_pyIter_ascii p ?_;refine {a.heap.objs.size,[a.heap.objs.size],_,_,m,ρ,c.kept (t':=a.toks) λb o e=>g8 _ e,Ku x t _ (I.ok.hd d),{_,j3 _ rfl,ρ,ρ},λb j=>?_,q};let e:b=a.heap.objs.size:=by simpa using j
 subst e;exact c.fpOk (g9 _) (c.hok.fresh (g9 _))
section
variable {e:Expr} {apos cpos p:Pos} {ty:TE}
end
end
end
end L2
namespace Sr
open PySem PyProof.Rows
section
variable {i j n d lo k base:Nat} {st:SortSt} {xs:Array Keyed} {Q:Option Nat->SortSt->Prop} {rk:Keyed->Int} {o l:List Keyed} {p:Nat->Bool} {x:Keyed}
noncomputable def fM:Bool->Keyed->Array Keyed->Nat->Nat->Nat->StateT SortSt Sem (Option Nat):=sortPriv% PySem.Builtin.gallop
noncomputable def zY (left:Bool) (key:Keyed) (arr:Array Keyed) (base:Nat) (i:Nat):StateT SortSt Sem (Option Bool):=do
 let x <- elem' arr (base+i)
 if left then lt' x key else return (<- lt' key x).map (!·)
abbrev GS:=Option (Option Nat) × Nat × Nat
noncomputable def EV (ask:Nat->StateT SortSt Sem (Option Bool)) (n lo hi:Nat):StateT SortSt Sem (Option Nat):=do
 let c <- forIn [0:n] ((none,lo,hi):GS) λ_ c=>if c.2.1 ≥ c.2.2 then pure (.done (none,c.2.1,c.2.2)) else ask (c.2.1+(c.2.2-c.2.1) / 2) >>= λr=>match r with
  | some w=>if w=true then pure (.yield (none,c.2.1+(c.2.2-c.2.1) / 2+1,c.2.2)) else pure (.yield (none,c.2.1,c.2.1+(c.2.2-c.2.1) / 2))
  | _=>pure (.done (some none,c.2.1,c.2.2))
 match c.1 with
 | some r=>pure r
 | none=>pure (some c.2.2)
noncomputable def Qj (ask:Nat->StateT SortSt Sem (Option Bool)) (f:Bool->Bool) (n mx:Nat) (k:Nat->Nat->StateT SortSt Sem (Option Nat)):StateT SortSt Sem (Option Nat):=do
 let c <- forIn [0:n] ((none,0,1):GS) λ_ c=>if c.2.2 ≥ mx then pure (.done (none,c.2.1,c.2.2)) else ask c.2.2 >>= λr=>match r with
  | some w=>if f w=true then pure (.done (none,c.2.1,c.2.2)) else pure (.yield (none,c.2.2,2 * c.2.2+1))
  | _=>pure (.done (some none,c.2.1,c.2.2))
 match c.1 with
 | some r=>pure r
 | none=>k c.2.1 c.2.2
def Cq (left:Bool) (d:Keyed) (e:Array Keyed) (base n a:Nat):fM left d e base n a=(zY left d e base a >>= λr=>match r with
  | some w=>if w=true then Qj (λv=>zY left d e base (a+v)) (λb=>!b) n (n-a) λu v=>EV (zY left d e base) n (a+u+1) (a+min v (n-a))
   else Qj (λv=>zY left d e base (a-v)) (λb=>b) n (a+1) λu v=>EV (zY left d e base) n (a+1-min v (a+1)) (a-u)
  | _=>pure none):=by
 refine congrArg (bind _) (funext λr=>?_);cases r with
 | none=>rfl
 | some w=>
  dsimp only
  refine congr (congrArg (@ite _ _ _) (congrArg (bind _) (funext λc=>?_))) (congrArg (bind _) (funext λc=>?_))
  all_goals
   let (r,c):=c;cases r with
   | some r=>rfl
   | none=>
    refine congrArg (bind _) (funext λc=>?_);let (r,c):=c;cases r <;> rfl
section
variable {M:Model} {A:Around} {E:Value->Shared->Prop} {s:Shared} {st:SortSt}
def xD {l:Nat->StateT SortSt Sem (Option Bool)} {hi:Nat} (G:∀i,i<n->∀R:Option Bool->SortSt->Prop,R (some (p i)) st->wpS M A E s (l i) R st)
  (w:∀i j,i<=j->j<n->p j=true->p i=true) (H:lo<=hi) (h2:hi<=n) (F:∀i,i<lo->p i=true) (C:∀i,hi<=i->i<n->p i=false)
  (h:∀k,k<=n->(∀i,i<k->p i=true)->(∀i,k<=i->i<n->p i=false)->Q (some k) st):wpS M A E s (EV l n lo hi) Q st:=by
 let o:∀lo hi:Nat,lo<=hi->hi<=lo->hi<=n->(∀i,i<lo->p i=true)->(∀i,hi<=i->i<n->p i=false)->Q (some hi) st:=λlo hi q g t d f=>h hi t (λi z=>d i ∎) f;refine i6 (N1 (Q:=λc a=>a=st/\c.1=none/\Q (some c.2.2) st) (F2 (I:=λx c a=>a=st/\c.1=none/\c.2.1<=c.2.2/\c.2.2<=n/\c.2.2+x<=n+c.2.1/\(∀i,i<c.2.1->p i=true)/\∀i,c.2.2<=i->i<n->p i=false) (λx c a _ J z=>?_) (λc a z=>?_) {ρ,ρ,H,h2,u8 h2 (Q7 _ _),F,C}) λc a z=>?_)
 ·let (rfl,v,q,g,t,d,f):=z;let (r,lo,hi):=c;dsimp only at *;by_cases b:lo ≥ hi
  ·rw [if_pos b];exact k7 {ρ,ρ,o _ _ q b g d f}
  ·rw [if_neg b];let y:lo<=lo+(hi-lo) / 2:=Q7 _ _;let K:lo+(hi-lo) / 2<hi:=∎;generalize lo+(hi-lo) / 2=m at *;refine i6 (G _ ∎ _ ?_);cases e:p m with
   | true=>exact k7 {ρ,ρ,(by dsimp only;omega),g,(by dsimp only;omega),λi u=>w i _ (Nat.le_of_lt_succ u) ∎ e,f}
   | false=>
    refine k7 {ρ,ρ,y,(by dsimp only;omega),(by dsimp only;omega),d,λi B D=>?_};cases z:p i with
    | false=>rfl
    | true=>rw [w _ i B D z] at e;cases e
 ·let (rfl,v,q,g,t,d,f):=z;exact {ρ,v,o _ _ q ∎ g d f}
 ·let (r,c):=c;let (rfl,rfl,z):=z;exact k7 z
def tU {g:Nat->StateT SortSt Sem (Option Bool)} {f:Bool->Bool} {k:Nat->Nat->StateT SortSt Sem (Option Nat)} (o:∀v,v<d->∀R:Option Bool->SortSt->Prop,R (some (p v)) st->wpS M A E s (g v) R st) (w:f (p 0)=false) (t:0<d) (h2:d<=n)
  (h:∀u v,u<v->u<d->f (p u)=false->(v<d->f (p v)=true)->wpS M A E s (k u v) Q st):wpS M A E s (Qj g f n d k) Q st:=by
 refine i6 (N1 (Q:=λc a=>a=st/\c.1=none/\wpS M A E s (k c.2.1 c.2.2) Q st) (F2 (I:=λx c a=>a=st/\c.1=none/\c.2.1<c.2.2/\x+1<=c.2.2/\c.2.1<d/\f (p c.2.1)=false) (λx c a _ y z=>?_) (λc a z=>?_) {ρ,ρ,Nat.zero_lt_one,g9 _,t,w}) λc a z=>?_)
 ·let (rfl,m,i,q,j,l):=z;by_cases b:c.2.2 ≥ d
  ·rw [if_pos b];exact k7 {ρ,ρ,h _ _ i j l λz=>absurd z (Nat.not_lt.mpr b)}
  ·rw [if_neg b];refine i6 (o _ ∎ _ ?_);dsimp only
   cases e:f (p c.2.2) with
   | true=>
    rw [if_pos rfl];exact k7 {ρ,ρ,h _ _ i j l λ_=>e}
   | false=>
    rw [if_neg 9#0];exact k7 {ρ,ρ,(by omega:c.2.2<2 * _+1),(by omega:_<=2 * c.2.2+1),Nat.lt_of_not_le b,e}
 ·let (rfl,m,i,q,j,l):=z;exact {ρ,m,h _ _ i j l λz=>∎}
 ·let (r,c):=c;let (rfl,rfl,z):=z;exact z
def qI {left:Bool} {f:Keyed} {g:Array Keyed} {a:Nat}
  (b:∀i,i<n->∀R:Option Bool->SortSt->Prop,R (some (p i)) st->wpS M A E s (zY left f g base i) R st)
  (d:∀i j,i<=j->j<n->p j=true->p i=true) (o:a<n)
  (h:∀k,k<=n->(∀i,i<k->p i=true)->(∀i,k<=i->i<n->p i=false)->Q (some k) st):
  wpS M A E s (fM left f g base n a) Q st:=by
 let r:∀i j,i<=j->j<n->p i=false->p j=false:=λi j x y e=>by
  cases z:p j with
  | false=>rfl
  | true=>rw [d i j x y z] at e;cases e
 rw [Cq];refine i6 (b a o _ ?_);dsimp only
 cases e0:p a with
 | true=>
  rw [if_pos rfl];refine tU (p:=λv=>p (a+v)) (λv B=>b _ ∎) (by show (!p a)=false;rw [e0];rfl) ∎ (Nat.sub_le _ _) λu v t w c m=>?_;let c:p (a+u)=true:=by simpa using c
  refine xD b d ∎ ∎ (λi z=>d i (a+u) ∎ ∎ c) (λi q l=>?_) h;exact r (a+v) i ∎ l (by simpa using m ∎)
 | false=>
  rw [if_neg 9#0];refine tU (p:=λv=>p (a-v)) (λv B=>b _ ∎) e0 (Nat.succ_pos _) o λu v t w c m=>?_;refine xD b d ∎ ∎ (λi z=>?_) (λi q l=>r (a-u) i q l c) h;exact d i (a-v) ∎ ∎ (m ∎)
end
structure NI (prog:Program) (w:World) (A:Around) (E:Value->Shared->Prop) (s:Shared) (κ:SortKind) (a₀:Array Keyed) (rk:Keyed->Int):Prop where
 lt:∀{x y:Keyed} {st:SortSt} {Q:Option Bool->SortSt->Prop},x ∈ a₀.toList->y ∈ a₀.toList->kindOf st=κ->Q (some (decide (rk x<rk y))) st->wpS 7#0 A E s (lt' x y) Q st
structure SB (κ:SortKind) (a₀:Array Keyed) (st:SortSt):Prop where
 perm:(arrOf st).Perm a₀
 kind:kindOf st=κ
 failed:failedOf st=none
theorem SB.size {κ:SortKind} {a₀:Array Keyed} {st:SortSt} (h:SB κ a₀ st):(arrOf st).size=a₀.size:=h.perm.size_eq
def SB.put {κ:SortKind} {a₀:Array Keyed} (h:SB κ a₀ st) {xs:Array Keyed} (a:xs.Perm 43#0):SB κ a₀ (setArr st xs):={a.trans h.perm,h.kind,h.failed}
def SB.at {κ:SortKind} {a₀:Array Keyed} (h:SB κ a₀ st) {i:Nat} (hi:i<a₀.size):∃p,(arrOf st)[i]?=some p/\p ∈ a₀.toList:=by
 let a:i<(arrOf st).size:=by rw [h.size];exact hi
 exact {_,getElem?_pos _ i a,(N8.mp h.perm).mem_iff.mp 9#0}
def R (rk:Keyed->Int) (xs:Array Keyed) (i:Nat):Int:=match xs[i]? with
 | some p=>rk p
 | none=>0
def nV (rk:Keyed->Int) (xs:Array Keyed) (lo hi:Nat):Prop:=∀i j,lo<=i->i<=j->j<hi->R rk xs i<=R rk xs j
def Jx (rk:Keyed->Int) (xs:Array Keyed) (lo hi:Nat):Prop:=∀i j,lo<=i->i<=j->j<hi->R rk xs j<=R rk xs i
def sZ (lo:Nat) (xs ys:Array Keyed):Prop:=∀k,k<lo->xs[k]?=ys[k]?
def sZ.refl:sZ lo xs xs:=λ_ _=>rfl
theorem sZ.trans {lo:Nat} {xs a zs:Array Keyed} (h:sZ lo xs a) (k:sZ lo a zs):sZ lo xs zs:=λi b=>(h i b).trans (k i b)
def jG {a:Array Keyed} (h:xs[i]?=a[j]?):R rk xs i=R rk a j:=by unfold R;rw [h]
def jN {p:Keyed} (h:xs[i]?=some p):R rk xs i=rk p:=by unfold R;rw [h]
def Ai {a:Nat} (g:a<xs.size) (f:d<=a) (k:Nat):
  R rk (bubble xs a d) k=if k=a-d then R rk xs a else if a-d<k/\k<=a then R rk xs (k-1) else R rk xs k:=by
 let e:=getElem?_bubble g d f k;by_cases b:k=a-d
 ·rw [if_pos b] at e ⊢;exact jG e
 ·rw [if_neg b] at e ⊢;by_cases c:a-d<k/\k<=a
  ·rw [if_pos c] at e ⊢;exact jG e
  ·rw [if_neg c] at e ⊢;exact jG e
def sX (b:j<=xs.size) (k:Nat):
  R rk (mirror xs i j ((j-i) / 2)) k=if i<=k/\k<j then R rk xs (i+j-1-k) else R rk xs k:=by
 let e:=getElem?_mirror_all (i:=i) b k;by_cases a:i<=k/\k<j
 ·rw [if_pos a] at e ⊢;exact jG e
 ·rw [if_neg a] at e ⊢;exact jG e
def dX (b:j<=xs.size) (a:∀k,i<=k->k<j->R rk xs k=R rk xs (j-1)) (k:Nat):
  R rk (mirror xs i j ((j-i) / 2)) k=R rk xs k:=by
 rw [sX b];split
 ·rw [a _ ∎ ∎,a k ∎ ∎]
 ·rfl
def gU (a:j<=xs.size) (hi:lo<=i):sZ lo (mirror xs i j ((j-i) / 2)) xs:=λk b=>by
 rw [getElem?_mirror_all a,if_neg ∎]
def yZ {a:Nat} (b:a<xs.size) (e:lo+d<=a):sZ lo (bubble xs a d) xs:=λk c=>by
 rw [getElem?_bubble b d ∎,if_neg ∎,if_neg ∎]
section
variable {prog:Program} {w:World} {A:Around} {E:Value->Shared->Prop} {s:Shared} {κ:SortKind} {a₀:Array Keyed} {rk:Keyed->Int}
def bO {p:Keyed} {Q:Keyed->SortSt->Prop} (e:xs[i]?=some p) (h:Q p st):wpS 7#0 A E s (elem' xs i) Q st:=by
 rw [elem'_eq,e];exact k7 h
def mD {Q:Option Bool->SortSt->Prop} (C:12#0) (a:SB κ a₀ st) (hi:i<a₀.size) (d:j<a₀.size)
  (h:Q (some (decide (R rk 43#0 i<R rk 43#0 j))) st):wpS 7#0 A E s (ltAt' i j) Q st:=by
 let (p,b,e):=a.at hi;let (q,c,f):=a.at d;rw [ltAt'_eq];refine i6 (M6 ?_);refine i6 (bO b (i6 (bO c ?_)));refine C.lt e f a.kind ?_;rw [jN b,jN c] at h;exact h
abbrev AS:=Option (Option Nat) × Nat
abbrev DS:=Option (Option Nat) × Nat × Nat
def Sf (lo a m:Nat):StateT SortSt Sem AS:=
 forIn [a:m] ((none,a):AS) λ_ c=>do
  let x <- ltAt' (lo+c.2) (lo+c.2-1)
  match x with
  | some b=>if b=true then pure (ForInStep.done (none,c.2)) else pure (ForInStep.yield (none,c.2+1))
  | _=>pure (ForInStep.done (some none,c.2))
def Rl (lo n m:Nat):StateT SortSt Sem (Option Nat):=do
 reverseSlice' lo (lo+n)
 let c <- Sf lo n m
 match c.1 with
 | some r=>pure r
 | none=>pure (some c.2)
def Gq (lo n m:Nat):StateT SortSt Sem DS:=
 forIn [n:m] ((none,n,0):DS) λ_ c=>do
  let x <- ltAt' (lo+c.2.1) (lo+c.2.1-1)
  match x with
  | some b=>
   if b=true then
    if c.2.2 > 0 then do
     reverseSlice' (lo+c.2.1-(c.2.2+1)) (lo+c.2.1)
     pure (ForInStep.yield (none,c.2.1+1,0))
    else pure (ForInStep.yield (none,c.2.1+1,0))
   else do
    let x <- ltAt' (lo+c.2.1-1) (lo+c.2.1)
    match x with
    | some d=>if d=true then pure (ForInStep.done (none,c.2.1,c.2.2)) else pure (ForInStep.yield (none,c.2.1+1,c.2.2+1))
    | _=>pure (ForInStep.done (some none,c.2.1,c.2.2))
  | _=>pure (ForInStep.done (some none,c.2.1,c.2.2))
def zK (lo n m:Nat):StateT SortSt Sem (Option Nat):=do
 liftM (rule "list.sort.descending-run")
 let c <- Gq lo (n+1) m
 match c.1 with
 | some r=>pure r
 | none=>
  if c.2.2 > 0 then do
   reverseSlice' (lo+c.2.1-(c.2.2+1)) (lo+c.2.1)
   Rl lo c.2.1 m
  else Rl lo c.2.1 m
def Jm (lo m:Nat):countRun' lo m=(do
  let c <- Sf lo 1 m
  match c.1 with
  | some r=>pure r
  | none=>
   if (c.2 == m)=true then pure (some c.2)
   else if c.2 > 1 then do
    let x <- ltAt' lo (lo+c.2-1)
    match x with
    | some b=>if b=true then pure (some c.2) else do
      reverseSlice' lo (lo+c.2)
      zK lo c.2 m
    | _=>pure none
   else zK lo c.2 m):=by
 rw [countRun'_eq];unfold zK Rl Gq Sf;dsimp only
 congr 1;funext c;let (r,n):=c;cases r with
 | some r=>rfl
 | none=>
  dsimp only
  split
  ·rfl
  ·split
   ·congr 1;funext x;cases x with
    | none=>rfl
    | some b=>
     dsimp only
     split
     ·rfl
     ·congr 1;funext _r;congr 1;funext _u;congr 1;congr 1;funext s2;let (d,g,f):=s2;cases d with
      | some d=>rfl
      | none=>
       dsimp only
       split
       ·congr 1;funext _v;congr 1;funext _w;congr 1;funext s3;let (a,e):=s3;cases a <;> rfl
       ·congr 1;funext _w;congr 1;funext s3;let (a,e):=s3;cases a <;> rfl
   ·congr 1;funext _u;congr 1;congr 1;funext s2;let (d,g,f):=s2;cases d with
    | some d=>rfl
    | none=>
     dsimp only
     split
     ·congr 1;funext _v;congr 1;funext _w;congr 1;funext s3;let (a,e):=s3;cases a <;> rfl
     ·congr 1;funext _w;congr 1;funext s3;let (a,e):=s3;cases a <;> rfl
structure kI (κ:SortKind) (a₀:Array Keyed) (lo:Nat) (st₀ st:SortSt):Prop extends SB κ a₀ st where
 like:sZ lo 43#0 (arrOf st₀)
 pend:pendingOf st=pendingOf st₀
theorem kI.put {lo:Nat} {st₀ st:SortSt} (h:kI κ a₀ lo st₀ st) {xs:Array Keyed} (b:xs.Perm 43#0) (a:sZ lo xs 43#0):kI κ a₀ lo st₀ (setArr st xs):=
 {h.toSB.put b,a.trans h.like,h.pend}
variable {st₀:SortSt} {lo:Nat}
def xF {a m:Nat} {Q:AS->SortSt->Prop} (C:12#0) (hn:lo+m<=a₀.size) (ha:1<=a) (han:a<=m) (hB:SB κ a₀ st)
  (hs:nV rk 43#0 lo (lo+a))
  (h:∀n,a<=n->n<=m->nV rk 43#0 lo (lo+n)->(n=m\/R rk 43#0 (lo+n)<R rk 43#0 (lo+n-1))->Q (none,n) st):
  wpS 7#0 A E s (Sf lo a m) Q st:=by
 unfold Sf;refine F2 (I:=λx c st'=>st'=st/\c=(none,x)/\nV rk 43#0 lo (lo+x)) ?step ?fin {(rfl),ρ,hs}
 case fin=>
  rintro c st' ⟨rfl,rfl,hs'⟩;rw [show max a m=m by omega] at hs' ⊢;exact h m han (g9 _) hs' (.inl rfl)
 case step=>
  rintro x c st' hax hxn ⟨rfl,rfl,hs'⟩;dsimp only
  refine i6 (mD C hB ∎ ∎ ?_);by_cases hless:R rk 36#0 (lo+x)<R rk 36#0 (lo+x-1)
  ·simp only [hless,decide_true,if_true];exact k7 (h x hax ∎ hs' (.inr hless))
  ·simp only [hless,decide_false,z7,if_false];refine k7 {ρ,ρ,λi j hl hij hj=>?_};by_cases hjx:j<lo+x
   ·exact hs' i j hl hij hjx
   ·let hj':j=lo+x:=∎;subst hj';by_cases hi':i=lo+x
    ·subst hi';exact j8 _
    ·exact A7 (hs' i (lo+x-1) hl ∎ ∎) (O9.mp hless)
def xC {m:Nat} (C:12#0) (r:lo+m<=a₀.size) (p:1<=n) (e:n<=m) (g:kI κ a₀ lo st₀ st)
  (q:Jx rk 43#0 lo (lo+n)) (h:∀k a,kI κ a₀ lo st₀ a->1<=k->k<=m->nV rk (arrOf a) lo (lo+k)->Q (some k) a):
  wpS 7#0 A E s (Rl lo n m) Q st:=by
 unfold Rl;let b:lo+n<=(arrOf st).size:=by rw [g.size];omega
 refine i6 (wpS_reverse ?_);let c:kI κ a₀ lo st₀ (setArr st (mirror 43#0 lo (lo+n) ((lo+n-lo) / 2))):=g.put (mirror_perm _ _ _ _) (gU b (g9 _));refine i6 (xF C r p e c.toSB ?_ λk l f d _=>k7 (h k _ c ∎ f d));intro i j u o t;show R rk (mirror 43#0 lo (lo+n) ((lo+n-lo) / 2)) i<=R rk (mirror 43#0 lo (lo+n) ((lo+n-lo) / 2)) j;rw [sX b,sX b,if_pos ∎,if_pos ∎];exact q _ _ ∎ ∎ ∎
def Hh {m:Nat} {Q:DS->SortSt->Prop} (C:12#0) (hn:lo+m<=a₀.size) (h1:1<=n) (hnn:n<=m) (hB:kI κ a₀ lo st₀ st)
  (hs:Jx rk 43#0 lo (lo+n))
  (h:∀k q st',kI κ a₀ lo st₀ st'->n<=k->k<=m->Jx rk 36#0 lo (lo+k)->q+1<=k->(∀i,lo+k-(q+1)<=i->i<lo+k->R rk 36#0 i=R rk 36#0 (lo+k-1))->Q (none,k,q) st'):
  wpS 7#0 A E s (Gq lo n m) Q st:=by
 unfold Gq;refine F2 (I:=λx c st'=>∃q,c=(none,x,q)/\kI κ a₀ lo st₀ st'/\Jx rk 36#0 lo (lo+x)/\q+1<=x /\
   (∀i,lo+x-(q+1)<=i->i<lo+x->R rk 36#0 i=R rk 36#0 (lo+x-1))) ?step ?fin {0,ρ,hB,hs,∎,λi h1 h2=>by congr 1;omega}
 case fin=>
  rintro c st' ⟨q,rfl,hB',hs',hq,he⟩;rw [show max n m=m by omega] at hs' hq he ⊢;exact h m q st' hB' hnn (g9 _) hs' hq he
 case step=>
  rintro x c st' hax hxn ⟨q,rfl,hB',hs',hq,he⟩;dsimp only
  let hsz:lo+x<=(arrOf st').size:=by rw [hB'.size];omega
  refine i6 (mD C hB'.toSB ∎ ∎ ?_);by_cases hless:R rk 36#0 (lo+x)<R rk 36#0 (lo+x-1)
  ·simp only [hless,decide_true,if_true];let step1:∀xs:Array Keyed,(∀k,R rk xs k=R rk 36#0 k)->Jx rk xs lo (lo+(x+1)):=by
    intro xs hk i j hl hij hj;rw [hk,hk];by_cases hjx:j<lo+x
    ·exact hs' i j hl hij hjx
    ·let hj':j=lo+x:=∎;subst hj';by_cases hi':i=lo+x
     ·subst hi';exact j8 _
     ·exact A7 (y9 hless) (hs' i (lo+x-1) hl ∎ ∎)
   by_cases hneq:q > 0
   ·rw [if_pos hneq];refine i6 (wpS_reverse (k7 {0,ρ,hB'.put (mirror_perm _ _ _ _) (gU hsz ∎),step1 _ (dX hsz he),∎,λi h1 h2=>by congr 1;omega}))
   ·rw [if_neg hneq];exact k7 {0,ρ,hB',step1 _ (λ_=>rfl),∎,λi h1 h2=>by congr 1;omega}
  ·simp only [hless,decide_false,z7,if_false];refine i6 (mD C hB'.toSB ∎ ∎ ?_);by_cases hlarger:R rk 36#0 (lo+x-1)<R rk 36#0 (lo+x)
   ·simp only [hlarger,decide_true,if_true];exact k7 (h x q st' hB' hax ∎ hs' hq he)
   ·simp only [hlarger,decide_false,z7,if_false];let heqx:R rk 36#0 (lo+x)=R rk 36#0 (lo+x-1):=∎;refine k7 {q+1,ρ,hB',λi j hl hij hj=>?_,∎,λi h1 h2=>?_}
    ·by_cases hjx:j<lo+x
     ·exact hs' i j hl hij hjx
     ·let hj':j=lo+x:=∎;subst hj';by_cases hi':i=lo+x
      ·subst hi';exact j8 _
      ·rw [heqx];exact hs' i (lo+x-1) hl ∎ ∎
    ·rw [show lo+(x+1)-1=lo+x by omega];by_cases hix:i=lo+x
     ·subst hix;rfl
     ·rw [heqx];exact he i ∎ ∎
def tV {m:Nat} (C:12#0) (o:lo+m<=a₀.size) (l:n+1<=m) (x:kI κ a₀ lo st₀ st)
  (u:Jx rk 43#0 lo (lo+(n+1))) (h:∀k a,kI κ a₀ lo st₀ a->1<=k->k<=m->nV rk (arrOf a) lo (lo+k)->Q (some k) a):
  wpS 7#0 A E s (zK lo n m) Q st:=by
 unfold zK;refine i6 (S5 (F1 {ρ,?_}));refine i6 (Hh C o ∎ l x u λk q a d r f e y p=>?_);dsimp only
 let c:lo+k<=(arrOf a).size:=by rw [d.size];omega
 by_cases b:q > 0
 ·rw [if_pos b];refine i6 (wpS_reverse (xC C o ∎ f (d.put (mirror_perm _ _ _ _) (gU c ∎)) ?_ h));intro i j v g t;show R rk (mirror (arrOf a) _ _ _) j<=R rk (mirror (arrOf a) _ _ _) i;rw [dX c p,dX c p];exact e i j v g t
 ·rw [if_neg b];exact xC C o ∎ f d e h
def Hi {m:Nat} (C:12#0) (B:lo+m<=a₀.size) (I:1<=m) (o:kI κ a₀ lo st₀ st)
  (h:∀k e,kI κ a₀ lo st₀ e->1<=k->k<=m->nV rk (arrOf e) lo (lo+k)->Q (some k) e):
  wpS 7#0 A E s (countRun' lo m) Q st:=by
 rw [Jm];refine i6 (xF C B (g9 1) I o.toSB (λi j g u G=>by
  have:i=j:=∎
  subst this;exact j8 _) λn v p c F=>?_);dsimp only
 by_cases d:n=m
 ·rw [if_pos (by simpa using d)];exact k7 (h n st o v p c)
 ·rw [if_neg (by simpa using d)];let q:R rk 43#0 (lo+n)<R rk 43#0 (lo+n-1):=F.resolve_left d;by_cases t:n > 1
  ·rw [if_pos t];refine i6 (mD C o.toSB ∎ ∎ ?_);by_cases b:R rk 43#0 lo<R rk 43#0 (lo+n-1)
   ·simp only [b,decide_true,if_true];exact k7 (h n st o v p c)
   ·simp only [b,decide_false,z7,if_false];let f:lo+n<=(arrOf st).size:=by rw [o.size];omega
    let a:∀k,lo<=k->k<lo+n->R rk 43#0 k=R rk 43#0 (lo+n-1):=by
     intro k g H;let K:=c lo k ∎ g H;let J:=c k (lo+n-1) g ∎ ∎;omega
    refine i6 (wpS_reverse (tV C B ∎ (o.put (mirror_perm _ _ _ _) (gU f (g9 _))) ?_ h));intro i j g u G;show R rk (mirror 43#0 _ _ _) j<=R rk (mirror 43#0 _ _ _) i;rw [dX f a,dX f a];by_cases y:j<lo+n
    ·rw [a i g ∎,a j ∎ y];exact j8 _
    ·let x:j=lo+n:=∎;subst x;by_cases l:i=lo+n
     ·subst l;exact j8 _
     ·rw [a i g ∎];exact y9 q
  ·rw [if_neg t];let r:n=1:=∎;subst r;refine tV C B ∎ o ?_ h;intro i j g u G;by_cases l:i=j
   ·subst l;exact j8 _
   ·let z:i=lo:=∎;let D:j=lo+1:=∎;subst z;subst D;exact y9 q
def Ao {ok:Nat} {Q:Bool->SortSt->Prop} (C:12#0) (hn:lo+n<=a₀.size) (hok:ok<=n) (hB:kI κ a₀ lo st₀ st) (hs:nV rk 43#0 lo (lo+ok))
  (h:∀st',kI κ a₀ lo st₀ st'->nV rk 36#0 lo (lo+n)->Q true st'):wpS 7#0 A E s (binarySort' lo n ok) Q st:=by
 rw [binarySort'_eq];refine i6 (N1 (F2 (I:=λk c st'=>c=(none,())/\kI κ a₀ lo st₀ st'/\nV rk 36#0 lo (lo+min k n))
  (Q:=λc st'=>c=(none,())/\kI κ a₀ lo st₀ st'/\nV rk 36#0 lo (lo+n)) ?step ?fin ?init) ?post)
 case post=>
  rintro c st' ⟨rfl,hB',hs'⟩;exact k7 (h st' hB' hs')
 case init=>
  refine {ρ,hB,λi j hl hij hj=>?_};by_cases h1:ok=0
  ·have:i=j:=∎;subst this;exact j8 _
  ·exact hs i j hl hij ∎
 case fin=>
  rintro c st' ⟨hc,hB',hs'⟩;refine {hc,hB',?_};rwa [show min (max (max ok 1) n) n=n by omega] at hs'
 case step=>
  rintro k c st' hak hkn ⟨rfl,hB',hs'⟩;rw [show min k n=k by omega] at hs';let hk:lo+k<a₀.size:=∎;refine i6 (N1 (F2 (I:=λx c st''=>st''=st'/\∃l r,c=(none,l,r)/\l<=r/\r<=k/\r+x<=k+l /\
    (∀i,lo<=i->i<lo+l->R rk 36#0 i<=R rk 36#0 (lo+k))/\(∀i,lo+r<=i->i<lo+k->R rk 36#0 (lo+k)<R rk 36#0 i))
   (Q:=λc st''=>st''=st'/\∃l r,c=(none,l,r)/\l<=k /\
    (∀i,lo<=i->i<lo+l->R rk 36#0 i<=R rk 36#0 (lo+k))/\(∀i,lo+l<=i->i<lo+k->R rk 36#0 (lo+k)<R rk 36#0 i)) ?istep ?ifin ?iinit) ?ipost)
  case iinit=>exact {ρ,0,k,ρ,∎,∎,∎,λi _ hi=>∎,λi h1 h2=>∎}
  case ifin=>
   rintro c st'' ⟨rfl,l,r,rfl,hlr,hrk,hm,hlo,hhi⟩;have:l=r:=∎;subst this;exact {(rfl),l,l,ρ,hrk,hlo,hhi}
  case istep=>
   rintro x c st'' _ hxk ⟨rfl,l,r,rfl,hlr,hrk,hm,hlo,hhi⟩;dsimp only
   by_cases hge:l ≥ r
   ·rw [if_pos hge];have:l=r:=∎;subst this;exact k7 {(rfl),l,l,ρ,hrk,hlo,hhi}
   ·rw [if_neg hge];let m1:l<=(l+r) / 2:=∎;let m2:(l+r) / 2<r:=∎;generalize (l+r) / 2=m at *;refine i6 (mD C hB'.toSB hk ∎ ?_);by_cases hless:R rk (arrOf st'') (lo+k)<R rk (arrOf st'') (lo+m)
    ·simp only [hless,decide_true,if_true];refine k7 {ρ,l,m,ρ,m1,∎,∎,hlo,λi h1 h2=>?_};exact Int.lt_of_lt_of_le hless (hs' _ _ ∎ h1 h2)
    ·simp only [hless,decide_false,z7,if_false];refine k7 {ρ,m+1,r,ρ,m2,hrk,∎,λi h0 h1=>?_,hhi};exact A7 (hs' i (lo+m) h0 ∎ ∎) (O9.mp hless)
  case ipost=>
   rintro c st'' ⟨rfl,l,r,rfl,hlk,hlo,hhi⟩;show wpS _ _ _ _ (do moveDown' (lo+k) (lo+l);pure (ForInStep.yield (none,()))) _ _;let hks:lo+k<(arrOf st'').size:=by rw [hB'.size];exact hk
   rw [moveDown'_eq];refine i6 (P0 (k7 {ρ,hB'.put (bubble_perm _ _ _) (yZ hks ∎),?_}));rw [show min (k+1) n=k+1 by omega];intro i j hl hij hj;show R rk (bubble (arrOf st'') (lo+k) (lo+k-(lo+l))) i<=R rk (bubble (arrOf st'') (lo+k) (lo+k-(lo+l))) j;rw [Ai hks ∎,Ai hks ∎,show lo+k-(lo+k-(lo+l))=lo+l by omega]
   repeat' split
   all_goals first
    | (exfalso;omega)
    | exact j8 _
    | exact hlo _ ∎ ∎
    | exact y9 (hhi _ ∎ ∎)
    | exact hs' _ _ ∎ ∎ ∎
def lC {α:Type} {a:Array α} {i:Nat}:(a.extract i a.size).toList=a.toList.drop i:=by
 rw [N2,J7,v6];rw [D8];simp
def zL {α:Type} {a:Array α} {i k:Nat}:(a.extract i (i+k)).toList=(a.toList.drop i).take k:=by
 rw [N2,J7];congr 1;omega
def fY (rk:Keyed->Int) (l:List Keyed):Prop:=l.Pairwise λx y=>rk x<=rk y
structure Mg (rk:Keyed->Int) (a b:List Keyed) (o:List Keyed) (i j:Nat):Prop where
 perm:(o++(a.drop i++b.drop j)).Perm (a++b)
 srt:fY rk o
 la:∀x ∈ o,∀y ∈ a.drop i,rk x<=rk y
 lb:∀x ∈ o,∀y ∈ b.drop j,rk x<=rk y
def Mg.len {rk:Keyed->Int} {a b:List Keyed} (h:Mg rk a b o i j):o.length+((a.length-i)+(b.length-j))=a.length+b.length:=by
 have:=h.perm.length_eq;simpa using this
def fY.app {rk:Keyed->Int} {x y:List Keyed} (h:fY rk x) (k:fY rk y) (l:∀u ∈ x,∀v ∈ y,rk u<=rk v):fY rk (x++y):=
 C7.mpr {(h),k,l}
theorem fY.drop {rk:Keyed->Int} {x:List Keyed} {i:Nat} (h:fY rk x):fY rk (x.drop i):=h.sublist (List.drop_sublist _ _)
theorem fY.take {rk:Keyed->Int} {x:List Keyed} {i:Nat} (h:fY rk x):fY rk (x.take i):=h.sublist (List.take_sublist _ _)
def Mg.takeA {rk:Keyed->Int} {a b:List Keyed} (h:Mg rk a b o i j) (d:fY rk a) (g:∀x ∈ (a.drop i).take k,∀y ∈ b.drop j,rk x<=rk y):Mg rk a b (o++(a.drop i).take k) (i+k) j:=by
 let e:a.drop i=(a.drop i).take k++a.drop (i+k):=by
  rw [<- E7];exact(z9 k _).symm
 let l:fY rk ((a.drop i).take k++a.drop (i+k)):=e ▸ d.drop;let f:∀x ∈ (a.drop i).take k,x ∈ a.drop i:=λx hx=>C1 hx;let n:∀x ∈ a.drop (i+k),x ∈ a.drop i:=λx hx=>by rw [e];exact j0 _ hx
 refine {?_,h.srt.app d.drop.take λu m v p=>h.la u m v (f v p),λx hx y c=>?_,λx hx y c=>?_}
 ·refine List.Perm.trans (List.Perm.of_eq ?_) h.perm
  conv=>rhs;rw [e]
  simp [w5]
 ·rcases j6.mp hx with hx|hx
  ·exact h.la x hx y (n y c)
  ·exact(C7.mp l).2.2 x hx y c
 ·rcases j6.mp hx with hx|hx
  ·exact h.lb x hx y c
  ·exact g x hx y c
def Mg.takeB {rk:Keyed->Int} {a b:List Keyed} (h:Mg rk a b o i j) (d:fY rk b) (g:∀x ∈ (b.drop j).take k,∀y ∈ a.drop i,rk x<=rk y):Mg rk a b (o++(b.drop j).take k) i (j+k):=by
 let e:b.drop j=(b.drop j).take k++b.drop (j+k):=by
  rw [<- E7];exact(z9 k _).symm
 let l:fY rk ((b.drop j).take k++b.drop (j+k)):=e ▸ d.drop;let f:∀x ∈ (b.drop j).take k,x ∈ b.drop j:=λx hx=>C1 hx;let n:∀x ∈ b.drop (j+k),x ∈ b.drop j:=λx hx=>by rw [e];exact j0 _ hx
 refine {?_,h.srt.app d.drop.take λu m v p=>h.lb u m v (f v p),λx hx y c=>?_,λx hx y c=>?_}
 ·refine List.Perm.trans ?_ h.perm
  conv=>rhs;rw [e]
  have:(a.drop i++((b.drop j).take k++b.drop (j+k))).Perm ((b.drop j).take k++(a.drop i++b.drop (j+k))):=by
   rw [<- w5,<- w5];exact List.perm_append_comm.append_right _
  rw [w5];exact(this.symm).append_left _
 ·rcases j6.mp hx with hx|hx
  ·exact h.la x hx y c
  ·exact g x hx y c
 ·rcases j6.mp hx with hx|hx
  ·exact h.lb x hx y (n y c)
  ·exact(C7.mp l).2.2 x hx y c
def iD {α:Type} {l:List α} {i:Nat} {x:α} (h:l[i]?=some x):(l.drop i).take 1=[x]:=by
 let a:i<l.length:=by
  rcases Nat.lt_or_ge i l.length with z|z
  ·exact z
  ·rw [B7 z] at h;cases h
 rw [D3 a];rw [e7 a] at h;cases h;rfl
def Mg.pushA {rk:Keyed->Int} {a b:List Keyed} (h:Mg rk a b o i j) (d:fY rk a) (e:a[i]?=some x) (c:∀y ∈ b.drop j,rk x<=rk y):Mg rk a b (o++[x]) (i+1) j:=by
 have:=h.takeA (k:=1) d (by rw [iD e];intro u f;cases v9.mp f;exact c);rwa [iD e] at this
def Mg.pushB {rk:Keyed->Int} {a b:List Keyed} (h:Mg rk a b o i j) (d:fY rk b) (e:b[j]?=some x) (c:∀y ∈ a.drop i,rk x<=rk y):Mg rk a b (o++[x]) i (j+1):=by
 have:=h.takeB (k:=1) d (by rw [iD e];intro u f;cases v9.mp f;exact c);rwa [iD e] at this
def kG (rk:Keyed->Int) (a b:List Keyed) (r:Array Keyed):Prop:=r.toList.Perm (a++b)/\fY rk r.toList
def Mg.doneB {rk:Keyed->Int} {a b:Array Keyed} {o:Array Keyed} (h:Mg rk a.toList b.toList o.toList i j) (d:fY rk a.toList) (e:b.size<=j):kG rk a.toList b.toList (o++a.extract i a.size++b.extract j b.size):=by
 let z:b.toList.drop j=[]:=Q1 (by simpa using e);let c:(o++a.extract i a.size++b.extract j b.size).toList=o.toList++a.toList.drop i:=by
  rw [v5,v5,lC,lC,z,F0]
 refine {?_,?_}
 ·rw [c];have:=h.perm;rwa [z,F0] at this
 ·rw [c];exact h.srt.app d.drop h.la
def Mg.doneA {rk:Keyed->Int} {a b:Array Keyed} {o:Array Keyed} (h:Mg rk a.toList b.toList o.toList i j) (d:fY rk b.toList) (e:a.size<=i):kG rk a.toList b.toList (o++a.extract i a.size++b.extract j b.size):=by
 let z:a.toList.drop i=[]:=Q1 (by simpa using e);let c:(o++a.extract i a.size++b.extract j b.size).toList=o.toList++b.toList.drop j:=by
  rw [v5,v5,lC,lC,z,F0]
 refine {?_,?_}
 ·rw [c];have:=h.perm;rwa [z,List.nil_append] at this
 ·rw [c];exact h.srt.app d.drop h.lb
def Mg.lastA {rk:Keyed->Int} {a b:Array Keyed} {o:Array Keyed} (h:Mg rk a.toList b.toList o.toList i j) (l:fY rk a.toList) (g:fY rk b.toList) (e:i+1=a.size) (m:∀y ∈ b.toList,∀x,a.toList[a.size-1]?=some x->rk y<=rk x):kG rk a.toList b.toList (o++b.extract j b.size++a.extract i a.size):=by
 let f:(o++b.extract j b.size++a.extract i a.size).toList=o.toList++(b.toList.drop j++a.toList.drop i):=by
  rw [v5,v5,lC,lC,w5]
 refine {?_,?_}
 ·rw [f];exact(List.perm_append_comm.append_left _).trans h.perm
 ·rw [f];refine h.srt.app (g.drop.app l.drop λu c v hv=>?_) λu c v hv=>?_
  ·let d:i<a.toList.length:=by simp;omega
   let k:a.toList.drop i=[a.toList[i]]:=by
    rw [D3 d,Q1 (by simp;omega)]
   rw [k] at hv;cases v9.mp hv;refine m u (F3 c) _ ?_;rw [show a.size-1=i by omega,e7 d]
  ·rcases j6.mp hv with hv|hv
   ·exact h.lb u c v hv
   ·exact h.la u c v hv
structure Sg (st₀ st:SortSt):Prop where
 kind:kindOf st=kindOf st₀
 arr:arrOf st=arrOf st₀
 pend:pendingOf st=pendingOf st₀
 failed:failedOf st=failedOf st₀
def Sg.refl:Sg st st:=39#0
def uS:Nat->StateT SortSt Sem Unit:=sortPriv% PySem.Builtin.setMinGallop
def Qi (g:Nat):uS g=modify λt=>SortSt.mk' (kindOf t) (arrOf t) (pendingOf t) g (failedOf t):=rfl
def mC {st₀:SortSt} {g:Nat} {Q:Unit->SortSt->Prop} (b:Sg st₀ st) (h:∀a,Sg st₀ a->Q () a):wpS 7#0 A E s (uS g) Q st:=by
 rw [Qi];exact P0 (h _ {(b.kind),b.arr,b.pend,b.failed})
def qJ {b:Keyed} {a:Array Keyed} (C:12#0) (J:kindOf st=κ) (t:b ∈ a₀.toList) (N:∀x ∈ a.toList,x ∈ a₀.toList)
  (O:fY rk ((a.toList.drop base).take n)) (U:base+n<=a.size) (T:d<n)
  (h:∀k,k<=n->(∀x ∈ (a.toList.drop base).take k,rk x<=rk b)->(∀i x,k<=i->i<n->a.toList[base+i]?=some x->rk b<rk x)->Q (some k) st):
  wpS 7#0 A E s (fM false b a base n d) Q st:=by
 let c:∀i,i<n->∃x,a[base+i]?=some x/\x ∈ a₀.toList/\((a.toList.drop base).take n)[i]?=some x:=λi g=>by
  let z:base+i<a.size:=∎;refine {a[base+i],y0 z,N _ 9#0,?_};rw [y7 g,v7];simp [z]
 refine qI (p:=λi=>!decide (rk b<R rk a (base+i))) (λi g Q h=>?_) (λi j o I e=>?_) T λk S B L=>h k S (λx D=>?_) λi x u K e=>?_
 ·let (x,e,m,_):=c i g;unfold zY;refine i6 (bO e ?_);rw [if_neg 9#0];refine i6 (C.lt t m J (k7 ?_));rw [jN e] at h;exact h
 ·let (x,r,_,G):=c i ∎;let (y,f,_,v):=c j I
  try dsimp only at e ⊢
  rw [jN f] at e;rw [jN r];simp only [L6,decide_eq_false_iff_not,O9] at e ⊢;rcases L0 o with z|z
  ·subst z;rw [r] at f;cases f;exact e
  ·refine A7 ?_ e;let (H,F):=e8.mp G;let (P,M):=e8.mp v;rw [<- F,<- M];exact y4.mp O i j H P z
 ·let (i,g,rfl):=C3 D;let l:i<k:=by
   have:=g;simp at this;omega
  let (y,f,_,_):=c i ∎;have:=B i l
  try dsimp only at this
  rw [jN f] at this;simp only [L6,decide_eq_false_iff_not,O9] at this;let q:((a.toList.drop base).take k)[i]?=some y:=by
   rw [y7 l,v7];simpa using f
  rw [e7 g] at q;cases q;exact this
 ·have:=L i u K
  try dsimp only at this
  rw [jN (show a[base+i]?=some x by simpa using e)] at this;simpa using this
def qK {b:Keyed} {a:Array Keyed} (C:12#0) (J:kindOf st=κ) (t:b ∈ a₀.toList) (N:∀x ∈ a.toList,x ∈ a₀.toList)
  (O:fY rk ((a.toList.drop base).take n)) (U:base+n<=a.size) (T:d<n)
  (h:∀k,k<=n->(∀x ∈ (a.toList.drop base).take k,rk x<rk b)->(∀i x,k<=i->i<n->a.toList[base+i]?=some x->rk b<=rk x)->Q (some k) st):
  wpS 7#0 A E s (fM true b a base n d) Q st:=by
 let c:∀i,i<n->∃x,a[base+i]?=some x/\x ∈ a₀.toList/\((a.toList.drop base).take n)[i]?=some x:=λi g=>by
  let z:base+i<a.size:=∎;refine {a[base+i],y0 z,N _ 9#0,?_};rw [y7 g,v7];simp [z]
 refine qI (p:=λi=>decide (R rk a (base+i)<rk b)) (λi g Q h=>?_) (λi j o I e=>?_) T λk S B L=>h k S (λx D=>?_) λi x u K e=>?_
 ·let (x,e,m,_):=c i g;unfold zY;refine i6 (bO e ?_);rw [if_pos rfl];refine C.lt m t J ?_;rw [jN e] at h;exact h
 ·let (x,r,_,G):=c i ∎;let (y,f,_,v):=c j I
  try dsimp only at e ⊢
  rw [jN f] at e;rw [jN r];simp only [decide_eq_true_eq] at e ⊢;rcases L0 o with z|z
  ·subst z;rw [r] at f;cases f;exact e
  ·refine Int.lt_of_le_of_lt ?_ e;let (H,F):=e8.mp G;let (P,M):=e8.mp v;rw [<- F,<- M];exact y4.mp O i j H P z
 ·let (i,g,rfl):=C3 D;let l:i<k:=by
   have:=g;simp at this;omega
  let (y,f,_,_):=c i ∎;have:=B i l
  try dsimp only at this
  rw [jN f] at this;simp only [decide_eq_true_eq] at this;let q:((a.toList.drop base).take k)[i]?=some y:=by
   rw [y7 l,v7];simpa using f
  rw [e7 g] at q;cases q;exact this
 ·have:=L i u K
  try dsimp only at this
  rw [jN (show a[base+i]?=some x by simpa using e)] at this;simpa using this
noncomputable def DW:Array Keyed->Array Keyed->StateT SortSt Sem (Array Keyed):=sortPriv% PySem.Builtin.mergeLo
abbrev SA:=Option (Array Keyed) × Array Keyed × Nat × Nat × Nat × Nat
abbrev SG:=Option (Array Keyed) × Array Keyed × Nat × Nat × Nat × Nat × Nat
abbrev SO:=Option (Array Keyed) × Array Keyed × Nat × Nat × Nat
section
variable (x y:Array Keyed)
noncomputable def Xp (o:Array Keyed) (i j:Nat):=o++x.extract i x.size++y.extract j y.size
noncomputable def IL (o:Array Keyed) (i j:Nat):=o++y.extract j y.size++x.extract i x.size
noncomputable def MR (g:Nat) (o:Array Keyed) (i j c d:Nat):StateT SortSt Sem (ForInStep SA):=
 elem' y j >>= λp=>elem' x i >>= λq=>lt' p q >>= λr=>match r with
 | some w=>if w=true then elem' y j >>= λp=>
   if (j+1 == y.size)=true then pure (.done (some (Xp x y (o.push p) i (j+1)),o.push p,i,j+1,0,d+1))
   else if d+1 ≥ g then pure (.done (none,o.push p,i,j+1,0,d+1)) else pure (.yield (none,o.push p,i,j+1,0,d+1))
  else elem' x i >>= λq=>
   if (i+1+1 == x.size)=true then pure (.done (some (IL x y (o.push q) (i+1) j),o.push q,i+1,j,c+1,0))
   else if c+1 ≥ g then pure (.done (none,o.push q,i+1,j,c+1,0)) else pure (.yield (none,o.push q,i+1,j,c+1,0))
 | _=>pure (.done (some (Xp x y o i j),o,i,j,c,d))
noncomputable def LI (o:Array Keyed) (i j g c d:Nat):StateT SortSt Sem (ForInStep SG):=do
 let q <- elem' x i
 if (i+1+1 == x.size)=true then pure (.done (some (IL x y (o.push q) (i+1) j),o.push q,i+1,j,g,c,d))
 else if (c<7 && d<7)=true then pure (.done (none,o.push q,i+1,j,g,c,d)) else pure (.yield (none,o.push q,i+1,j,g,c,d))
noncomputable def MS (o:Array Keyed) (i j g c d:Nat):StateT SortSt Sem (ForInStep SG):=
 elem' x i >>= λq=>fM true q y j (y.size-j) 0 >>= λr=>match r with
 | some k=>if k > 0 then
   if (j+k == y.size)=true then pure (.done (some (Xp x y (o++y.extract j (j+k)) i (j+k)),o++y.extract j (j+k),i,j+k,g,c,k)) else LI x y (o++y.extract j (j+k)) i (j+k) g c k
  else LI x y o i j g c k
 | _=>pure (.done (some (Xp x y o i j),o,i,j,g,c,d))
noncomputable def LJ (o:Array Keyed) (i j g c d:Nat):StateT SortSt Sem (ForInStep SG):=do
 let p <- elem' y j
 if (j+1 == y.size)=true then pure (.done (some (Xp x y (o.push p) i (j+1)),o.push p,i,j+1,g,c,d)) else MS x y (o.push p) i (j+1) g c d
noncomputable def LK (o:Array Keyed) (i j g c d:Nat):StateT SortSt Sem (ForInStep SG):=
 uS g >>= λ_=>elem' y j >>= λp=>fM false p x i (x.size-i) 0 >>= λr=>match r with
 | some k=>if k > 0 then
   if (i+k+1 == x.size)=true then pure (.done (some (IL x y (o++x.extract i (i+k)) (i+k) j),o++x.extract i (i+k),i+k,j,g,k,d))
   else if (i+k == x.size)=true then pure (.done (some (Xp x y (o++x.extract i (i+k)) (i+k) j),o++x.extract i (i+k),i+k,j,g,k,d))
   else LJ x y (o++x.extract i (i+k)) (i+k) j g k d
  else LJ x y o i j g k d
 | _=>pure (.done (some (Xp x y o i j),o,i,j,g,c,d))
noncomputable def MT (o:Array Keyed) (i j g c d:Nat):StateT SortSt Sem (ForInStep SG):=if g > 1 then LK x y o i j (g-1) c d else LK x y o i j g c d
noncomputable def MQ (o:Array Keyed) (i j g:Nat):StateT SortSt Sem (ForInStep SO):=do
 let c <- forIn [0:x.size+y.size] ((none,o,i,j,0,0):SA) λ_ c=>MR x y g c.2.1 c.2.2.1 c.2.2.2.1 c.2.2.2.2.1 c.2.2.2.2.2
 match c.1 with
 | some r=>pure (.done (some r,c.2.1,c.2.2.1,c.2.2.2.1,g))
 | none=>do
  liftM (rule "list.sort.gallop")
  let c <- forIn [0:x.size+y.size] ((none,c.2.1,c.2.2.1,c.2.2.2.1,g+1,c.2.2.2.2.1,c.2.2.2.2.2):SG) λ_ c=>MT x y c.2.1 c.2.2.1 c.2.2.2.1 c.2.2.2.2.1 c.2.2.2.2.2.1 c.2.2.2.2.2.2
  match c.1 with
  | some r=>pure (.done (some r,c.2.1,c.2.2.1,c.2.2.2.1,c.2.2.2.2.1))
  | none=>do
   uS (c.2.2.2.2.1+1)
   pure (.yield (none,c.2.1,c.2.2.1,c.2.2.2.1,c.2.2.2.2.1+1))
def Wz:DW x y=(do
  liftM (rule "list.sort.merge-lo")
  let p <- elem' y 0
  if (1 == y.size)=true then pure (Xp x y #[p] 0 1) else if (0+1 == x.size)=true then pure (IL x y #[p] 0 1) else do
  let st <- get
  let c <- forIn [0:x.size+y.size] ((none,#[p],0,1,gallopOf st):SO) λ_ c=>MQ x y c.2.1 c.2.2.1 c.2.2.2.1 c.2.2.2.2
  match c.1 with
  | some r=>pure r
  | none=>do unsupported "internal:list.sort.merge-bound"):=by
 refine congrArg (bind _) (funext λ_=>congrArg (bind _) (funext λp=>?_));dsimp only
 refine congr (congrArg (@ite _ _ _) rfl) 56#0
 ·let (r,c):=c;cases r with
  | some r=>rfl
  | none=>
   refine congrArg (bind _) (funext λ_=>congrArg (bind _) (funext λc=>?_));let (r,c):=c;cases r <;> rfl
 ·let (r,c):=c;cases r <;> rfl
end
def nK {y:Keyed} (h:y ∈ l.drop i):∃k,i<=k/\l[k]?=some y:=by
 let (n,a,e):=C3 h;refine {i+n,∎,?_};rw [<- v7,e7 a,e]
def kK (r:fY rk l) (e:l[i]?=some x):∀y ∈ l.drop i,rk x<=rk y:=λy b=>by
 let (k,f,a):=nK b
 let (m,u):=e8.mp e
 let (t,h):=e8.mp a
 rcases L0 f with z|z
 ·subst z;rw [e] at a;cases a;exact j8 _
 ·rw [<- u,<- h];exact y4.mp r i k m t z
def pG {x:Array Keyed} (h:i<x.size):∃p,x[i]?=some p/\x.toList[i]?=some p/\p ∈ x.toList:={x[i],y0 h,by simp [h],by simp}
structure Md (rk:Keyed->Int) (x y o:Array Keyed) (i j n:Nat):Prop where
 m:Mg rk x.toList y.toList o.toList i j
 hi:i+1<x.size
 hj:j<y.size
 sz:n<=o.size
structure Rn (a₀:Array Keyed) (rk:Keyed->Int) (x y:Array Keyed):Prop where
 mx:∀p ∈ x.toList,p ∈ a₀.toList
 my:∀p ∈ y.toList,p ∈ a₀.toList
 sx:fY rk x.toList
 sy:fY rk y.toList
inductive En {γ:Type} (D:Array Keyed->Prop) (G:γ->Prop):Option (Array Keyed)->γ->Prop
 | out {r c} (h:D r):En D G (some r) c
 | on {c} (h:G c):En D G none c
def Hb {γ:Type} (D:Array Keyed->Prop) (G' G:γ->Prop):ForInStep (Option (Array Keyed) × γ)->Prop
 | .done c=>En D G' c.1 c.2
 | .yield c=>c.1=none/\G c.2
variable {x y o:Array Keyed} {i j n g c d:Nat} {st:SortSt} {p q:Keyed}
abbrev Wl (rk:Keyed->Int) (x y:Array Keyed):Array Keyed->Prop:=kG rk x.toList y.toList
abbrev Al {β:Type} (rk:Keyed->Int) (x y:Array Keyed) (n:Nat):Array Keyed × Nat × Nat × β->Prop:=λc=>Md rk x y c.1 c.2.1 c.2.2.1 n
def Md.a (h:Md rk x y o i j n) (R:Rn a₀ rk x y) (b:∀p ∈ y.toList,∀q,x.toList[x.size-1]?=some q->rk p<=rk q) (e:x.toList[i]?=some q) (l:∀v ∈ y.toList.drop j,rk q<=rk v):(i+1+1=x.size->Wl rk x y (IL x y (o.push q) (i+1) j))/\(¬ i+1+1=x.size->Md rk x y (o.push q) (i+1) j (n+1)):=by
 let m:Mg rk x.toList y.toList (o.push q).toList (i+1) j:=by
  rw [P5];exact h.m.pushA R.sx e l
 let k:=h.hi;let f:=h.sz;exact {λz=>m.lastA R.sx R.sy z b,λz=>{m,∎,h.hj,by rw [O3];omega}}
def Md.b (h:Md rk x y o i j n) (R:Rn a₀ rk x y) (e:y.toList[j]?=some p) (l:∀v ∈ x.toList.drop i,rk p<=rk v):(j+1=y.size->Wl rk x y (Xp x y (o.push p) i (j+1)))/\(¬ j+1=y.size->Md rk x y (o.push p) i (j+1) (n+1)):=by
 let m:Mg rk x.toList y.toList (o.push p).toList i (j+1):=by
  rw [P5];exact h.m.pushB R.sy e l
 let f:=h.hj;let a:=h.sz;exact {λz=>m.doneB R.sx (D6 z.symm),λz=>{m,h.hi,∎,by rw [O3];omega}}
def Md.le {a:Nat} (h:Md rk x y o i j n) (l:a<=n):Md rk x y o i j a:={h.m,h.hi,h.hj,u8 l h.sz}
def nY {γ:Type} {D:Array Keyed->Prop} {G' G:γ->Prop} {b:Bool} {u:Prop} [Decidable u] {P:Prop} {r:Array Keyed} {c:γ} (k:P->D r) (h2:¬ P->G c) (l:∀c,G c->G' c) (f:b=true↔P):
  wpS 7#0 A E s (if b=true then pure (.done (some r,c)) else if u then pure (.done (none,c)) else pure (.yield (none,c)):StateT SortSt Sem (ForInStep (Option (Array Keyed) × γ))) (λr e=>e=st/\Hb D G' G r) st:=by
 by_cases a:b=true
 ·rw [if_pos a];exact k7 {ρ,.out (k (f.mp a))}
 rw [if_neg a];let z:=h2 λz=>a (f.mpr z);by_cases h:u
 ·rw [if_pos h];exact k7 {ρ,.on (l _ z)}
 ·rw [if_neg h];exact k7 {(rfl),ρ,z}
def IN (u:k<=n+1) (C:12#0) (G:kindOf st=κ) (R:Rn a₀ rk x y) (J:∀p ∈ y.toList,∀q,x.toList[x.size-1]?=some q->rk p<=rk q) (h:Md rk x y o i j n):wpS 7#0 A E s (MR x y g o i j c d) (λr m=>m=st/\Hb (Wl rk x y) (Al rk x y k) (Al rk x y (n+1)) r) st:=by
 let (p,D,B,H):=pG h.hj;let (q,F,v,I):=pG (x:=x) (i:=i) (by have:=h.hi;omega);refine i6 (bO D (i6 (bO F (i6 (C.lt (R.my p H) (R.mx q I) G ?_)))));dsimp only
 by_cases e:rk p<rk q
 ·rw [if_pos (decide_eq_true e)];let (l,t):=h.b R B λz f=>A7 (y9 e) (kK R.sx v z f);exact i6 (bO D (nY l t (λ_ z=>z.le u) beq_iff_eq))
 ·rw [if_neg (by simpa using e)];let (l,t):=h.a R J v λz f=>A7 (O9.mp e) (kK R.sy B z f);exact i6 (bO F (nY l t (λ_ z=>z.le u) beq_iff_eq))
def AC (R:Rn a₀ rk x y) (t:∀p ∈ y.toList,∀q,x.toList[x.size-1]?=some q->rk p<=rk q) (h:Md rk x y o i j n) (m:x[i]?=some q) (f:x.toList[i]?=some q) (l:∀v ∈ y.toList.drop j,rk q<=rk v):wpS 7#0 A E s (LI x y o i j g c d) (λr b=>b=st/\Hb (Wl rk x y) (Al rk x y n) (Al rk x y n) r) st:=by
 let (e,k):=h.a R t f l;exact i6 (bO m (nY e (λz=>(k z).le (L3 _)) (λ_ z=>z) beq_iff_eq))
def IP (C:12#0) (I:kindOf st=κ) (R:Rn a₀ rk x y) (G:∀p ∈ y.toList,∀q,x.toList[x.size-1]?=some q->rk p<=rk q) (h:Md rk x y o i j n):wpS 7#0 A E s (MS x y o i j g c d) (λr b=>b=st/\Hb (Wl rk x y) (Al rk x y n) (Al rk x y n) r) st:=by
 let N:=h.hi;let P:=h.hj;let O:=h.sz;let (q,f,B,J):=pG (x:=x) (i:=i) ∎;refine i6 (bO f (i6 (qK C I (R.mx q J) R.my R.sy.drop.take ∎ ∎ λk S H L=>?_)));dsimp only
 let a:∀v ∈ y.toList.drop (j+k),rk q<=rk v:=λv l=>by
  let (t,Q,F):=nK l;let M:=(e8.mp F).1;rw [u9] at M;exact L (t-j) v ∎ ∎ (by rw [show j+(t-j)=t by omega];exact F)
 by_cases D:k > 0
 ·rw [if_pos D];let m:Mg rk x.toList y.toList (o++y.extract j (j+k)).toList i (j+k):=by
   rw [v5,zL];exact h.m.takeB R.sy λu K v l=>A7 (y9 (H u K)) (kK R.sx B v l)
  by_cases e:(j+k == y.size)=true
  ·rw [if_pos e];exact k7 {ρ,.out (m.doneB R.sx (D6 (beq_iff_eq.mp e).symm))}
  ·rw [if_neg e];have:¬ j+k=y.size:=λz=>e 57#0;exact AC R G {m,N,∎,by rw [P6];omega} f B a
 ·rw [if_neg D];obtain rfl:k=0:=∎;exact AC R G h f B a
def AD (C:12#0) (k:kindOf st=κ) (R:Rn a₀ rk x y) (u:∀p ∈ y.toList,∀q,x.toList[x.size-1]?=some q->rk p<=rk q) (h:Md rk x y o i j n) (ep:y[j]?=some p) (t:y.toList[j]?=some p) (l:∀v ∈ x.toList.drop i,rk p<=rk v):wpS 7#0 A E s (LJ x y o i j g c d) (λr a=>a=st/\Hb (Wl rk x y) (Al rk x y n) (Al rk x y n) r) st:=by
 let (f,m):=h.b R t l;refine i6 (bO ep ?_);by_cases e:(j+1 == y.size)=true
 ·rw [if_pos e];exact k7 {ρ,.out (f (beq_iff_eq.mp e))}
 ·rw [if_neg e];exact IP C k R u ((m λz=>e 57#0).le (L3 _))
def AE {st₀:SortSt} (C:12#0) (H:kindOf st₀=κ) (L:Sg st₀ st) (R:Rn a₀ rk x y) (G:∀p ∈ y.toList,∀q,x.toList[x.size-1]?=some q->rk p<=rk q) (h:Md rk x y o i j n):wpS 7#0 A E s (LK x y o i j g c d) (λr b=>Sg st₀ b/\Hb (Wl rk x y) (Al rk x y n) (Al rk x y n) r) st:=by
 let X:=h.hi;let S:=h.hj;let W:=h.sz;let (p,I,B,M):=pG h.hj;refine i6 (mC L λD a=>i6 (bO I (i6 (qJ C (a.kind.trans H) (R.my p M) R.mx R.sx.drop.take ∎ ∎ λk Z N P=>?_))));dsimp only
 let f:∀v ∈ x.toList.drop (i+k),rk p<=rk v:=λv F=>by
  let (t,Y,K):=nK F;let Q:=(e8.mp K).1;rw [u9] at Q;exact y9 (P (t-i) v ∎ ∎ (by rw [show i+(t-i)=t by omega];exact K))
 refine N1 ?_ λr b (z:b=D/\_)=>{z.1 ▸ a,z.2};by_cases J:k > 0
 ·rw [if_pos J];let m:Mg rk x.toList y.toList (o++x.extract i (i+k)).toList (i+k) j:=by
   rw [v5,zL];exact h.m.takeA R.sx λu O v F=>A7 (N u O) (kK R.sy B v F)
  by_cases e:(i+k+1 == x.size)=true
  ·rw [if_pos e];exact k7 {ρ,.out (m.lastA R.sx R.sy (beq_iff_eq.mp e) G)}
  rw [if_neg e];by_cases l:(i+k == x.size)=true
  ·rw [if_pos l];exact k7 {ρ,.out (m.doneA R.sy (D6 (beq_iff_eq.mp l).symm))}
  rw [if_neg l];let T:¬ i+k+1=x.size:=λz=>e 57#0;let U:¬ i+k=x.size:=λz=>l 57#0;exact AD C (a.kind.trans H) R G {m,∎,S,by rw [P6];omega} I B f
 ·rw [if_neg J];obtain rfl:k=0:=∎;exact AD C (a.kind.trans H) R G h I B f
def kJ {γ:Type} {D:Array Keyed->Prop} {G:Nat->γ->Prop} {G':γ->Prop} {S:SortSt->Prop} {m:Nat} {f:Nat->(Option (Array Keyed) × γ)->StateT SortSt Sem (ForInStep (Option (Array Keyed) × γ))} {c:γ} {Q:(Option (Array Keyed) × γ)->SortSt->Prop} (C:G 0 c) (B:S st)
  (u:∀t c st,G t c->S st->wpS 7#0 A E s (f t (none,c)) (λr a=>S a/\Hb D G' (G (t+1)) r) st) (v:∀c,G m c->G' c) (h:∀r c a,S a->En D G' r c->Q (r,c) a):wpS 7#0 A E s (forIn [0:m] (none,c) f) Q st:=by
 refine F2 (I:=λt c a=>S a/\c.1=none/\G t c.2) (λt c a _ _ z=>?_) (λc a z=>?_) {(B),ρ,C}
 ·let (e,k,b):=z;let (r,c):=c;obtain rfl:r=none:=k;refine N1 (u t c a b e) λr l z=>?_;cases r with
  | done c=>exact h c.1 c.2 l z.1 z.2
  | yield c=>exact z
 ·let (e,k,b):=z;let (r,c):=c;obtain rfl:r=none:=k;rw [Nat.max_eq_right (i9 _)] at b;exact h _ _ _ e (.on (v _ b))
def IM {st₀:SortSt} (C:12#0) (b:kindOf st₀=κ) (l:Sg st₀ st) (R:Rn a₀ rk x y) (m:∀p ∈ y.toList,∀q,x.toList[x.size-1]?=some q->rk p<=rk q) (h:Md rk x y o i j n):wpS 7#0 A E s (MQ x y o i j g) (λr a=>Sg st₀ a/\Hb (Wl rk x y) (λ_=>False) (Al rk x y (n+1)) r) st:=by
 refine i6 (kJ (D:=Wl rk x y) (G:=λt=>Al rk x y (n+t)) (G':=Al rk x y (n+1)) (S:=λa=>a=st) h rfl (λt c a h e=>?_) (λc h=>h.le (by have:=h.hi;omega)) λr c a e f=>?_)
 ·cases e;exact IN (Q8 (Q7 n t)) C (l.kind.trans b) R m h
 cases e;cases f with
 | out h=>exact k7 {l,.out h}
 | on h=>
  refine i6 (S5 (F1 {ρ,?_}));refine i6 (kJ (D:=Wl rk x y) (G:=λ_=>Al rk x y (n+1)) (G':=Al rk x y (n+1)) (S:=Sg st₀) h l (λt c a h e=>?_) (λc h=>h) λr c a e f=>?_)
  ·dsimp only [MT];by_cases u:c.2.2.2.1 > 1
   ·rw [if_pos u];exact AE C b e R m h
   ·rw [if_neg u];exact AE C b e R m h
  cases f with
  | out h=>exact k7 {e,.out h}
  | on h=>exact i6 (mC e λv k=>k7 {(k),ρ,h})
def Tt {Q:Array Keyed->SortSt->Prop} (C:12#0) (L:kindOf st=κ)
  (H:∀p ∈ x.toList,p ∈ a₀.toList) (K:∀p ∈ y.toList,p ∈ a₀.toList) (l:fY rk x.toList) (u:fY rk y.toList) (P:1<=x.size) (T:1<=y.size)
  (M:∀p,y.toList[0]?=some p->∀q ∈ x.toList,rk p<=rk q) (F:∀p ∈ y.toList,∀q,x.toList[x.size-1]?=some q->rk p<=rk q)
  (h:∀r a,kG rk x.toList y.toList r->Sg st a->Q r a):wpS 7#0 A E s (DW x y) Q st:=by
 rw [Wz];let (B,O,v,_):=pG (x:=y) (i:=0) ∎;refine i6 (S5 (F1 {ρ,i6 (bO O ?_)}));let k:Mg rk x.toList y.toList (#[B]:Array Keyed).toList 0 1:=by
  let z:Mg rk x.toList y.toList [] 0 0:={by simp,J5,λ_ h=>(nomatch h),λ_ h=>(nomatch h)};exact z.pushB u v (by rw [P1];exact M B v)
 by_cases b:(1 == y.size)=true
 ·rw [if_pos b];exact k7 (h _ _ (k.doneB l (D6 (beq_iff_eq.mp b).symm)) Sg.refl)
 rw [if_neg b];let I:¬ 1=y.size:=λz=>b 57#0;by_cases f:(0+1 == x.size)=true
 ·rw [if_pos f];exact k7 (h _ _ (k.lastA l u (beq_iff_eq.mp f) F) Sg.refl)
 rw [if_neg f];let J:¬ 0+1=x.size:=λz=>f 57#0;refine i6 (M6 (i6 (kJ (D:=Wl rk x y) (G:=λt=>Al rk x y (t+1)) (G':=λ_=>False) (S:=Sg st) {k,(by omega:0+1<x.size),(by omega:1<y.size),g9 _} Sg.refl (λt c a h e=>IM C L e {(H),K,l,u} F h) (λc h=>?_) λr c a e N=>?_)))
 ·have:=h.m.len;have:=h.sz;rw [u9,u9,u9] at *;omega
 cases N with
 | out z=>exact k7 (h _ _ z e)
 | on z=>exact z.elim
structure Mh (rk:Keyed->Int) (a b:List Keyed) (o:List Keyed) (n m:Nat):Prop where
 perm:(a.take n++b.take m++o).Perm (a++b)
 srt:fY rk o
 la:∀y ∈ a.take n,∀x ∈ o,rk y<=rk x
 lb:∀y ∈ b.take m,∀x ∈ o,rk y<=rk x
def Mh.len {rk:Keyed->Int} {a b o:List Keyed} {n m:Nat} (h:Mh rk a b o n m):min n a.length+min m b.length+o.length=a.length+b.length:=by
 have:=h.perm.length_eq;simp at this;omega
def qU {a:List Keyed} {i n:Nat} (hi:i<=n):a.take n=a.take i++(a.drop i).take (n-i):=by
 rw [<- T4];congr 1;omega
def Mh.takeA {rk:Keyed->Int} {a b o:List Keyed} {n m i:Nat} (h:Mh rk a b o n m) (k:fY rk a) (hi:i<=n) (l:∀x ∈ (a.drop i).take (n-i),∀y ∈ b.take m,rk y<=rk x):Mh rk a b ((a.drop i).take (n-i)++o) i m:=by
 let e:=qU (a:=a) hi;let r:fY rk (a.take i++(a.drop i).take (n-i)):=e ▸ k.take;refine {?_,k.drop.take.app h.srt λu t v z=>h.la u (by rw [e];exact j0 _ t) v z,λy f x hx=>?_,λy f x hx=>?_}
 ·refine List.Perm.trans ?_ h.perm;rw [e];have:(b.take m++(a.drop i).take (n-i)).Perm ((a.drop i).take (n-i)++b.take m):=List.perm_append_comm;have:=(this.append_left (a.take i)).append_right o;simpa [w5] using this
 ·rcases j6.mp hx with hx|hx
  ·exact(C7.mp r).2.2 y f x hx
  ·exact h.la y (by rw [e];exact B9 _ f) x hx
 ·rcases j6.mp hx with hx|hx
  ·exact l x hx y f
  ·exact h.lb y f x hx
def Mh.takeB {rk:Keyed->Int} {a b o:List Keyed} {n m j:Nat} (h:Mh rk a b o n m) (k:fY rk b) (l:j<=m) (r:∀x ∈ (b.drop j).take (m-j),∀y ∈ a.take n,rk y<=rk x):Mh rk a b ((b.drop j).take (m-j)++o) n j:=by
 let e:=qU (a:=b) l;let t:fY rk (b.take j++(b.drop j).take (m-j)):=e ▸ k.take;refine {?_,k.drop.take.app h.srt λu z v B=>h.lb u (by rw [e];exact j0 _ z) v B,λy f x hx=>?_,λy f x hx=>?_}
 ·refine List.Perm.trans ?_ h.perm;rw [e];simp [w5]
 ·rcases j6.mp hx with hx|hx
  ·exact r x hx y f
  ·exact h.la y f x hx
 ·rcases j6.mp hx with hx|hx
  ·exact(C7.mp t).2.2 y f x hx
  ·exact h.lb y (by rw [e];exact B9 _ f) x hx
def Mh.pushA {rk:Keyed->Int} {a b o:List Keyed} {n m:Nat} {x:Keyed} (h:Mh rk a b o n m) (k:fY rk a) (r:1<=n) (e:a[n-1]?=some x) (f:∀y ∈ b.take m,rk y<=rk x):Mh rk a b (x::o) (n-1) m:=by
 let z:(a.drop (n-1)).take (n-(n-1))=[x]:=by rw [show n-(n-1)=1 by omega];exact iD e
 have:=h.takeA (i:=n-1) k ∎ (by rw [z];intro u l;cases v9.mp l;exact f);rwa [z] at this
def Mh.pushB {rk:Keyed->Int} {a b o:List Keyed} {n m:Nat} {x:Keyed} (h:Mh rk a b o n m) (k:fY rk b) (r:1<=m) (e:b[m-1]?=some x) (f:∀y ∈ a.take n,rk y<=rk x):Mh rk a b (x::o) n (m-1):=by
 let z:(b.drop (m-1)).take (m-(m-1))=[x]:=by rw [show m-(m-1)=1 by omega];exact iD e
 have:=h.takeB (j:=m-1) k ∎ (by rw [z];intro u l;cases v9.mp l;exact f);rwa [z] at this
def kZ {α:Type} {a:Array α} {n:Nat}:(a.extract 0 n).toList=a.toList.take n:=by
 rw [N2,J7];simp
def pX {α:Type} {a:Array α} {i n:Nat}:(a.extract i n).toList=(a.toList.drop i).take (n-i):=by
 rw [N2,J7]
def Mh.doneA {rk:Keyed->Int} {a b:Array Keyed} {o:Array Keyed} {m:Nat} (h:Mh rk a.toList b.toList o.toList.reverse 0 m) (f:fY rk b.toList):kG rk a.toList b.toList (a.extract 0 0++b.extract 0 m++o.reverse):=by
 let e:(a.extract 0 0++b.extract 0 m++o.reverse).toList=b.toList.take m++o.toList.reverse:=by
  rw [v5,v5,kZ,kZ,J8];simp
 refine {?_,?_}
 ·rw [e];simpa using h.perm
 ·rw [e];exact f.take.app h.srt h.lb
def Mh.doneB {rk:Keyed->Int} {a b:Array Keyed} {o:Array Keyed} {n:Nat} (h:Mh rk a.toList b.toList o.toList.reverse n 0) (f:fY rk a.toList):kG rk a.toList b.toList (a.extract 0 n++b.extract 0 0++o.reverse):=by
 let e:(a.extract 0 n++b.extract 0 0++o.reverse).toList=a.toList.take n++o.toList.reverse:=by
  rw [v5,v5,kZ,kZ,J8];simp
 refine {?_,?_}
 ·rw [e];simpa using h.perm
 ·rw [e];exact f.take.app h.srt h.la
def Mh.firstB {rk:Keyed->Int} {a b:Array Keyed} {o:Array Keyed} {n:Nat} (h:Mh rk a.toList b.toList o.toList.reverse n 1) (t:fY rk a.toList) (m:fY rk b.toList) (z:∀p,b.toList[0]?=some p->∀q ∈ a.toList,rk p<=rk q):kG rk a.toList b.toList (b.extract 0 1++a.extract 0 n++o.reverse):=by
 let l:(b.extract 0 1++a.extract 0 n++o.reverse).toList=b.toList.take 1++a.toList.take n++o.toList.reverse:=by
  rw [v5,v5,kZ,kZ,J8]
 refine {?_,?_}
 ·rw [l];exact(List.perm_append_comm.append_right _).trans h.perm
 ·rw [l];refine(m.take.app t.take λu hu v f=>?_).app h.srt λu hu v f=>?_
  ·let (i,k,e):=C3 hu;let r:i=0:=by simp at k;omega
   subst r;refine z u ?_ v (C1 f);have:=e7 k;rw [y7 ∎] at this;rw [this,e]
  ·rcases j6.mp hu with hu|hu
   ·exact h.lb u hu v f
   ·exact h.la u hu v f
noncomputable def Qw:Array Keyed->Array Keyed->StateT SortSt Sem (Array Keyed):=sortPriv% PySem.Builtin.mergeHi
abbrev NA:=Option (Array Keyed) × Nat × Nat × Array Keyed × Nat × Nat
abbrev FU:=Option (Array Keyed) × Nat × Nat × Array Keyed × Nat × Nat × Nat
abbrev MZ:=Option (Array Keyed) × Nat × Nat × Array Keyed × Nat
section
variable (x y:Array Keyed)
noncomputable def Xq (o:Array Keyed) (i j:Nat):=x.extract 0 i++y.extract 0 j++o.reverse
noncomputable def JA (o:Array Keyed) (i j:Nat):=y.extract 0 j++x.extract 0 i++o.reverse
noncomputable def MV (g i j:Nat) (o:Array Keyed) (c d:Nat):StateT SortSt Sem (ForInStep NA):=
 elem' y (j-1) >>= λp=>elem' x (i-1) >>= λq=>lt' p q >>= λr=>match r with
 | some w=>if w=true then elem' x (i-1) >>= λq=>
   if (i-1 == 0)=true then pure (.done (some (Xq x y (o.push q) (i-1) j),i-1,j,o.push q,c+1,0))
   else if c+1 ≥ g then pure (.done (none,i-1,j,o.push q,c+1,0)) else pure (.yield (none,i-1,j,o.push q,c+1,0))
  else elem' y (j-1) >>= λp=>
   if (j-1 == 1)=true then pure (.done (some (JA x y (o.push p) i (j-1)),i,j-1,o.push p,0,d+1))
   else if d+1 ≥ g then pure (.done (none,i,j-1,o.push p,0,d+1)) else pure (.yield (none,i,j-1,o.push p,0,d+1))
 | _=>pure (.done (some (Xq x y o i j),i,j,o,c,d))
noncomputable def LQ (i j:Nat) (o:Array Keyed) (g c d:Nat):StateT SortSt Sem (ForInStep FU):=
 elem' x (i-1) >>= λq=>
 if (i-1 == 0)=true then pure (.done (some (Xq x y (o.push q) (i-1) j),i-1,j,o.push q,g,c,d))
 else if (c<7 && d<7)=true then pure (.done (none,i-1,j,o.push q,g,c,d)) else pure (.yield (none,i-1,j,o.push q,g,c,d))
noncomputable def MW (i j:Nat) (o:Array Keyed) (g c d:Nat):StateT SortSt Sem (ForInStep FU):=
 elem' x (i-1) >>= λq=>fM true q y 0 j (j-1) >>= λr=>match r with
 | some t=>if j-t > 0 then
   if (t == 1)=true then pure (.done (some (JA x y (o++(y.extract t j).reverse) i t),i,t,o++(y.extract t j).reverse,g,c,j-t))
   else if (t == 0)=true then pure (.done (some (Xq x y (o++(y.extract t j).reverse) i t),i,t,o++(y.extract t j).reverse,g,c,j-t))
   else LQ x y i t (o++(y.extract t j).reverse) g c (j-t)
  else LQ x y i j o g c (j-t)
 | _=>pure (.done (some (Xq x y o i j),i,j,o,g,c,d))
noncomputable def LR (i j:Nat) (o:Array Keyed) (g c d:Nat):StateT SortSt Sem (ForInStep FU):=
 elem' y (j-1) >>= λp=>
 if (j-1 == 1)=true then pure (.done (some (JA x y (o.push p) i (j-1)),i,j-1,o.push p,g,c,d)) else MW x y i (j-1) (o.push p) g c d
noncomputable def LS (i j:Nat) (o:Array Keyed) (g c d:Nat):StateT SortSt Sem (ForInStep FU):=
 uS g >>= λ_=>elem' y (j-1) >>= λp=>fM false p x 0 i (i-1) >>= λr=>match r with
 | some t=>if i-t > 0 then
   if (t == 0)=true then pure (.done (some (Xq x y (o++(x.extract t i).reverse) t j),t,j,o++(x.extract t i).reverse,g,i-t,d))
   else LR x y t j (o++(x.extract t i).reverse) g (i-t) d
  else LR x y i j o g (i-t) d
 | _=>pure (.done (some (Xq x y o i j),i,j,o,g,c,d))
noncomputable def MX (i j:Nat) (o:Array Keyed) (g c d:Nat):StateT SortSt Sem (ForInStep FU):=if g > 1 then LS x y i j o (g-1) c d else LS x y i j o g c d
noncomputable def MU (i j:Nat) (o:Array Keyed) (g:Nat):StateT SortSt Sem (ForInStep MZ):=do
 let c <- forIn [0:x.size+y.size] ((none,i,j,o,0,0):NA) λ_ c=>MV x y g c.2.1 c.2.2.1 c.2.2.2.1 c.2.2.2.2.1 c.2.2.2.2.2
 match c.1 with
 | some r=>pure (.done (some r,c.2.1,c.2.2.1,c.2.2.2.1,g))
 | none=>do
  liftM (rule "list.sort.gallop")
  let c <- forIn [0:x.size+y.size] ((none,c.2.1,c.2.2.1,c.2.2.2.1,g+1,c.2.2.2.2.1,c.2.2.2.2.2):FU) λ_ c=>MX x y c.2.1 c.2.2.1 c.2.2.2.1 c.2.2.2.2.1 c.2.2.2.2.2.1 c.2.2.2.2.2.2
  match c.1 with
  | some r=>pure (.done (some r,c.2.1,c.2.2.1,c.2.2.2.1,c.2.2.2.2.1))
  | none=>do
   uS (c.2.2.2.2.1+1)
   pure (.yield (none,c.2.1,c.2.2.1,c.2.2.2.1,c.2.2.2.2.1+1))
def Qv:Qw x y=(do
  liftM (rule "list.sort.merge-hi")
  let q <- elem' x (x.size-1)
  if (x.size-1 == 0)=true then pure (Xq x y #[q] (x.size-1) y.size) else if (y.size == 1)=true then pure (JA x y #[q] (x.size-1) y.size) else do
  let st <- get
  let c <- forIn [0:x.size+y.size] ((none,x.size-1,y.size,#[q],gallopOf st):MZ) λ_ c=>MU x y c.2.1 c.2.2.1 c.2.2.2.1 c.2.2.2.2
  match c.1 with
  | some r=>pure r
  | none=>do unsupported "internal:list.sort.merge-bound"):=by
 refine congrArg (bind _) (funext λ_=>congrArg (bind _) (funext λp=>?_));dsimp only
 refine congr (congrArg (@ite _ _ _) rfl) 56#0
 ·let (r,c):=c;cases r with
  | some r=>rfl
  | none=>
   refine congrArg (bind _) (funext λ_=>congrArg (bind _) (funext λc=>?_));let (r,c):=c;cases r <;> rfl
 ·let (r,c):=c;cases r <;> rfl
end
def mE {n:Nat} {y:Keyed} (h:y ∈ l.take n):∃k,k<n/\l[k]?=some y:=by
 let (k,b,e):=C3 h;let a:k<n:=by simp at b;omega
 refine {k,a,?_};have:=e7 b;rw [y7 a] at this;rw [this,e]
def mI {n:Nat} {x:Keyed} (m:fY rk l) (e:l[n-1]?=some x):∀y ∈ l.take n,rk y<=rk x:=λy b=>by
 let (k,u,a):=mE b
 let (h,t):=e8.mp e
 let (r,f):=e8.mp a
 rcases L0 (show k<=n-1 by omega) with z|z
 ·subst z;rw [e] at a;cases a;exact j8 _
 ·rw [<- t,<- f];exact y4.mp m k (n-1) r h z
def Fx {i n:Nat} {y:Keyed} (h:y ∈ (l.drop i).take (n-i)):∃k,i<=k/\k<n/\l[k]?=some y:=by
 let (k,a,e):=mE h;rw [v7] at e;exact {i+k,∎,∎,e}
structure Nd (rk:Keyed->Int) (x y:Array Keyed) (i j:Nat) (o:Array Keyed) (n:Nat):Prop where
 m:Mh rk x.toList y.toList o.toList.reverse i j
 i1:1<=i
 ix:i<=x.size
 j2:2<=j
 jy:j<=y.size
 sz:n<=o.size
variable {x y o:Array Keyed} {i j n g c d:Nat} {st:SortSt} {p q:Keyed}
abbrev Am {β:Type} (rk:Keyed->Int) (x y:Array Keyed) (n:Nat):Nat × Nat × Array Keyed × β->Prop:=λc=>Nd rk x y c.1 c.2.1 c.2.2.1 n
def Nd.a (h:Nd rk x y i j o n) (R:Rn a₀ rk x y) (e:x.toList[i-1]?=some q) (l:∀v ∈ y.toList.take j,rk v<=rk q):(i-1=0->Wl rk x y (Xq x y (o.push q) (i-1) j))/\(¬ i-1=0->Nd rk x y (i-1) j (o.push q) (n+1)):=by
 let m:Mh rk x.toList y.toList (o.push q).toList.reverse (i-1) j:=by
  rw [P5,O0];exact h.m.pushA R.sx h.i1 e l
 let f:=h.ix;let b:=h.sz;exact {λz=>by rw [z] at m ⊢;exact m.doneA R.sy,λz=>{m,∎,∎,h.j2,h.jy,by rw [O3];omega}}
def Nd.b (h:Nd rk x y i j o n) (R:Rn a₀ rk x y) (a:∀p,y.toList[0]?=some p->∀q ∈ x.toList,rk p<=rk q) (e:y.toList[j-1]?=some p) (l:∀v ∈ x.toList.take i,rk v<=rk p):(j-1=1->Wl rk x y (JA x y (o.push p) i (j-1)))/\(¬ j-1=1->Nd rk x y i (j-1) (o.push p) (n+1)):=by
 let r:=h.j2;let m:Mh rk x.toList y.toList (o.push p).toList.reverse i (j-1):=by
  rw [P5,O0];exact h.m.pushB R.sy ∎ e l
 let f:=h.jy;let k:=h.sz;exact {λz=>by rw [z] at m ⊢;exact m.firstB R.sx R.sy a,λz=>{m,h.i1,h.ix,∎,∎,by rw [O3];omega}}
def Nd.le {a:Nat} (h:Nd rk x y i j o n) (l:a<=n):Nd rk x y i j o a:={h.m,h.i1,h.ix,h.j2,h.jy,u8 l h.sz}
def EE (u:k<=n+1) (C:12#0) (G:kindOf st=κ) (R:Rn a₀ rk x y) (J:∀p,y.toList[0]?=some p->∀q ∈ x.toList,rk p<=rk q) (h:Nd rk x y i j o n):wpS 7#0 A E s (MV x y g i j o c d) (λr m=>m=st/\Hb (Wl rk x y) (Am rk x y k) (Am rk x y (n+1)) r) st:=by
 let (p,v,B,H):=pG (x:=y) (i:=j-1) (by have:=h.j2;have:=h.jy;omega);let (q,D,F,I):=pG (x:=x) (i:=i-1) (by have:=h.i1;have:=h.ix;omega);refine i6 (bO v (i6 (bO D (i6 (C.lt (R.my p H) (R.mx q I) G ?_)))));dsimp only
 by_cases e:rk p<rk q
 ·rw [if_pos (decide_eq_true e)];let (l,t):=h.a R F λz f=>A7 (mI R.sy B z f) (y9 e);exact i6 (bO D (nY l t (λ_ z=>z.le u) beq_iff_eq))
 ·rw [if_neg (by simpa using e)];let (l,t):=h.b R J B λz f=>A7 (mI R.sx F z f) (O9.mp e);exact i6 (bO v (nY l t (λ_ z=>z.le u) beq_iff_eq))
def Qs (R:Rn a₀ rk x y) (h:Nd rk x y i j o n) (k:x[i-1]?=some q) (m:x.toList[i-1]?=some q) (l:∀v ∈ y.toList.take j,rk v<=rk q):wpS 7#0 A E s (LQ x y i j o g c d) (λr b=>b=st/\Hb (Wl rk x y) (Am rk x y n) (Am rk x y n) r) st:=by
 let (e,f):=h.a R m l;exact i6 (bO k (nY e (λz=>(f z).le (L3 _)) (λ_ z=>z) beq_iff_eq))
def EF (C:12#0) (K:kindOf st=κ) (R:Rn a₀ rk x y) (N:∀p,y.toList[0]?=some p->∀q ∈ x.toList,rk p<=rk q) (h:Nd rk x y i j o n):wpS 7#0 A E s (MW x y i j o g c d) (λr f=>f=st/\Hb (Wl rk x y) (Am rk x y n) (Am rk x y n) r) st:=by
 let (P,Q,S,X,W,U):=id h;let (q,l,D,L):=pG (x:=x) (i:=i-1) ∎;refine i6 (bO l (i6 (qK C K (R.mx q L) R.my R.sy.drop.take ∎ ∎ λt T J O=>?_)));dsimp only
 let a:∀v ∈ y.toList.take t,rk v<=rk q:=λv B=>y9 (J v (by rw [P1];exact B));by_cases G:j-t > 0
 ·rw [if_pos G];let m:Mh rk x.toList y.toList (o++(y.extract t j).reverse).toList.reverse i t:=by
   rw [v5,O0,J8,List.reverse_reverse,pX];refine P.takeB R.sy T λu M v B=>?_;let (k,F,H,I):=Fx M;exact A7 (mI R.sx D v B) (O k u F H (by rw [O8];exact I))
  by_cases e:(t == 1)=true
  ·rw [if_pos e];refine k7 {ρ,.out ?_};rw [beq_iff_eq.mp e] at m ⊢;exact m.firstB R.sx R.sy N
  rw [if_neg e];by_cases b:(t == 0)=true
  ·rw [if_pos b];refine k7 {ρ,.out ?_};rw [beq_iff_eq.mp b] at m ⊢;exact m.doneB R.sx
  rw [if_neg b];let F:¬ t=1:=λz=>e 57#0;let H:¬ t=0:=λz=>b 57#0;exact Qs R {m,Q,S,∎,∎,by rw [P6];omega} l D a
 ·rw [if_neg G];obtain rfl:t=j:=∎;exact Qs R h l D a
def Qt (C:12#0) (m:kindOf st=κ) (R:Rn a₀ rk x y) (f:∀p,y.toList[0]?=some p->∀q ∈ x.toList,rk p<=rk q) (h:Nd rk x y i j o n) (ep:y[j-1]?=some p) (u:y.toList[j-1]?=some p) (l:∀v ∈ x.toList.take i,rk v<=rk p):wpS 7#0 A E s (LR x y i j o g c d) (λr a=>a=st/\Hb (Wl rk x y) (Am rk x y n) (Am rk x y n) r) st:=by
 let (k,t):=h.b R f u l;refine i6 (bO ep ?_);by_cases e:(j-1 == 1)=true
 ·rw [if_pos e];exact k7 {ρ,.out (k (beq_iff_eq.mp e))}
 ·rw [if_neg e];exact EF C m R f ((t λz=>e 57#0).le (L3 _))
def Qu {st₀:SortSt} (C:12#0) (F:kindOf st₀=κ) (K:Sg st₀ st) (R:Rn a₀ rk x y) (J:∀p,y.toList[0]?=some p->∀q ∈ x.toList,rk p<=rk q) (h:Nd rk x y i j o n):wpS 7#0 A E s (LS x y i j o g c d) (λr b=>Sg st₀ b/\Hb (Wl rk x y) (Am rk x y n) (Am rk x y n) r) st:=by
 let (U,Y,Z,T,L,X):=id h;let (p,G,l,M):=pG (x:=y) (i:=j-1) ∎;refine i6 (mC K λB a=>i6 (bO G (i6 (qJ C (a.kind.trans F) (R.my p M) R.mx R.sx.drop.take ∎ ∎ λt W P S=>?_))));dsimp only
 let f:∀v ∈ x.toList.take t,rk v<=rk p:=λv D=>P v (by rw [P1];exact D);refine N1 ?_ λr b (z:b=B/\_)=>{z.1 ▸ a,z.2};by_cases I:i-t > 0
 ·rw [if_pos I];let m:Mh rk x.toList y.toList (o++(x.extract t i).reverse).toList.reverse t j:=by
   rw [v5,O0,J8,List.reverse_reverse,pX];refine U.takeA R.sx W λu Q v D=>?_;let (k,H,N,O):=Fx Q;exact A7 (mI R.sy l v D) (y9 (S k u H N (by rw [O8];exact O)))
  by_cases e:(t == 0)=true
  ·rw [if_pos e];refine k7 {ρ,.out ?_};rw [beq_iff_eq.mp e] at m ⊢;exact m.doneA R.sy
  rw [if_neg e];let H:¬ t=0:=λz=>e 57#0;exact Qt C (a.kind.trans F) R J {m,∎,∎,T,L,by rw [P6];omega} G l f
 ·rw [if_neg I];obtain rfl:t=i:=∎;exact Qt C (a.kind.trans F) R J h G l f
def ED {st₀:SortSt} (C:12#0) (b:kindOf st₀=κ) (l:Sg st₀ st) (R:Rn a₀ rk x y) (m:∀p,y.toList[0]?=some p->∀q ∈ x.toList,rk p<=rk q) (h:Nd rk x y i j o n):wpS 7#0 A E s (MU x y i j o g) (λr a=>Sg st₀ a/\Hb (Wl rk x y) (λ_=>False) (Am rk x y (n+1)) r) st:=by
 refine i6 (kJ (D:=Wl rk x y) (G:=λt=>Am rk x y (n+t)) (G':=Am rk x y (n+1)) (S:=λa=>a=st) h rfl (λt c a h e=>?_) (λc h=>h.le (by have:=h.i1;have:=h.ix;omega)) λr c a e f=>?_)
 ·cases e;exact EE (Q8 (Q7 n t)) C (l.kind.trans b) R m h
 cases e;cases f with
 | out h=>exact k7 {l,.out h}
 | on h=>
  refine i6 (S5 (F1 {ρ,?_}));refine i6 (kJ (D:=Wl rk x y) (G:=λ_=>Am rk x y (n+1)) (G':=Am rk x y (n+1)) (S:=Sg st₀) h l (λt c a h e=>?_) (λc h=>h) λr c a e f=>?_)
  ·dsimp only [MX];by_cases u:c.2.2.2.1 > 1
   ·rw [if_pos u];exact Qu C b e R m h
   ·rw [if_neg u];exact Qu C b e R m h
  cases f with
  | out h=>exact k7 {e,.out h}
  | on h=>exact i6 (mC e λv k=>k7 {(k),ρ,h})
def Kk {Q:Array Keyed->SortSt->Prop} (C:12#0) (P:kindOf st=κ)
  (I:∀p ∈ x.toList,p ∈ a₀.toList) (O:∀p ∈ y.toList,p ∈ a₀.toList) (l:fY rk x.toList) (u:fY rk y.toList) (K:1<=x.size) (W:1<=y.size)
  (H:∀p,y.toList[0]?=some p->∀q ∈ x.toList,rk p<=rk q) (N:∀p ∈ y.toList,∀q,x.toList[x.size-1]?=some q->rk p<=rk q)
  (h:∀r a,kG rk x.toList y.toList r->Sg st a->Q r a):wpS 7#0 A E s (Qw x y) Q st:=by
 rw [Qv];let (F,U,B,_):=pG (x:=x) (i:=x.size-1) ∎;refine i6 (S5 (F1 {ρ,i6 (bO U ?_)}));let b:Mh rk x.toList y.toList (#[F]:Array Keyed).toList.reverse (x.size-1) y.size:=by
  let z:Mh rk x.toList y.toList [] x.size y.size:={by rw [v6 9#0,v6 9#0];simp,J5,λ_ _ _ h=>(nomatch h),λ_ _ _ h=>(nomatch h)};exact z.pushA l K B λv L=>N v (C1 L) F B
 by_cases f:(x.size-1 == 0)=true
 ·rw [if_pos f];rw [beq_iff_eq.mp f] at b ⊢;exact k7 (h _ _ (b.doneA u) Sg.refl)
 rw [if_neg f];let J:¬ x.size-1=0:=λz=>f 57#0;by_cases k:(y.size == 1)=true
 ·rw [if_pos k];rw [beq_iff_eq.mp k] at b ⊢;exact k7 (h _ _ (b.firstB l u H) Sg.refl)
 rw [if_neg k];let M:¬ y.size=1:=λz=>k 57#0;refine i6 (M6 (i6 (kJ (D:=Wl rk x y) (G:=λt=>Am rk x y (t+1)) (G':=λ_=>False) (S:=Sg st) {b,(by omega:1<=x.size-1),(by omega:x.size-1<=x.size),(by omega:2<=y.size),g9 _,g9 _} Sg.refl (λt c a h e=>ED C P e {(I),O,l,u} H h) (λc h=>?_) λr c a e T=>?_)))
 ·have:=h.m.len;have:=h.sz;have:=h.i1;have:=h.j2;have:=h.ix;have:=h.jy;rw [List.length_reverse,u9,u9,u9] at *;omega
 cases T with
 | out z=>exact k7 (h _ _ z e)
 | on z=>exact z.elim
def dd {α:Type} (l:List α) (a b:Nat):l.drop (a+b)=(l.drop a).drop b:=by rw [E7]
theorem Ny {α:Type} (b:Nat):∀(m:List α) (a:Array α) (j:Nat),b+j+m.length<=a.size ->
  ((m.zipIdx j).foldl (λa (x:α × Nat)=>match x with|(p,i)=>a.setIfInBounds (b+i) p) a).toList=a.toList.take (b+j)++(m++a.toList.drop (b+j+m.length))
 | [],a,j,h=>by simp
 | p::r,a,j,h=>by
  rw [List.zipIdx_cons,List.foldl_cons]
  simp only [p8] at h
  rw [Ny b r _ (j+1) (by simp;omega)]
  simp only [Array.toList_setIfInBounds,p8]
  let c:b+j<a.toList.length:=by simp;omega
  rw [show b+(j+1)=b+j+1 by omega]
  let e:(a.toList.set (b+j) p).take (b+j+1)=a.toList.take (b+j)++[p]:=by
   rw [List.take_set,List.take_succ_eq_append_getElem c,List.set_append_right _ _ (by simp;omega)];simp [B2 (C5 c)];have:b+j-min (b+j) a.size=0:=by simp at c;omega
   rw [this];rfl
  let d:(a.toList.set (b+j) p).drop (b+j+1+r.length)=a.toList.drop (b+j+(r.length+1)):=by
   rw [List.drop_set_of_lt ∎];congr 1;omega
  rw [e,d];simp
def Vn {α:Type} (l r:List α) {a b c k m:Nat} (d:k<=b) (e:m<=c):l.take (a+k)++(r++l.drop (a+k+(b-k+m)))=l.take a++((((l.drop a).take b).take k++(r++((l.drop (a+b)).take c).drop m))++l.drop (a+b+c)):=by
 rw [T4,P2,B2 d,w5,w5,w5];congr 3;rw [List.drop_take,E7,show a+k+(b-k+m)=a+b+m by omega];rw [show a+b+c=(a+b+m)+(c-m) by omega,dd _ (a+b+m) (c-m),z9]
def vU {lo hi:Nat} (a:hi<=xs.size):((xs.toList.drop lo).take (hi-lo)).length=hi-lo:=by rw [u6,D8,u9,B2 (Nat.sub_le_sub_right a lo)]
def Eh {rk:Keyed->Int} {lo hi:Nat} (d:hi<=xs.size) (h:nV rk xs lo hi):fY rk ((xs.toList.drop lo).take (hi-lo)):=by
 refine y4.mpr λi j c a b=>?_;let e:=vU d ▸ a;have:=h (lo+i) (lo+j) ∎ ∎ ∎;rw [jN (p:=xs[lo+i]'∎) (y0 ∎),jN (p:=xs[lo+j]'∎) (y0 ∎)] at this;simpa using this
def vO {rk:Keyed->Int} {lo hi:Nat} (c:hi<=xs.size) (h:fY rk ((xs.toList.drop lo).take (hi-lo))):nV rk xs lo hi:=by
 intro i j b a d;rcases L0 a with z|z
 ·subst z;exact j8 _
 ·have:=y4.mp h (i-lo) (j-lo) (by rw [vU c];omega) (by rw [vU c];omega) ∎;rw [jN (p:=xs[i]'∎) (y0 ∎),jN (p:=xs[j]'∎) (y0 ∎)];simpa [L7 b,L7 (u8 b a)] using this
section
variable {M:Model} {σ:Type}
def Ts {t:σ} {Q:PUnit->σ->Prop} {st:σ} (h:Q ⟨⟩ t):wpS M A E s (set t:StateT σ Sem PUnit) Q st:=by
 unfold wpS;rw [StateT.run_set];exact i8 {(rfl),h}
end
def yX (i:Nat):mergeAt' i=(do
  let t <- get
  let (some (sa,na,pw),some (sb,nb,_)):=((pendingOf t)[i]?,(pendingOf t)[i+1]?)|unsupported "internal:list.sort.pending"
  set (SortSt.mk' (kindOf t) (arrOf t) (((pendingOf t).setIfInBounds i (sa,na+nb,pw)).eraseIdxIfInBounds (i+1)) (gallopOf t) (failedOf t))
  let some k <- fM false (<- elem' (arrOf t) sb) (arrOf t) sa na 0|return false
  let (sa,na):=(sa+k,na-k)
  if na == 0 then return true
  let some nb <- fM true (<- elem' (arrOf t) (sa+na-1)) (arrOf t) sb nb (nb-1)|return false
  if nb == 0 then return true
  let x:=(arrOf t).extract sa sb
  let y:=(arrOf t).extract sb (sb+nb)
  let b <- if na<=nb then DW x y else Qw x y
  modify λt=>setArr t (b.toList.zipIdx.foldl (λa (p,j)=>a.setIfInBounds (sa+j) p) (arrOf t))
  return (failedOf (<- get)).isNone):=rfl
def merged_ok {a a':Array Keyed} {T c AB' D:List Keyed} {lo hi:Nat} (e:a.toList=T++(c++D)) (b:a'.toList=T++(AB'++D)) (d:AB'.Perm c) (i:fY rk AB') (g:T.length=lo) (f:c.length=hi-lo) (l:lo<=hi):
  a'.Perm a/\nV rk a' lo hi/\∀k,(k<lo\/hi<=k)->a'[k]?=a[k]?:=by
 let h:AB'.length=hi-lo:=d.length_eq.trans f;let j:hi<=a'.size:=by
  have:=congrArg List.length b;simp at this;omega
 refine {N8.mpr ?_,vO j ?_,λk hk=>?_}
 ·rw [e,b];exact(d.append_right D).append_left T
 ·rw [b,<- g,List.drop_left,g,<- h,List.take_left];exact i
 ·rw [<- R0,<- R0,e,b];rcases hk with hk|hk
  ·rw [B1 ∎,B1 ∎]
  ·rw [C8 ∎,C8 ∎,C8 ∎,C8 ∎,h,f]
def xB {st:SortSt} {i sa na pa sb nb pb:Nat} {Q:Bool->SortSt->Prop} (C:12#0) (hB:SB κ a₀ st)
  (p1:(pendingOf st)[i]?=some (sa,na,pa)) (p2:(pendingOf st)[i+1]?=some (sb,nb,pb)) (es:sb=sa+na) (hz:sb+nb<=a₀.size) (h1:1<=na) (h2:1<=nb) (s1:nV rk 43#0 sa sb) (s2:nV rk 43#0 sb (sb+nb))
  (h:∀st',SB κ a₀ st'->pendingOf st'=((pendingOf st).setIfInBounds i (sa,na+nb,pa)).eraseIdxIfInBounds (i+1)->nV rk 36#0 sa (sb+nb)->(∀k,(k<sa\/sb+nb<=k)->(arrOf st')[k]?=(arrOf st)[k]?)->Q true st'):
  wpS 7#0 A E s (mergeAt' i) Q st:=by
 rw [yX];refine i6 (M6 ?_);rw [p1,p2];dsimp only
 refine i6 (Ts ?_);let hsz:(arrOf st).size=a₀.size:=hB.size;let mem:∀x ∈ (arrOf st).toList,x ∈ a₀.toList:=λx hx=>(N8.mp hB.perm).mem_iff.mp hx;let (b0,e0,f0,g0):=pG (x:=arrOf st) (i:=sb) ∎;let S1:=Eh ∎ s1;let S2:=Eh ∎ s2;rw [show sb-sa=na by omega] at S1;rw [show sb+nb-sb=nb by omega] at S2;let sz:(arrOf st).toList.length=a₀.size:=by simpa using hsz
 let lA:(((arrOf st).toList.drop sa).take na).length=na:=by rw [u6,D8,sz,B2 ∎]
 let lB:(((arrOf st).toList.drop sb).take nb).length=nb:=by rw [u6,D8,sz,B2 ∎]
 let b0B:∀v ∈ ((arrOf st).toList.drop sb).take nb,rk b0<=rk v:=by
  obtain⟨nb',rfl⟩:∃n,nb=n+1:={nb-1,∎};let hlt:sb<(arrOf st).toList.length:=∎;rw [D3 hlt,List.take_succ_cons] at S2 ⊢;rw [e7 hlt] at f0;cases f0;intro v hv;rcases i3.mp hv with rfl|hv
  ·exact j8 _
  ·exact(u7.mp S2).1 v hv
 refine i6 (bO e0 ?_);refine i6 (qJ C hB.kind (mem b0 g0) mem S1 ∎ ∎ λk k1 k2 k3=>?_);dsimp only
 by_cases c1:(na-k == 0)=true
 ·rw [if_pos c1];let ek:k=na:=by have:=beq_iff_eq.mp c1;omega
  subst ek;refine k7 (h _ {(hB.perm),hB.kind,hB.failed} rfl ?_ λ_ _=>rfl);refine vO (by rw [show (arrOf (SortSt.mk' (kindOf st) 43#0 (((pendingOf st).setIfInBounds i (sa,k+nb,pa)).eraseIdxIfInBounds (i+1)) (gallopOf st) (failedOf st)))=arrOf st from rfl];omega) ?_;show fY rk (((arrOf st).toList.drop sa).take (sb+nb-sa));rw [show sb+nb-sa=k+nb by omega,T4,E7,<- es];exact S1.app S2 λu hu v hv=>A7 (k2 u hu) (b0B v hv)
 rw [if_neg c1];let hk:k<na:=by
  have:¬ na-k=0:=λz=>c1 57#0;omega
 let ix:sa+k+(na-k)=sb:=by rw [es,Nat.add_assoc,L7 k1]
 let (a1,e1,fa1,g1):=pG (x:=arrOf st) (i:=sb-1) ∎;rw [ix];let lastA:∀v ∈ ((arrOf st).toList.drop sa).take na,rk v<=rk a1:=λv hv=>by
  let (t,t1,t2):=mE hv;rw [v7] at t2;have:=s1 (sa+t) (sb-1) ∎ ∎ ∎;rwa [jN (show (arrOf st)[sa+t]?=some v by simpa using t2),jN (show (arrOf st)[sb-1]?=some a1 by simpa using fa1)] at this
 refine i6 (bO e1 ?_);refine i6 (qK C hB.kind (mem a1 g1) mem S2 ∎ ∎ λm m1 m2 m3=>?_);dsimp only
 let hiB:∀v ∈ ((arrOf st).toList.drop (sb+m)).take (nb-m),rk a1<=rk v:=λv hv=>by
  let (t,t1,t2):=mE hv;rw [v7] at t2;exact m3 (m+t) v ∎ ∎ (by rw [<- t2];congr 1;omega)
 by_cases c2:(m == 0)=true
 ·rw [if_pos c2];let em:m=0:=beq_iff_eq.mp c2;subst em;refine k7 (h _ {(hB.perm),hB.kind,hB.failed} rfl ?_ λ_ _=>rfl);refine vO (by show sb+nb<=(arrOf st).size;omega) ?_;show fY rk (((arrOf st).toList.drop sa).take (sb+nb-sa));rw [show sb+nb-sa=na+nb by omega,T4,E7,<- es];exact S1.app S2 λu hu v hv=>A7 (lastA u hu) (hiB v hv)
 rw [if_neg c2];let hm:1<=m:=by
  have:¬ m=0:=λz=>c2 57#0;omega
 let xl:((arrOf st).extract (sa+k) sb).toList=(((arrOf st).toList.drop sa).take na).drop k:=by
  rw [pX,List.drop_take,E7];congr 1;omega
 let yl:((arrOf st).extract sb (sb+m)).toList=(((arrOf st).toList.drop sb).take nb).take m:=by
  rw [pX,P2];congr 1;omega
 let dec:(arrOf st).toList=(arrOf st).toList.take sa++((((arrOf st).toList.drop sa).take na++((arrOf st).toList.drop sb).take nb)++(arrOf st).toList.drop (sb+nb)):=by
  rw [w5,dd _ sb nb,z9];rw [show (arrOf st).toList.drop sb=((arrOf st).toList.drop sa).drop na by rw [E7,es],z9,z9]
 have post:∀(r:Array Keyed) (st':SortSt),kG rk ((arrOf st).extract (sa+k) sb).toList ((arrOf st).extract sb (sb+m)).toList r ->
   Sg (SortSt.mk' (kindOf st) 43#0 (((pendingOf st).setIfInBounds i (sa,na+nb,pa)).eraseIdxIfInBounds (i+1)) (gallopOf st) (failedOf st)) st' ->
   Q true (setArr st' (r.toList.zipIdx.foldl (λa (x:Keyed × Nat)=>match x with|(p,j)=>a.setIfInBounds (sa+k+j) p) 36#0)):=by
  intro r st' hW hS;let arr:arrOf st'=arrOf st:=hS.arr;let (wp,ws):=hW;rw [xl,yl] at wp;let rl:r.toList.length=(na-k)+m:=by
   rw [wp.length_eq,j5,D8,lA,u6,lB,B2 m1]
  have e':(r.toList.zipIdx.foldl (λa (x:Keyed × Nat)=>match x with|(p,j)=>a.setIfInBounds (sa+k+j) p) 43#0).toList =
    (arrOf st).toList.take sa++(((((arrOf st).toList.drop sa).take na).take k++(r.toList++(((arrOf st).toList.drop sb).take nb).drop m))++(arrOf st).toList.drop (sb+nb)):=by
   rw [Ny (sa+k) r.toList 43#0 0 (by rw [rl];omega),rl,Nat.add_zero,Vn _ _ k1 m1,es]
  let hsub:∀u ∈ r.toList,u ∈ (((arrOf st).toList.drop sa).take na).drop k\/u ∈ (((arrOf st).toList.drop sb).take nb).take m:=λu hu=>j6.mp (wp.mem_iff.mp hu);let hperm:((((arrOf st).toList.drop sa).take na).take k++(r.toList++(((arrOf st).toList.drop sb).take nb).drop m)).Perm (((arrOf st).toList.drop sa).take na++((arrOf st).toList.drop sb).take nb):=by
   let e1:((arrOf st).toList.drop sa).take na=(((arrOf st).toList.drop sa).take na).take k++(((arrOf st).toList.drop sa).take na).drop k:=(z9 k _).symm;let e2:((arrOf st).toList.drop sb).take nb=(((arrOf st).toList.drop sb).take nb).take m++(((arrOf st).toList.drop sb).take nb).drop m:=(z9 m _).symm
   conv=>rhs;rw [e1,e2]
   rw [w5];refine List.Perm.append_left _ ?_;rw [<- w5];exact wp.append_right _
  let hsrt:fY rk ((((arrOf st).toList.drop sa).take na).take k++(r.toList++(((arrOf st).toList.drop sb).take nb).drop m)):=by
   refine S1.take.app (ws.app S2.drop λu hu v hv=>?_) λu hu v hv=>?_
   ·let hv':v ∈ ((arrOf st).toList.drop (sb+m)).take (nb-m):=by rwa [List.drop_take,E7] at hv
    rcases hsub u hu with z|z
    ·exact A7 (lastA u (F3 z)) (hiB v hv')
    ·exact A7 (y9 (m2 u (by rwa [P2,B2 m1] at z))) (hiB v hv')
   ·let hu':rk u<=rk b0:=k2 u (by rwa [P2,B2 k1] at hu);rcases j6.mp hv with z|z
    ·rcases hsub v z with z|z
     ·let e1:((arrOf st).toList.drop sa).take na=(((arrOf st).toList.drop sa).take na).take k++(((arrOf st).toList.drop sa).take na).drop k:=(z9 k _).symm;rw [e1] at S1;exact(C7.mp S1).2.2 u hu v z
     ·exact A7 hu' (b0B v (C1 z))
    ·exact A7 hu' (b0B v (F3 z))
  let (g1,g2,g3):=merged_ok (rk:=rk) (lo:=sa) (hi:=sb+nb) dec e' hperm hsrt (by rw [u6,sz,B2 ∎]) (by rw [j5,lA,lB];omega) ∎;refine h _ {?_,hS.kind.trans hB.kind,hS.failed.trans hB.failed} (hS.pend) ?_ ?_
  ·show (r.toList.zipIdx.foldl _ 36#0).Perm a₀;rw [arr];exact g1.trans hB.perm
  ·show nV rk (r.toList.zipIdx.foldl _ 36#0) _ _;rw [arr];exact g2
  ·show ∀k',_->(r.toList.zipIdx.foldl _ 36#0)[k']?=_;rw [arr];exact g3
 have fin:∀(r:Array Keyed) (st':SortSt),kG rk ((arrOf st).extract (sa+k) sb).toList ((arrOf st).extract sb (sb+m)).toList r ->
   Sg (SortSt.mk' (kindOf st) 43#0 (((pendingOf st).setIfInBounds i (sa,na+nb,pa)).eraseIdxIfInBounds (i+1)) (gallopOf st) (failedOf st)) st'->failedOf st'=none:=
  λr st' _ hS=>hS.failed.trans hB.failed
 let mx:∀p ∈ ((arrOf st).extract (sa+k) sb).toList,p ∈ a₀.toList:=λp hp=>by
  rw [xl] at hp;exact mem p (F3 (C1 (F3 hp)))
 let my:∀p ∈ ((arrOf st).extract sb (sb+m)).toList,p ∈ a₀.toList:=λp hp=>by
  rw [yl] at hp;exact mem p (F3 (C1 (C1 hp)))
 let sx:((arrOf st).extract (sa+k) sb).size=na-k:=by rw [<- u9,xl,D8,lA]
 let hx:1<=((arrOf st).extract (sa+k) sb).size:=by rw [sx];omega
 let hy:1<=((arrOf st).extract sb (sb+m)).size:=by rw [<- u9,yl,u6,lB,B2 m1];exact hm
 let hf:∀p,((arrOf st).extract sb (sb+m)).toList[0]?=some p->∀q ∈ ((arrOf st).extract (sa+k) sb).toList,rk p<=rk q:=λp hp q hq=>by
  have:p=b0:=by
   rw [yl,y7 ∎,y7 ∎,v7] at hp;simp only [Nat.add_zero] at hp;rw [f0] at hp;exact(Option.some.inj hp).symm
  subst this;rw [xl] at hq;let (t,t1,t2):=nK hq;let tl:t<na:=lA ▸ (e8.mp t2).1;rw [y7 tl,v7] at t2;exact y9 (k3 t q t1 tl t2)
 let hl:∀p ∈ ((arrOf st).extract sb (sb+m)).toList,∀q,((arrOf st).extract (sa+k) sb).toList[((arrOf st).extract (sa+k) sb).size-1]?=some q->rk p<=rk q:=λp hp q hq=>by
  have:q=a1:=by
   rw [sx,xl,v7,y7 ∎,v7,show sa+(k+(na-k-1))=sb-1 by omega,fa1] at hq;exact(Option.some.inj hq).symm
  subst this;rw [yl] at hp;exact y9 (m2 p (by rwa [P2,B2 m1] at hp))
 let sx:fY rk ((arrOf st).extract (sa+k) sb).toList:=by rw [xl];exact S1.drop
 let sy:fY rk ((arrOf st).extract sb (sb+m)).toList:=by rw [yl];exact S2.take
 by_cases c3:na-k<=m
 ·rw [if_pos c3];refine i6 (Tt C hB.kind mx my sx sy hx hy hf hl λr st' hW hS=>?_);refine i6 (P0 (i6 (M6 (k7 ?_))));have:=post r st' hW hS;rw [show failedOf (setArr st' (r.toList.zipIdx.foldl (λa (x:Keyed × Nat)=>match x with|(p,j)=>a.setIfInBounds (sa+k+j) p) 36#0))=none from fin r st' hW hS];exact this
 ·rw [if_neg c3];refine i6 (Kk C hB.kind mx my sx sy hx hy hf hl λr st' hW hS=>?_);refine i6 (P0 (i6 (M6 (k7 ?_))));have:=post r st' hW hS;rw [show failedOf (setArr st' (r.toList.zipIdx.foldl (λa (x:Keyed × Nat)=>match x with|(p,j)=>a.setIfInBounds (sa+k+j) p) 36#0))=none from fin r st' hW hS];exact this
def Ww:∀n,n<128->n<=2 * minRun' n n 0:=⋯
inductive Kc (rk:Keyed->Int) (a₀:Array Keyed) (lo:Nat) (st:SortSt):Prop
 | no (_:lo=0) (_:pendingOf st=#[])
 | one (_:pendingOf st=#[(0,lo,0)]) (_:1<=lo) (_:a₀.size<=2 * lo) (_:nV rk 43#0 0 lo)
 | two (m:Nat) (_:lo=a₀.size) (_:∃p,pendingOf st=#[(0,m,p),(m,a₀.size-m,0)]) (_:1<=m) (_:m<a₀.size) (_:nV rk 43#0 0 m) (_:nV rk 43#0 m a₀.size)
def nV.like {rk:Keyed->Int} {b:Array Keyed} {lo hi:Nat} (h:nV rk xs lo hi) (e:∀k,lo<=k->k<hi->b[k]?=xs[k]?):nV rk b lo hi:=λi j c a d=>by
 rw [jG (e i c ∎),jG (e j ∎ d)]
 exact h i j c a d
def xA {st:SortSt} {Q:Unit->SortSt->Prop} (C:12#0) (hB:SB κ a₀ st) (hp:pendingOf st=#[]) (h1:1<=a₀.size) (h2:a₀.size<128)
  (h:∀st',SB κ a₀ st'->nV rk 36#0 0 a₀.size->Q () st'):wpS 7#0 A E s sortRuns' Q st:=by
 rw [sortRuns'_eq];refine i6 (M6 ?_);dsimp only
 let mp:=Ww _ h2;simp only [hB.size];generalize minRun' a₀.size a₀.size 0=mr at mp ⊢;refine i6 (N1 (F2
  (I:=λx c st'=>∃lo,c=(none,lo)/\SB κ a₀ st'/\Kc rk a₀ lo st'/\lo<=a₀.size/\(x<=lo\/lo=a₀.size))
  (Q:=λc st'=>c=(none,a₀.size)/\SB κ a₀ st'/\Kc rk a₀ a₀.size st') ?step ?fin {0,ρ,hB,.no rfl hp,∎,∎}) ?post)
 case fin=>
  rintro c st' ⟨lo,rfl,hB',hR,hlo,hx⟩;have:lo=a₀.size:=∎;subst this;exact {(rfl),hB',hR}
 case step=>
  rintro x c st' _ hx ⟨lo,rfl,hB',hR,hlo,hx'⟩;dsimp only
  by_cases hge:lo ≥ a₀.size
  ·rw [if_pos hge];have:lo=a₀.size:=∎;subst this;exact k7 {(rfl),hB',hR}
  rw [if_neg hge];refine i6 (Hi (st₀:=st') (lo:=lo) C ∎ ∎ {(hB'),sZ.refl,ρ} λn st2 hK2 n1 n2 hs2=>?_);dsimp only
  let key:∃n',1<=n'/\n' + lo<=a₀.size/\(mr<=n'\/n' + lo=a₀.size)/\(n<mr/\n'=min (a₀.size-lo) mr\/¬ n<mr/\n'=n):=by
   by_cases hlt:n<mr
   ·exact {_,∎,∎,∎,.inl {(hlt),ρ}}
   ·exact {n,n1,∎,∎,.inr {(hlt),ρ}}
  obtain⟨n',c1,c2,c3,⟨hlt,rfl⟩|⟨hlt,rfl⟩⟩:=key;rw [if_pos hlt];refine i6 (S5 (F1 {ρ,?_}));refine i6 (Ao (st₀:=st') (lo:=lo) C ∎ ∎ hK2 hs2 λst3 hK3 hs3=>?_);simp only [Bool.not_true,z7,if_false];generalize min (a₀.size-lo) mr=n' at hs3 c1 c2 c3 ⊢;clear hK2 hs2;rotate_left;rw [if_neg hlt];revert hs2 hK2;generalize st2=st3;intro hK3 hs3
  all_goals
   refine i6 (M6 ?_);rcases hR with ⟨rfl,e⟩|⟨e,l1,l2,sg⟩|⟨_,e,_⟩
   ·rw [hK3.pend.trans e];refine i6 (P0 (k7 {0+n',ρ,{(hK3.perm),hK3.kind,hK3.failed},.one ?_ ∎ ∎ hs3,∎,.inl ∎}));show (pendingOf st3).push (0,n',0)=_;rw [hK3.pend.trans e,O8];rfl
   ·let e:=hK3.pend.trans e;rw [e];let en:n' + lo=a₀.size:=∎;refine i6 (N1 (F2 (I:=λ_ c st4=>c=(none,())/\st4=st3) (Q:=λc st4=>c=(none,())/\st4=st3) (λz c st4 _ hz h=>?_) (λ_ _ z=>z) {(rfl),ρ}) ?_)
    ·let (rfl,rfl):=h;refine i6 (M6 ?_);rw [e];exact k7 {(rfl),ρ}
    ·rintro c st4 ⟨rfl,rfl⟩;refine i6 (P0 (i6 (P0 (k7 {lo+n',ρ,{(hK3.perm),hK3.kind,hK3.failed},.two lo ∎ ?_ l1 ∎ ?_ ?_,∎,.inl ∎}))))
     ·show ∃p,((pendingOf st4).modify ((pendingOf st4).size-1) _).push (lo,n',0)=_;rw [e,show n'=a₀.size-lo by omega];exact {_,ρ}
     ·exact sg.like λk _ k2=>hK3.like k k2
     ·rw [<- en,Nat.add_comm];exact hs3
   ·exact absurd e ∎
 case post=>
  rintro c st' ⟨rfl,hB',hR⟩;dsimp only
  refine i6 (N1 (F2
   (I:=λx c st2=>c=(none,())/\((SB κ a₀ st2/\nV rk (arrOf st2) 0 a₀.size/\(pendingOf st2).size<=1)\/(st2=st'/\x=0/\∃m p,pendingOf st'=#[(0,m,p),(m,a₀.size-m,0)]/\1<=m/\m<a₀.size/\nV rk 36#0 0 m/\nV rk 36#0 m a₀.size)))
   (Q:=λc st2=>c=(none,())/\SB κ a₀ st2/\nV rk (arrOf st2) 0 a₀.size) ?step3 ?fin3 {ρ,?ini}) ?post3)
  case ini=>
   rcases hR with ⟨z,_⟩|⟨e,_,_,sg⟩|⟨m,_,⟨p,e⟩,l1,l2,s1,s2⟩
   ·omega
   ·exact .inl {hB',sg,by rw [e];exact g9 1}
   ·exact .inr {(rfl),ρ,m,p,e,l1,l2,s1,s2}
  case fin3=>
   rintro c st2 ⟨rfl,⟨B,R,_⟩|⟨_,z,_⟩⟩
   ·exact {(rfl),B,R}
   ·omega
  case step3=>
   rintro x c st2 _ hx ⟨rfl,⟨B,R,hz⟩|⟨rfl,_,m,p,e,l1,l2,s1,s2⟩⟩
   ·refine i6 (M6 ?_);rw [if_pos hz];exact k7 {(rfl),B,R}
   ·refine i6 (M6 ?_);rw [e];refine i6 (xB (i:=0) C hB' (by rw [e];rfl) (by rw [e];rfl) (O8 _).symm ∎ l1 ∎ s1 (by rw [L7 (C5 l2)];exact s2) λst3 B3 e3 R3 _=>?_);simp only [Bool.not_true,z7,if_false];rw [L7 (C5 l2)] at R3;exact k7 {ρ,.inl {B3,R3,by rw [e3,e];simp}}
  case post3=>
   rintro c st2 ⟨rfl,B,R⟩;exact k7 (h st2 B R)
def Rv {a₀:Array Keyed} (h0:IntKeys a₀):NI prog w A E s oneType' a₀ (λp=>numOf p.1):=⟨λ{x y st Q} hx hy hk h=>by
 let (n,t,e1):=h0 x hx
 let (m,u,e2):=h0 y hy
 rw [lt'_eq]
 refine i6 (M6 ?_)
 rw [hk,keyLt'_oneType,e1,e2]
 rw [e1,e2] at h
 exact i6 (S5 (J3 (oneLt_int {ρ,k7 h})))⟩
def sort_codeA {a:Addr} {vs:List Value} {ns:List Int} {n:Nat} {P:Fin->Shared->Prop} (ho:s.heap.get? a=some (seqObj "list" vs.toArray n))
  (hI:IntsAre vs ns) (h7:vs.length<128)
  (h:∀(out:Array Value) (ns':List Int),IntsAre out.toList ns'->ns'.Perm ns->ns'.Pairwise (·<=·)->P (.done (.ret .none)) { s with heap:=sortedHeap s.heap a vs out }):
  wpAny 7#0 A (Builtin.«list.sort» {[.ref a],[]}) P E s:=by
 let hz:vs.length<=sizeLine:=u8 (C5 h7) 8#0;rw [list_sort_plain];let ha:=i7 ho;let hsz:vs.toArray.size=vs.length:=by simp
 refine d0 (listItems_at ho rfl (d0 (listUpdate_at ho rfl ?_ (by rw [hsz];exact hz))));obtain⟨e1,h1⟩:∃e1,(s.heap.update a (Obj.mapSeq λ_=>#[])).get? a=some (seqObj "list" #[] e1):={_,get?_update_seq ho (λ_=>#[])};refine d0 (seqEpoch_at h1 rfl (d0 (S0 (d0 (Q4 (w9 ?_))))));let h6:(((s.heap.update a (Obj.mapSeq λ_=>#[])).push (seqObj "tuple" vs.toArray 0)).push 41#0).get? a=some (seqObj "list" #[] e1):=by
  rw [Heap.get?_push_ne _ _ _ (by rw [size_push',Heap.size_update];exact j9 (J6 ha)),
   Heap.get?_push_ne _ _ _ (by rw [Heap.size_update];exact j9 ha)];exact h1
 show wpAny 7#0 A _ P E { s with heap:=((s.heap.update a (Obj.mapSeq λ_=>#[])).push (seqObj "tuple" vs.toArray 0)).push 41#0 };dsimp only
 let fin:∀st':SortSt,(arrOf st').Perm (pairsOf vs)->SortedTo 36#0 (pairsOf vs).size->P (.done (.ret .none)) { s with heap:=sortedHeap s.heap a vs ((arrOf st').map (·.2)) }:=λst' hp hs=>by
  let (ns',x1,x2,x3):=sorted_out hI hp hs;exact h _ ns' x1 x2 x3
 by_cases h2:vs.toArray.size<2
 ·rw [if_pos h2,if_pos h2];refine d0 51#0;rw [StateT.run_pure];refine d0 51#0;dsimp only
  refine d0 (seqEpoch_at h6 rfl (d0 (listUpdate_at h6 rfl ?_ (hsz2:=by rw [Array.size_map];show (pairsOf vs).size<=_;rw [pairsOf_size];omega))));simp only [bne_self_eq_false,z7,if_false];refine i8 (fin (SortSt.mk' general' (vs.toArray.zip vs.toArray) #[] 7 none) (R6 _) λi j hij hj=>?_);have:i=j:=by rw [pairsOf_size] at hj;omega
  subst this;exact j8 _
 ·rw [if_neg h2,if_neg h2];let kk:keyKind' vs.toArray=pure oneType':=by
   match vs,hsz,h2,hI with
   | [],_,h2,_=>simp at h2
   | [_],_,h2,_=>simp at h2
   | v1::v2::r,_,_,hI=>exact keyKind_ints hI
  rw [kk];refine d0 51#0;refine d0 (y6 (xA (a₀:=pairsOf vs) (κ:=oneType') (rk:=λp=>numOf p.1) (st:=SortSt.mk' oneType' (vs.toArray.zip vs.toArray) #[] 7 none)
   (Q:=λ_ st'=>(arrOf st').Perm (pairsOf vs)/\failedOf st'=none/\SortedTo 36#0 (pairsOf vs).size)
   (Rv hI.intKeys) {R6 _,ρ,ρ} rfl (by rw [pairsOf_size];omega) (by rw [pairsOf_size];exact h7) λst' b hs=>{b.perm,b.failed,λi j hij hj=>hs i j (i9 _) hij hj}) ?_ λ_ _ e=>e);rintro⟨⟨⟩,st'⟩ s' ⟨rfl,hp,hf,hs⟩;dsimp only
  refine d0 (seqEpoch_at h6 rfl (d0 (listUpdate_at h6 rfl ?_ (hsz2:=by
   let z:((arrOf st').map (·.2)).size=vs.length:=by rw [Array.size_map,hp.size_eq,pairsOf_size]
   exact u8 (D6 z) ∎))));rw [hf];simp only [bne_self_eq_false,z7,if_false];exact i8 (fin st' hp hs)
end
end
end Sr
namespace L2
open PySem PySem.Spec PyProof.Rows PySem.W
def Iz {ns:List Int} {us:List Value} (h:IntsAre us ns):bA 32#0 us:=tW h
section
variable {X:Cx}
def qX {prog:Program} {w:World} {A:Around} {E:Value->Shared->Prop} {s:Shared} {D:Addr} {vs:List Value} {ns:List Int} {n:Nat} {Q:Value->Shared->Prop} (ho:s.heap.get? D=some (seqObj "list" vs.toArray n)) (rv:bA 32#0 vs) (hz:vs.length<128)
  (h:∀(os:List Value) (ns':List Int),bA (ns'.map V.int) os->ns'.Perm ns->ns'.Pairwise (·<=·)->Q .none { s with heap:=sortedHeap s.heap D vs os.toArray }):wpAny 7#0 A (call (.builtin "list.sort") [.ref D]) Q E s:=by
 refine D9 slot_list_sort {_,ho,ρ} entry_list_sort ?_ (args_list_sort _);refine Sr.sort_codeA ho (zD rv) hz λout ns' a1 a2 a3=>{.none,ρ,?_};have:=h out.toList ns' (Iz a1) a2 a3;rwa [Array.toArray_toList] at this
def hZ:gP X (.builtin "sorted") (λv H Q=>∃(a:Addr) (ns:List Int),v=[.ref a]/\cQ X.K H a 32#0/\ns.length<128 /\
  ∀(l:Addr) (ns':List Int),H l=none->ns'.Perm ns->ns'.Pairwise (·<=·)->Q (.ref l) (upd H l (.lst (ns'.map V.int)))):=by
 intro y s σ H v S Q I r h;let (a,ns,rfl,D,P,q):=h;let (u,rfl,B):=jQ r;cases B;let (d,A,C,O):=I.list D;let N:sizeLine=16777216:=sizeLine_eq
 let M:d.length=ns.length:=by rw [<- A.length,g7]
 refine Calls.call_function_entry kind_sorted plain_sorted entry_sorted (args_sorted1 _) ?_;show wpAny _ _ (pure _ >>= _) _ _ _;refine d0 (i8 (d0 (collect_list C.isList (d0 (Q4 ?_ ∎)) ∎)));let f:((s.heap.push 41#0).update s.heap.objs.size (Obj.mapSeq λx=>x++d.toArray)).objs.size=s.heap.objs.size+1:=by
  rw [Heap.size_update,size_push']
 let z:∀b g,s.heap.get? b=some g->((s.heap.push 41#0).update s.heap.objs.size (Obj.mapSeq λx=>x++d.toArray)).get? b=some g:=λb g e=>by
  let i:=i7 e;rw [Heap.get?_update_ne _ _ _ _ (j9 i),Heap.get?_push_ne _ _ _ (j9 i)];exact e
 let p:(((s.heap.push 41#0).update s.heap.objs.size (Obj.mapSeq λx=>x++d.toArray)).push (seqObj "list" d.toArray 0)).get? 16#0=some (seqObj "list" d.toArray 0):=by
  rw [<- f];exact j3 _ rfl
 show wpAny _ _ (do let _ <- holding [Value.ref ((s.heap.push 41#0).update s.heap.objs.size (Obj.mapSeq λx=>x++d.toArray)).objs.size] (call (.builtin "list.sort") [Value.ref ((s.heap.push 41#0).update s.heap.objs.size (Obj.mapSeq λx=>x++d.toArray)).objs.size] []);ret (Value.ref ((s.heap.push 41#0).update s.heap.objs.size (Obj.mapSeq λx=>x++d.toArray)).objs.size)) _ _ _;rw [f];generalize ((s.heap.push 41#0).update s.heap.objs.size (Obj.mapSeq λx=>x++d.toArray))=E at f z p ⊢;refine d0 (w9 (qX (n:=0) p A ∎ λj ns' F t G=>?_));refine i8 {_,ρ,?_};let (c,m):=sortedHeap_at (out:=j.toArray) p;let k:∀b g,s.heap.get? b=some g->(sortedHeap (E.push (seqObj "list" d.toArray 0)) 16#0 d j.toArray).get? b=some g:=λb g e=>by
  let L:=z b g e;let i:=i7 e;rw [sortedHeap_old (j9 (J6 i)) (by rw [size_push',f];exact J6 (J6 i))];exact g8 _ L
 let w:s.heap.objs.size<=s.heap.objs.size+1:=L3 _;let J:=I.laid (a:=s.heap.objs.size+1) (o:=.lst (ns'.map V.int)) (t':=s.toks) k w (show bL _ _ _ _ _ _ from {by rw [g7,t.length_eq];omega,j,c,F,m});exact {.ref 16#0,_,J,ρ,q _ _ (I.hok.fresh w) t G}
def tO (hc:X.calm=true):gP X (.builtin "sorted") (λxs H Q=>∃(a:Addr) (kvs:List (bJ × V)) (ns:List Int),xs=[.ref a]/\H a=some 45#0/\kvs.map (·.1)=ns.map Sum.inl/\ns.length<128 /\
  ∀(l:Addr) (ns':List Int),H l=none->ns'.Perm ns->ns'.Pairwise (·<=·)->Q (.ref l) (upd H l (.lst (ns'.map V.int)))):=by
 intro a1 s σ H xs d Q I r h;let (a,kvs,ns,rfl,hq,Y,a3,q):=h;let (u,rfl,rx):=jQ r;cases rx;let (hz,hS,O,rv,o,es,ep,d1,d2,d3,d4,d5,d6):=I.hok a _ hq;let sl:sizeLine=16777216:=sizeLine_eq;let vl:kvs.length=O.length:=Paired.length rv;let kl:kvs.length=ns.length:=by
  have:=congrArg List.length Y;rwa [g7,g7] at this
 let (m,F):=I.fr;let N:O.map (·.1)=ns.map Sum.inl:=by
  rw [<- Y];clear Y hq d5 d6 vl kl hz q
  induction rv with
  | nil=>rfl
  | cons e t ih=>rw [x9,x9,ih,e.1]
 refine kdu_sorted (kdl_dict (knd:=cD X.prog X.w) (kvs:=O) (ep:=ep) hS) (I.ok.hd hc) F rX {(o),es,d1,d2,d3,d4,d5,d6} ∎ λD J tk d F' N' A a0 hP=>?_;let y:∀j (P:j<d.length),∃t,d[j]=.int (ns.getD j 0) t:=λj P=>by
  let (k,x,C,E):=hP j d[j] (e7 P);let L:(O.map (·.1))[j]?=some k:=by rw [j1,C];rfl
  rw [N,j1] at L;let g:j<ns.length:=∎;rw [e7 g] at L;let L:Sum.inl ns[j]=k:=Option.some.inj L;subst L;let (t,e):=Value.isInt_shape (k:=ns[j]) (v:=d[j]) E;exact {t,by rw [e,A9,e7 g];rfl}
 let S:bA 32#0 d:=by
  let C:d=(List.range d.length).map λj=>d.getD j .none:=by
   apply List.ext_getElem
   ·simp
   ·intro i h1 h2;simp [A9,h1]
  let E:ns.map V.int=(List.range d.length).map λj=>V.int (ns.getD j 0):=by
   apply List.ext_getElem
   ·simp;omega
   ·intro i h1 h2;have:i<ns.length:=by simpa using h1
    simp [A9,this]
  rw [E];rw [C];simp only [g7,A4];refine lN _ _ λj P=>?_;let g:j<d.length:=E1.mp P;let (t,e):=y j g;refine {t,?_};rw [<- e,A9,e7 g];rfl
 let p:=N' (D,W.listOf d.toArray 0) (i4 ..);let K:s.heap.get? D=none:=by
  cases z:s.heap.get? D with
  | none=>rfl
  | some f=>
   have:=A (D,f) (jW p.2.1 p.2.2 z);exact absurd this (A3 _)
 let B:∀b f,b≠X.env.locals->s.heap.get? b=some f->J.get? b=some f:=λb f G e=>by
  cases z:X.base.get? b with
  | some o'=>
   have:=I.bk b o' z;rw [e] at this;cases this;exact F'.keep b f z
  | none=>exact(N' (b,f) (g6 _ (jW G z e))).1
 refine qX (n:=0) p.1 S ∎ λU ns' r' pm pw=>?_;let (c,Z):=sortedHeap_at (out:=U.toArray) (show J.get? D=some (seqObj "list" d.toArray 0) from p.1);let M:∀b f,b≠D->J.get? b=some f->(sortedHeap J D d U.toArray).get? b=some f:=λb f G e=>by
  rw [sortedHeap_old G (i7 e)];exact e
 let a2:ns'.length=ns.length:=pm.length_eq;let T:(sortedHeap J D d U.toArray).Ns X.env.locals m:=by
  let (o1,C,E,z,rr):=F'.ns;exact {o1,C,E,M _ _ p.2.1.symm z,rr}
 let (z1,I1):=I.byNewsL (tk:=tk) (zs:=ns'.map V.int) F.ns T (λb f G e=>M b f (λz=>by rw [z,K] at e;cases e) (B b f G e)) K (by rw [g7];omega) r' Z;exact {.ref D,_,I1,ρ,q D ns' z1 pm pw}
end
end L2
namespace Lm
section
variable {x:Int} {t:Ps}
abbrev Ps:=List (Int × Int)
def mem (ps:Ps) (x:Int):Prop:=∃p ∈ ps,p.1<=x/\x<p.2
def iY:mem [] x↔False:=by simp [mem]
def mem_cons {p:Int × Int}:mem (p::t) x↔(p.1<=x/\x<p.2)\/mem t x:=by simp [mem]
def Fy {s:Ps}:mem (s++t) x↔mem s x\/mem t x:=by
 induction s with
 | nil=>simp [iY]
 | cons p s ih=>rw [List.cons_append,mem_cons,mem_cons,ih,or_assoc]
def Wk:Ps->Prop
 | []=>True
 | p::t=>p.1<p.2/\(∀q ∈ t,p.2<=q.1)/\Wk t
def Sh:Ps->Prop
 | []=>True
 | p::t=>p.1<p.2/\(∀q ∈ t,p.2<q.1)/\Sh t
theorem Sh.wk:∀{t:Ps},Sh t->Wk t
 | [],_=>trivial
 | _::_,{(h1),h2,h3}=>{h1,λq a=>y9 (h2 q a),Sh.wk h3}
theorem Sh.lt:∀{t:Ps},Sh t->∀q ∈ t,q.1<q.2
 | _::_,{(h1),h2,h3},q,hq=>by
  rcases i3.mp hq with rfl|hq
  ·exact h1
  ·exact Sh.lt h3 q hq
theorem Wk.lt:∀{t:Ps},Wk t->∀q ∈ t,q.1<q.2
 | _::_,{(h1),h2,h3},q,hq=>by
  rcases i3.mp hq with rfl|hq
  ·exact h1
  ·exact Wk.lt h3 q hq
def wM {b:Int} (h:∀q ∈ t,b<=q.1) (a:mem t x):b<=x:=by
 let (p,c,z,_):=a;have:=h p c;omega
def qZ {p:Int × Int} (h:Sh (p::t)) {x:Int} (a:mem (p::t) x):p.1<=x:=by
 rcases mem_cons.mp a with z|z
 ·exact z.1
 ·have:=wM (b:=p.2) (λq c=>y9 (h.2.1 q c)) z;have:=h.1;omega
theorem Bg:∀{s t:Ps},Sh s->Sh t->(∀p ∈ s,∀q ∈ t,p.2<q.1)->Sh (s++t)
 | [],_,_,ht,_=>ht
 | p::s,t,hs,ht,h=>by
  refine {hs.1,λq hq=>?_,Bg hs.2.2 ht λa c b d=>h a (g6 _ c) b d}
  rcases j6.mp hq with hq|hq
  ·exact hs.2.1 q hq
  ·exact h p (i4 ..) q hq
def mg:Int × Int->Ps->Ps
 | c,[]=>[c]
 | c,p::t=>if p.1<=c.2 then mg (c.1,if p.2 > c.2 then p.2 else c.2) t else c::mg p t
def merged:Ps->Ps
 | []=>[]
 | p::t=>mg p t
def Lo:Ps->Prop
 | []=>True
 | p::t=>p.1<p.2/\(∀q ∈ t,p.1<=q.1)/\Lo t
theorem Wk.lo:∀{t:Ps},Wk t->Lo t
 | [],_=>trivial
 | _::_,{(h1),h2,h3}=>⟨h1,λq a=>by have:=h2 q a;omega,Wk.lo h3⟩
theorem Qa:∀{t:Ps} {c:Int × Int},c.1<c.2->(∀q ∈ t,c.1<=q.1)->Lo t->Sh (mg c t)/\(∀p ∈ mg c t,c.1<=p.1)/\(∀x,mem (mg c t) x↔(c.1<=x/\x<c.2)\/mem t x)/\(mg c t).length<=t.length+1
 | [],c,h,_,_=>by
  refine {{h,by simp,trivial},λp g=>?_,λx=>?_,g9 _}
  ·rw [v9.mp g]
   exact j8 _
  ·show mem [c] x↔_
   rw [mem_cons]
 | p::t,c,h,hq,hl=>by
  let g:=hq p (i4 ..)
  let b:=hl.1
  by_cases z:p.1<=c.2
  ·let e:mg c (p::t)=mg (c.1,if p.2 > c.2 then p.2 else c.2) t:=by
    show (if p.1<=c.2 then _ else _)=_;rw [if_pos z]
   rw [e];let j:c.1<(if p.2 > c.2 then p.2 else c.2):=by split <;> omega
   let (f,a,d,i):=Qa (t:=t) (c:=(c.1,if p.2 > c.2 then p.2 else c.2)) j (λq hq'=>by have:=hl.2.1 q hq';show c.1<=q.1;omega) hl.2.2;refine {f,a,λx=>?_,by rw [p8];omega};rw [d x,mem_cons];show (c.1<=x/\x<(if p.2 > c.2 then p.2 else c.2))\/mem t x↔_;by_cases m:mem t x
   ·simp [m]
   ·simp only [m,or_false];split <;> omega
  ·let e:mg c (p::t)=c::mg p t:=by
    show (if p.1<=c.2 then _ else _)=_;rw [if_neg z]
   rw [e];let (f,a,d,i):=Qa (t:=t) (c:=p) b hl.2.1 hl.2.2;refine {⟨h,λq hq'=>by have:=a q hq';omega,f⟩,λq hq'=>?_,λx=>?_,by rw [p8,p8];omega}
   ·rcases i3.mp hq' with rfl|hq'
    ·exact j8 _
    ·have:=a q hq';omega
   ·rw [mem_cons,mem_cons,d x]
theorem merged_ok:∀{t:Ps},Lo t->Sh (merged t)/\(∀x,mem (merged t) x↔mem t x)/\(merged t).length<=t.length
 | [],_=>{trivial,λx=>Iff.rfl,g9 _}
 | p::t,h=>by
  let (b,d,c,a):=Qa h.1 h.2.1 h.2.2
  exact {b,λx=>by rw [show merged (p::t)=mg p t from rfl,c x,mem_cons],a}
def cut (at_ high:Int):Ps->Ps
 | []=>if at_<high then [(at_,high)] else []
 | g::gs=>if g.1<high then(if at_<g.1 then [(at_,g.1)] else [])++cut g.2 high gs else if at_<high then [(at_,high)] else []
def skip (low:Int):Ps->Ps
 | []=>[]
 | g::gs=>if g.2<=low then skip low gs else g::gs
def wo:Ps->Ps->Ps
 | [],_=>[]
 | p::t,gs=>cut p.1 p.2 (skip p.1 gs)++wo t (skip p.1 gs)
def rK {a b:Int}:Sh (if a<b then [(a,b)] else [])/\(∀p ∈ (if a<b then [(a,b)] else []),a<=p.1/\p.2<=b)/\(∀x,mem (if a<b then [(a,b)] else []) x↔a<=x/\x<b)/\(if a<b then [(a,b)] else([]:Ps)).length<=1:=by
 by_cases h:a<b
 ·rw [if_pos h];refine {{h,by simp,trivial},λp c=>?_,λx=>?_,g9 _}
  ·rw [v9.mp c];exact {j8 _,j8 _}
  ·rw [mem_cons,iY,or_false]
 ·rw [if_neg h];refine {trivial,by simp,λx=>?_,i9 _};rw [iY];exact {False.elim,λz=>∎}
theorem Rs:∀{gs:Ps} {a b:Int},Sh gs->(∀g ∈ gs,a<g.2)->Sh (cut a b gs)/\(∀p ∈ cut a b gs,a<=p.1/\p.2<=b)/\(∀x,mem (cut a b gs) x↔(a<=x/\x<b)/\¬ mem gs x)/\(cut a b gs).length<=gs.length+1
 | [],a,b,_,_=>by
  let (i,c,f,j):=rK (a:=a) (b:=b)
  exact {i,c,λx=>by rw [show cut a b []=(if a<b then [(a,b)] else []) from rfl,f x,iY];simp,j}
 | g::gs,a,b,hs,hg=>by
  let r:=hs.1
  let s:=hg g (i4 ..)
  by_cases z:g.1<b
  ·let e:cut a b (g::gs)=(if a<g.1 then [(a,g.1)] else [])++cut g.2 b gs:=by
    show (if g.1<b then _ else _)=_;rw [if_pos z]
   rw [e];let (i,c,f,j):=rK (a:=a) (b:=g.1);let (n,l,o,t):=Rs (gs:=gs) (a:=g.2) (b:=b) hs.2.2 λq d=>by
    have:=hs.2.1 q d;have:=Sh.lt hs.2.2 q d;omega
   refine {Bg i n λp hp q d=>?_,λp hp=>?_,λx=>?_,?_}
   ·have:=(c p hp).2;have:=(l q d).1;omega
   ·rcases j6.mp hp with hp|hp
    ·have:=c p hp;exact {this.1,∎}
    ·have:=l p hp;exact { ∎,this.2}
   ·rw [Fy,f x,o x,mem_cons];let k:mem gs x->g.2<=x:=λm=>wM (λq d=>y9 (hs.2.1 q d)) m;by_cases m:mem gs x
    ·have:=k m;simp only [m,not_true_eq_false,and_false,or_false,or_true,iff_false,false_and];omega
    ·simp only [m,not_false_eq_true,and_true,or_false];omega
   ·rw [j5,p8];omega
  ·let e:cut a b (g::gs)=if a<b then [(a,b)] else []:=by
    show (if g.1<b then _ else _)=_;rw [if_neg z]
   rw [e];let (i,c,f,j):=rK (a:=a) (b:=b);refine {i,c,λx=>?_,by rw [p8];omega};rw [f x];let k:mem (g::gs) x->g.1<=x:=λm=>qZ hs m;constructor
   ·intro h;exact⟨h,λm=>by have:=k m;omega⟩
   ·exact λh=>h.1
theorem vT:∀{gs:Ps} {a:Int},Sh gs->Sh (skip a gs)/\(∀g ∈ skip a gs,a<g.2)/\(∀x,a<=x->(mem (skip a gs) x↔mem gs x))/\(skip a gs).length<=gs.length
 | [],a,_=>{trivial,by simp [skip],λx _=>Iff.rfl,g9 _}
 | g::gs,a,hs=>by
  by_cases z:g.2<=a
  ·let e:skip a (g::gs)=skip a gs:=by
    show (if g.2<=a then _ else _)=_;rw [if_pos z]
   rw [e];let (c,d,b,i):=vT (gs:=gs) (a:=a) hs.2.2;refine {c,d,λx f=>?_,by rw [p8];omega};rw [b x f,mem_cons];constructor
   ·exact .inr
   ·rintro(h|h)
    ·omega
    ·exact h
  ·let e:skip a (g::gs)=g::gs:=by
    show (if g.2<=a then _ else _)=_;rw [if_neg z]
   rw [e];refine {hs,λq hq=>?_,λx _=>Iff.rfl,g9 _};rcases i3.mp hq with rfl|hq
   ·omega
   ·have:=hs.2.1 q hq;have:=Sh.lt hs.2.2 q hq;omega
theorem wo_ok:∀{ks gs:Ps},Sh ks->Sh gs->Sh (wo ks gs)/\(∀p ∈ wo ks gs,∃k ∈ ks,k.1<=p.1)/\(∀x,mem (wo ks gs) x↔mem ks x/\¬ mem gs x)
 | [],gs,_,_=>{trivial,by simp [wo],λx=>by rw [show wo [] gs=[] from rfl,iY];simp}
 | p::t,gs,hk,hg=>by
  let (h,r,s,v):=vT (a:=p.1) hg
  let (l,g,j,w):=Rs (b:=p.2) h r
  let (i,e,n):=wo_ok (ks:=t) (gs:=skip p.1 gs) hk.2.2 h
  have d:∀q ∈ wo t (skip p.1 gs),p.2<q.1:=λq hq=>by
   let (k,c,z):=e q hq
   have:=hk.2.1 k c
   omega
  refine {Bg l i λa u q hq=>?_,λq hq=>?_,λx=>?_}
  ·have:=(g a u).2
   have:=d q hq
   omega
  ·rcases j6.mp hq with hq|hq
   ·exact {p,i4 ..,(g q hq).1}
   ·let (k,c,z):=e q hq
    exact {k,g6 _ c,z}
  ·show mem (cut p.1 p.2 (skip p.1 gs)++wo t (skip p.1 gs)) x↔_
   rw [Fy,j x,n x,mem_cons]
   have f:mem t x->p.2<=x:=λm=>wM (λq hq=>y9 (hk.2.1 q hq)) m
   have y:=hk.1
   by_cases o:p.1<=x
   ·rw [s x o]
    constructor
    ·rintro(⟨a,b⟩|⟨a,b⟩)
     ·exact {.inl a,b}
     ·exact {.inr a,b}
    ·rintro⟨a|a,b⟩
     ·exact .inl {(a),b}
     ·exact .inr {(a),b}
   ·constructor
    ·rintro(⟨a,b⟩|⟨a,b⟩)
     ·omega
     ·have:=f a
      omega
    ·rintro⟨a|a,b⟩
     ·omega
     ·have:=f a
      omega
theorem xK (f:Int × Int->Bool) (a:Int):∀b:Ps,(skip a b).countP f<=b.countP f
 | []=>g9 _
 | g::b=>by
  show (if g.2<=a then skip a b else g::b).countP f<=_
  split
  ·have:=xK f a b
   rw [N3]
   omega
  ·exact g9 _
theorem Gu:∀{gs:Ps} {a b:Int},Sh gs->(∀g ∈ gs,a<g.2)->(cut a b gs).length<=1+gs.countP λg=>decide (a<g.1/\g.1<b)
 | [],a,b,_,_=>by
  have:=(rK (a:=a) (b:=b)).2.2.2
  show (if a<b then [(a,b)] else([]:Ps)).length<=_
  omega
 | g::gs,a,b,hs,hg=>by
  let h:=hs.1
  let f:=hg g (i4 ..)
  rw [N3]
  by_cases z:g.1<b
  ·let e:cut a b (g::gs)=(if a<g.1 then [(a,g.1)] else [])++cut g.2 b gs:=by
    show (if g.1<b then _ else _)=_;rw [if_pos z]
   rw [e,j5];let i:=Gu (gs:=gs) (a:=g.2) (b:=b) hs.2.2 λq c=>by
    have:=hs.2.1 q c;have:=Sh.lt hs.2.2 q c;omega
   let m:(gs.countP λq=>decide (g.2<q.1/\q.1<b))<=gs.countP λq=>decide (a<q.1/\q.1<b):=List.countP_mono_left λq c d=>by
    have:=of_decide_eq_true d;exact decide_eq_true { ∎,this.2}
   by_cases y:a<g.1
   ·rw [if_pos y,decide_eq_true (show a<g.1/\g.1<b from {(y),z})];show 1+_<=1+(_+1);omega
   ·rw [if_neg y];show 0+_<=_;omega
  ·let e:cut a b (g::gs)=if a<b then [(a,b)] else []:=by
    show (if g.1<b then _ else _)=_;rw [if_neg z]
   rw [e];have:=(rK (a:=a) (b:=b)).2.2.2;omega
theorem Gw {α:Type} (f g h:α->Bool) (d:∀x,f x=true->g x=true->False) (e:∀x,f x=true\/g x=true->h x=true):∀l:List α,l.countP f+l.countP g<=l.countP h
 | []=>g9 _
 | x::l=>by
  have:=Gw f g h d e l
  rw [N3,N3,N3]
  by_cases a:f x=true
  ·by_cases b:g x=true
   ·exact(d x a b).elim
   ·rw [if_pos a,if_neg b,if_pos (e x (.inl a))]
    omega
  ·by_cases b:g x=true
   ·rw [if_neg a,if_pos b,if_pos (e x (.inr b))]
    omega
   ·rw [if_neg a,if_neg b]
    omega
theorem Kl:∀{ks gs:Ps} {L:Int},Sh ks->Sh gs->(∀k ∈ ks,L<=k.1)->(wo ks gs).length<=ks.length+gs.countP λg=>decide (L<g.1)
 | [],gs,L,_,_,_=>i9 _
 | p::t,gs,L,hk,hg,hL=>by
  let (f,h,o,l):=vT (a:=p.1) hg
  have i:=Gu (b:=p.2) f h
  have j:=Kl (ks:=t) (gs:=skip p.1 gs) (L:=p.2) hk.2.2 f λk e=>y9 (hk.2.1 k e)
  have m:=hL p (i4 ..)
  have c:=Gw (λg:Int × Int=>decide (p.1<g.1/\g.1<p.2)) (λg=>decide (p.2<g.1)) (λg=>decide (L<g.1)) (λx a b=>by
    have:=of_decide_eq_true a
    have:=of_decide_eq_true b
    omega) (λx z=>by
    refine decide_eq_true ?_
    have n:=hk.1
    rcases z with z|z
    ·have:=of_decide_eq_true z
     omega
    ·have:=of_decide_eq_true z
     omega) (skip p.1 gs)
  have d:=xK (λg=>decide (L<g.1)) p.1 gs
  show (cut p.1 p.2 (skip p.1 gs)++wo t (skip p.1 gs)).length<=_
  rw [j5,p8]
  omega
def wo_len {ks gs:Ps} (a:Sh ks) (b:Sh gs):(wo ks gs).length<=ks.length+gs.length:=by
 match ks,a with
 | [],_=>exact i9 _
 | p::t,a=>
  have:=Kl (L:=p.1) a b λk hk'=>by
   rcases i3.mp hk' with rfl|hk'
   ·exact j8 _
   ·have:=a.2.1 k hk';have:=a.1;omega
  have:=List.countP_le_length (p:=λg:Int × Int=>decide (p.1<g.1)) (l:=gs);omega
open Classical in
noncomputable def NQ (P:Int->Prop) (x:Int):Int:=if P x then 1 else 0
noncomputable def NR (P:Int->Prop) (lo:Int):Nat->Int
 | 0=>0
 | n+1=>NR P lo n+NQ P (lo+n)
end
end Lm
namespace L2
open PySem PySem.Spec PyProof.Rows PySem.W
def kX {K:Frag} {α:Type} {c:Hp} {d:Addr} {xs:List α} {val:α->V} (e:c d=some (.lst (xs.map val))):
  (∀G i,aJ c G->i<xs.length->(Do K d).go i G)/\(∀G,aJ c G->(Do K d).stop xs.length G)/\∀G i x f,aJ c G->(Do K d).yld i G x f->f=G/\∃z,xs[i]?=some z/\x=val z:=by
 refine {λG i b h=>{_,_,cQ.of (b _ _ e),by rw [j1,e7 h];rfl},λG b=>{_,cQ.of (b _ _ e),by rw [g7];exact g9 _},λG i x f b g=>?_};let (rfl,a):=g;let a:=a _ (cQ.of (b _ _ e));rw [j1] at a;cases hz:xs[i]? with
 | none=>rw [hz] at a;cases a
 | some z=>
  rw [hz] at a;cases a;exact {(rfl),z,ρ,ρ}
end L2
namespace L2
open PySem PySem.Spec PyProof.Rows
section
variable {P:Program} {w:World} {q:Str} {k:Nat} {H:Hp}
def wX (h:Heap) (mg:Str->Option Value):Prop:=∃bm o,mg "__builtins__"=some (.ref bm)/\bm≠builtinsNs/\h.get? bm=some o/\o.cls=.type "module"/\o.dict=some builtinsNs/\o.data=.plain
def Tj (ts:List Addr) (H:Hp):Prop:=∀b,H b=none\/(∃o xs,H b=some (.frz o (.lst xs)))\/(b ∈ ts/\H b=some (.tbl #[]))
def Iu {K:PySem.W.Frag} {mg mb:Str->Option Value} {CX:pE} {fa a:Addr} {fd:FuncData} {x:Str} {sp:Sp} {s₁:Shared} {vs:List Value} {ns:List Int} {ts:List Addr}
  (KX:K.In s₁.heap) (hns:s₁.heap.Ns mainGlobals mg) (hb:s₁.heap.Ns builtinsNs mb) (hbb:∀x:Str,x≠"__name__"->mb x=bootBuiltins x) (hlim:s₁.heap.NoLimit) (hg:s₁.gens=#[])
  (hT:∀P ∈ ts,s₁.heap.get? P=some (PySem.W.tabObj #[])) (hKT:PySem.W.noTabs K=true) (hC:∀P ∈ ts,isCodeTable s₁.heap P) (hBm:wX s₁.heap mg)
  (ha:s₁.heap.get? a=some { cls:=.type "list",data:=.seq vs.toArray }) (hi:IntsAre vs ns) (hl:ns.length<=sizeLine) (hr:Room k callerA)
  (F:∀base:Heap,K.In base->base.Ns mainGlobals mg->wX base mg->bN P w K mg base CX k fa fd [x] sp) (hbind:∀(s:Shared) (u:Value),BindsTo s fd {[u],[]} [(x,u)])
  (hsp:∀H:Hp,Tj ts H->(∀P ∈ ts,H P=some (.tbl #[]))->cQ K H a 32#0->sp [.ref a] H (λv _=>v=.bl true) λ_ _ _=>False)
  (hCX:∀H e s',CX [] H s₁ (λ_ _ _=>False) e s'->False):
  codeAny (model P w) callerA (.call (.ref fa) {[.ref a],[]}) (λr s'=>r=.ok (.ret (.bool true))/\OldK s₁.heap s'.heap/\s'.os=s₁.os/\AllBare s'.gens) s₁:=by
 let rv:=tW hi;let lenV:=hi.length;let kT:∀P ∈ ts,K.lookup P=none:=λp hp=>by
  cases q:K.lookup p with
  | none=>rfl
  | some o=>
   let e:=KX p o q;rw [hT p hp] at e;cases e;exact absurd (K1.mp hKT (p,_) (PySem.W.mem_of_lookupK q)) 9#0
 let aT:a ∉ ts:=λhm=>by
  let e:=hT a hm;rw [ha] at e;cases e
 have core:∀H:Hp,Tj ts H->(∀P ∈ ts,H P=some (.tbl #[]))->cQ K H a 32#0->lL P w H s₁.heap->(∀b,H b≠none->b=a\/b ∈ ts)->(H a≠none->K.lookup a=none) ->
   codeAny (model P w) callerA (.call (.ref fa) {[.ref a],[]}) (λr s'=>r=.ok (.ret (.bool true))/\OldK s₁.heap s'.heap/\s'.os=s₁.os/\AllBare s'.gens) s₁:=by
  intro H hO hTs hS hok hA hK;let base_of:∀{b:Addr} {o:Obj},s₁.heap.get? b=some o->H b=none->(tL s₁.heap H).get? b=some o:=λe n=>Qx e n;let noA:∀{b:Addr} {o:Obj} {es:Array DictEntry} {ep:Nat},s₁.heap.get? b=some o->o.data=.dict es ep->H b=none:=λ{b o es ep} e d=>by
   cases q:H b with
   | none=>rfl
   | some u=>
    rcases hA b (by rw [q];simp) with e' | e'
    ·subst e';rw [ha] at e;cases e;let d':Data.seq vs.toArray _=Data.dict es ep:=d;cases d'
    ·rw [hT b e'] at e;cases e;let d':Data.fields #[]=Data.dict es ep:=d;cases d'
  let nsK:∀{b:Addr} {m:Str->Option Value},s₁.heap.Ns b m->(tL s₁.heap H).Ns b m:=λ{b m} ⟨o,es,ep,e,d,r⟩=>{o,es,ep,base_of e (noA e d),d,r};let hKb:K.In (tL s₁.heap H):=λb o e=>base_of (KX b o e) (by
   cases q:H b with
   | none=>rfl
   | some u=>
    rcases hA b (by rw [q];simp) with e' | e'
    ·subst e'
     rw [hK (by rw [q];simp)] at e;cases e
    ·rw [kT b e'] at e;cases e);let hM:Mod K mg (tL s₁.heap H):=⟨hKb,nsK hns,{mb,nsK hb,hbb},let ⟨mc,h1,h2⟩:=hlim;{mc,nsK h1,h2}⟩;let hBb:wX (tL s₁.heap H) mg:=by
   let (bm,ob,b1,b2,b3,b4,b5,b6):=hBm;refine {bm,ob,b1,b2,base_of b3 ?_,b4,b5,b6};cases q:H bm with
   | none=>rfl
   | some u=>
    rcases hA bm (by rw [q];simp) with e' | e'
    ·subst e';rw [ha] at b3;cases b3;let b4:Value.type "list"=.type "module":=b4;exact absurd (Value.type.inj b4) 8#0
    ·rw [hT bm e'] at b3;cases b3;cases b4
  let e0:tD P w K mg (tL s₁.heap H) callerA [] s₁ H:={ρ,hM,λb o e=>Wu e,D6 (Ja _ _),trivial,λb hb=>absurd (show b ∈ ([]:List Addr) from hb) 9#0,hok,.of_eq hg};refine G7 ((F _ hKb (nsK hns) hBb).run callerA [] s₁ H {[.ref a],[]} [.ref a] [.ref a] _ _ hr e0 (hbind s₁ (.ref a)) (.cons rfl .nil) (hsp H hO hTs hS)) λr s' h=>?_;cases r with
  | error e=>exact(hCX H e s' h).elim
  | ok fl=>
   cases fl with
   | next=>exact False.elim h
   | brk=>exact False.elim h
   | cont=>exact False.elim h
   | ret u=>
    let (v,H',os,bare,un,hok',r',q):=h;let q':v=.bl true:=q;subst q';obtain rfl:u=Value.bool true:=r';refine {ρ,{λb o e=>?_,λb o e=>un.there b o e 9#0},os,bare};cases q:H b with
    | none=>exact .inl (un.keep b o e q (by intro z;exact absurd (show b ∈ ([]:List Addr) from z) 9#0) 9#0)
    | some u=>
     rcases hO b with z|⟨ob,xs,z⟩|⟨hm,z⟩
     ·rw [q] at z;cases z
     ·let z2:=un.frzs b ob _ z;let (e1,_):=hok b _ z;let (e2,_):=hok' b _ z2;rw [e] at e1;cases e1;exact .inl e2
     ·let (more,z2):=un.tbls b _ z;let e2:s'.heap.get? b=some { cls:=.none,data:=.fields (#[]++more) }:=hok' b _ z2;let e3:=hT b hm;rw [e] at e3;cases e3;exact .inr (.inl {hC b hm,ρ,#[],more,ρ,e2})
 let dec:∀b,Decidable (b ∈ ts):=λb=>inferInstance;let tb:∀b,b ∈ ts->bL P w (λ_=>none) s₁.heap b (.tbl #[]):=λb hb=>hT b hb;cases hk:K.lookup a with
 | some o=>
  let e:=KX a o hk;rw [ha] at e;cases e;refine core (λb=>if b ∈ ts then some (.tbl #[]) else none) (λb=>?_) (λp hp=>if_pos hp) (.inr {_,vs.toArray,_,hk,ρ,ρ,ρ,by rw [j7,lenV];exact hl,by simpa using rv}) (λb u z=>?_) (λb z=>?_) λz=>absurd (if_neg aT) z
  ·by_cases hb:b ∈ ts
   ·exact .inr (.inr {hb,if_pos hb})
   ·exact .inl (if_neg hb)
  ·by_cases hb:b ∈ ts
   ·let z':=(if_pos hb).symm.trans z;cases z';exact hT b hb
   ·let z':=(if_neg hb).symm.trans z;cases z'
  ·by_cases hb:b ∈ ts
   ·exact .inr hb
   ·exact absurd (if_neg hb) z
 | none=>
  refine core (λb=>if b=a then some (.frz { cls:=.type "list",data:=.seq vs.toArray } (.lst 32#0)) else if b ∈ ts then some (.tbl #[]) else none) (λb=>?_) (λp hp=>?_) (.inl (.inr {{ cls:=.type "list",data:=.seq vs.toArray },if_pos rfl})) (λb u z=>?_) (λb z=>?_) λ_=>hk
  ·by_cases hb:b=a
   ·exact .inr (.inl {_,_,if_pos hb})
   ·by_cases ht:b ∈ ts
    ·exact .inr (.inr {ht,(if_neg hb).trans (if_pos ht)})
    ·exact .inl ((if_neg hb).trans (if_neg ht))
  ·exact(if_neg (λz:p=a=>aT (by rw [<- z];exact hp))).trans (if_pos hp)
  ·by_cases hb:b=a
   ·let z':=(if_pos hb).symm.trans z;cases z';subst hb;exact {ha,by rw [g7];exact hl,vs,_,rv,ha}
   ·by_cases ht:b ∈ ts
    ·let z':=((if_neg hb).trans (if_pos ht)).symm.trans z;cases z';exact hT b ht
    ·let z':=((if_neg hb).trans (if_neg ht)).symm.trans z;cases z'
  ·by_cases hb:b=a
   ·exact .inl hb
   ·by_cases ht:b ∈ ts
    ·exact .inr ht
    ·exact absurd ((if_neg hb).trans (if_neg ht)) z
def walk_ofT {l:PySem.W.OpenLaw} {n:Nat} {q:Program} {j:List Str} {Z:(Str->Option Value)->Heap->Prop} {N:World->Heap->Prop} {d:DefRec} {K:Params->PySem.W.Frag} {CX:World->pE} {sp:World->Sp} {x:Str} {E:List Addr}
  (hn:l.most=some n) (z:n<=sizeLine) (J:d.params.defaults=[]) (hr:Room k callerA)
  (hY:∀(w:World) (h:Heap),N w h->(K w.params).In h/\PySem.W.noTabs (K w.params)=true/\∀p ∈ E,h.get? p=some (PySem.W.tabObj #[])/\isCodeTable h p)
  (F:∀(w:World) (mg:Str->Option Value) (t:Addr) (h:Heap),(K w.params).In h->h.Ns mainGlobals mg->mg d.name=some (.ref t) ->
   ∃B:FuncData,(∀(s:Shared) (u:Value),BindsTo s B {[u],[]} [(x,u)]) /\
    ∀base:Heap,(K w.params).In base->base.Ns mainGlobals mg->wX base mg->bN l.prog w (K w.params) mg base (CX w) k t B [x] (sp w))
  (D:∀(w:World) (H:Hp) (a:Addr) (ns:List Int),ns.length<=n->Tj E H->(∀P ∈ E,H P=some (.tbl #[]))->cQ (K w.params) H a 32#0->sp w [.ref a] H (λv _=>v=.bl true) λ_ _ _=>False)
  (C:∀(w:World) (H:Hp) (s:Shared) (e:Value) (s':Shared),CX w [] H s (λ_ _ _=>False) e s'->False):
  PySem.W.WalkO q j Z N l.row.toRowW d [] (λf L=>PySem.call f L):=by
 refine Att.attach_call hn J λw s₀ S mg mb t o pm cd O a L ns G Y ho hd a0 A m i c hg=>?_;let (M,I,r):=hY w _ Y;let (B,hb,Q):=F w mg t _ M G.T.g A;exact Iu M G.T.g G.T.b G.T.builtins G.T.nolimit hg (λp y=>(r p y).1) I (λp y=>(r p y).2) (let ⟨bm,ob,b1,b2,b3,b4,b5,b6⟩:=G.T.bmain;{(bm),ob,b1,b2,b3,b4,b5,b6}) m i (u8 c z) hr Q hb (λH X hT U=>D w H a ns c X hT U) λH e s'=>C w H S e s'
def sO (c:Addr) (q:Str):HO:=.ext λh=>h.CodeRec (.ref c) q
def Jc (f:Addr) (o:Obj):HO:=.ext λh=>h.get? f=some o
def lY (H:Hp) (T:Addr) (pos:Pos) (q:Str):Prop:=∃ps,H T=some (.tbl ps)/\TriplesOk ps.toList/\(codeAmong pos ps.toList=none\/∃c',codeAmong pos ps.toList=some (.ref c')/\H c'=some (sO c' q))
def dC (T:Addr) (H H':Hp):Prop:=∀b o,b≠T->H b=some o->H' b=some o
def Ru {h:Heap} {c:Addr} (x:h.CodeRec (.ref c) q):bL P w H h c (sO c q):=by
 refine {x,?_,λf d y k=>?_}
 ·let (b,o,a,t,e,g,_):=x;cases e;exact {(o),g}
 ·let (b,o,a,t,e,g,r):=y;cases e;exact {c,o,a,t,ρ,k _ g,r}
def Gj {h:Heap} {f:Addr} {o:Obj} (x:h.get? f=some o):bL P w H h f (Jc f o):={x,{(o),x},λb a y k=>k _ y}
section
variable {X:Cx} {pins:List (Addr × Obj)} {σ:List (Option V)} {H:Hp} {s:Shared}
def aV.madeNew {h':Heap} {T c':Addr} {ps d:Array Value} {o:Obj} {tk:Nat} (I:5#0) (p:H T=some (.tbl ps)) (E:Heap.ExtBut T s.heap h') (i:s.heap.objs.size<=c') (l:c'<h'.objs.size)
  (k:h'.CodeRec (.ref c') q) (m:h'.get? T=some (PySem.W.tabObj (ps++d))) (w:o.isFreed=false):
  aV X pins σ (upd (upd (upd H T (.tbl (ps++d))) c' (sO c' q)) h'.objs.size (Jc h'.objs.size o)) { s with heap:=h'.push o,toks:=tk }:=by
 let x:H c'=none:=I.hok.fresh i;let A:H h'.objs.size=none:=I.hok.fresh (u8 i (C5 l));let h:∀b u,b≠T->H b=some u->(upd (upd (upd H T (.tbl (ps++d))) c' (sO c' q)) h'.objs.size (Jc h'.objs.size o)) b=some u:=λb u a e=>by
  rw [aC (aD e A),aC (aD e x),aC a];exact e
 let f:∀b u,H b=some u->u≠.tbl ps->b≠T:=λb u e n z=>by
  subst z;rw [p] at e;exact n (Option.some.inj e).symm
 let j:∀b,H b=none->b≠T:=λb e z=>by rw [z,p] at e;cases e
 let D:T≠c':=aD p x;let J:T≠h'.objs.size:=aD p A;let r:∀b u,b≠T->s.heap.get? b=some u->(h'.push o).get? b=some u:=λb u a e=>g8 _ (E b u a e);refine I.un {λb u e n _ _=>r b u (j b n) e,λb u e n _ _=>{u.slots,r b u (j b n) e},λb u e n _=>?_,λb u e _=>?_,λb F e=>h b _ (f b _ e 1#0) e,λb L u e=>h b _ (f b _ e 1#0) e,λb M e=>?_} λb u e=>?_
 ·let a:=i7 e;let G:b≠c':=j9 (p9 a i);let K:b≠h'.objs.size:=j9 (Nat.lt_trans (p9 a i) l);rw [aC K,aC G,aC (j b n)];exact n
 ·by_cases a:b=T
  ·subst a;exact {_,g8 _ m}
  ·exact {u,r b u a e}
 ·by_cases a:b=T
  ·subst a;rw [p] at e;cases e;exact {d,by rw [aC J,aC D,aB]}
  ·exact {#[],by rw [h b _ a e];simp}
 ·by_cases B:b=h'.objs.size
  ·subst B;rw [aB] at e;cases e;exact Gj (j3 _ w)
  ·rw [aC B] at e;by_cases C:b=c'
   ·subst C;rw [aB] at e;cases e;exact Ru (k.push o)
   ·rw [aC C] at e;by_cases a:b=T
    ·subst a;rw [aB] at e;cases e;exact g8 _ m
    ·rw [aC a] at e;refine(I.hok b u e).stay (λc v t g=>r c v ?_ g) (λc z=>h c _ (f c _ z (by intro y;cases y)) z) λc F z=>h c _ (f c _ z (by intro y;cases y)) z;rcases t with rfl|z
     ·exact a
     ·exact f c _ z (by intro y;cases y)
end
def KL (T:Addr) (pos:Pos) (q:Str) (mk:Addr->Value->Obj):TE:=λ_ H Q=>lY H T pos q/\∀f c' ctv H',dC T H H'->H f=none->lY H' T pos q->H' c'=some (sO c' q)->H' f=some (Jc f (mk c' ctv))->Q 59#0 H'
section
variable {X:Cx}
def Of {d:Arguments} {i:Expr} {f:Scope} {pos:Pos} {c T:Addr} {clos:List (Str × Addr)} (l:X.env.code=.ref c) (hc:PySem.W.codeHdIn X.K c T=true) (N:wX X.base X.mg)
  (B:defaultsOf d X.env=([],[])) (F:closureFor f X.env=pure clos) (hq:X.env.qual++"<lambda>"=q) (O:True):
  PE X (.Lambda d i f pos) (KL T pos q λj g=>PySem.W.kla_obj "<lambda>" q d i f clos ((X.mg "__name__").getD .none) j g):=by
 intro pins s σ H Q I h;let ((Z,w,E,r),h):=h;subst hq;let L:s.heap.Ns mainGlobals X.mg:=I.ok.mod.glob.keeps I.bk;let p:s.heap.get? T=some (PySem.W.tabObj Z):=I.hok T _ w;let C:PySem.W.CodeHd s.heap c T:=PySem.W.codeHd_of_K I.kIn hc;let S:mainGlobals≠T:=λz=>by
  let (o,es,ep,e,M,_):=L;rw [z,p] at e;cases e;cases M
 let D:s.heap.BuiltinsAt X.mg T:=by
  let (bm,ob,b1,b2,b3,b4,b5,U):=N;let k:=I.bk _ _ b3;refine {bm,ob,b1,b2,λz=>?_,λz=>?_,k,b4,b5,U}
  ·let (o,es,ep,e,M,_):=L;rw [z,e] at k;cases k;rw [M] at U;cases U
  ·rw [z,p] at k;cases k;cases b4
 refine PySem.W.kla_eval B ?_;rcases r with A|⟨j,hf,G⟩
 ·refine PySem.W.kla_makeFunction F I.ok.glob L l C p E A S D λj g m tk hx v t x P=>?_;let Y:H j=none:=I.hok.fresh v;let n:H m.objs.size=none:=I.hok.fresh (u8 v (C5 t));let Tc:T≠j:=aD w Y;let Tf:T≠m.objs.size:=aD w n;let ne:j≠m.objs.size:=j9 t;let J:=I.madeNew (tk:=tk) (o:=PySem.W.kla_obj "<lambda>" (X.env.qual++"<lambda>") d i f clos ((X.mg "__name__").getD .none) j g) w hx v t x P rfl;refine {.ref m.objs.size,_,J,ρ,h m.objs.size j g _ (λb o D e=>?_) n {_,by rw [aC Tf,aC Tc,aB],?_,.inr {j,?_,?_}} ?_ aB}
  ·rw [aC (aD e n),aC (aD e Y),aC D];exact e
  ·rw [v5];exact TriplesOk_snoc _ _ _ _ E
  ·rw [v5];exact codeAmong_snoc _ E A
  ·rw [aC ne,aB]
  ·rw [aC ne,aB]
 ·refine PySem.W.kla_makeFunctionHit F I.ok.glob L l C p E hf D λg m tk hk y=>?_;let n:H m.objs.size=none:=I.hok.fresh y;refine {.ref m.objs.size,_,I.laid (a:=m.objs.size) (t':=tk) (λb u e=>g8 _ (hk b u e)) y (Gj (j3 _ rfl)),ρ,h m.objs.size j g _ (λb o D e=>?_) n {Z,?_,E,.inr {j,hf,?_}} ?_ aB}
  ·rw [aC (aD e n)];exact e
  ·rw [aC (aD w n)];exact w
  ·rw [aC (aD G n)];exact G
  ·rw [aC (aD G n)];exact G
end
def Xb {CX:pE} {K:PySem.W.Frag} {mg:Str->Option Value} {base:Heap} {f c':Addr} {c:Arguments} {d:Expr} {a:Scope} {pm j:Value} {N ps:List Str} {A:Around} {outer:List Env} {s:Shared} {args:Args} {us:List Value} {vs:List V} {Q:VK} {E:XK}
  (O:H f=some (Jc f (PySem.W.kla_obj "<lambda>" q c d a [] pm c' j))) (Y:H c'=some (sO c' q)) (S:aL N ps a) (p:Room (k+1) A) (l:tD P w K mg base A outer s H)
  (U:bindArgs (PySem.W.kla_fn "<lambda>" q c d a [] pm (.ref c') j) args=pure (ps.zip us)) (r:bA vs us) (L:vs.length=ps.length)
  (g:Room k (A.deeper (envOfC q a s.heap.objs.size f (.ref c')))->∃t,PE (hX CX P w K mg base N q a f (.ref c') A outer s H E) d t/\t (dD N vs) H Q):
  codeAny (model P w) A (.call 59#0 args) (CR CX outer P w H s Q E) s:=by
 let m:s.heap.NoLimit:=l.mod.nolimit.keeps λb o e=>(l.bs b o e).1;let h:∀y ∈ ps.zip us,a.names.lookup y.1=some .local\/(a.names.lookup y.1=some .cell/\((cellsFrom 16#0 a.names []).lookup y.1).isSome=true):=λ⟨n,v⟩ hy=>by
  rcases S.par n (E4 hy).1 with q|q
  ·exact .inl q
  ·exact .inr {q,PySem.W.cellsFrom_some _ _ _ (.inl q)}
 let (B,_,_):=l.hok f _ O;let (i,_,_):=l.hok c' _ Y;let B:s.heap.get? f=some (PySem.W.kla_obj "<lambda>" q c d a [] pm c' j):=B;let i:s.heap.CodeRec (.ref c') q:=i;refine PySem.W.kla_callFunE p.depth B rfl S.co S.gen rfl i ?_;rw [U];refine i8 ?_;refine N6 S.kind h λG Z D x=>?_;subst Z;refine {m.keeps x.toInCall.keep,PySem.W.kla_codeExpr ?_};let (t,X,hq):=g (p.deeper _);let I:aV (hX CX P w K mg base N q a f (.ref c') A outer s H E) [] (dD N vs) H D:=oM S p.hd l L r x;refine y6 (X D (dD N vs) H _ I hq) (λu M C=>?_) λe M C=>C;let (v,F,J,T,z):=C;exact {(v),F,J.os,J.bare,J.base,J.hok,T,z}
end
end L2
namespace L2
open PySem PySem.Spec PyProof.Rows PySem.W
section
variable {H H' d:Hp} {σ:St} {o:Obj} {T:Addr} {pins:List 10#0} {s:Shared} {pos:Pos} {p:Int × Int}
structure tP (X:Cx) (a:Addr):Prop where
 up:X.s₀.heap.objs.size<=a
 neL:a≠X.env.locals
 nfs:a ∉ X.fs
 neC:∀x c,X.env.cells.lookup x=some c->c≠a
 neP:∀p ∈ X.pn,p.1≠a
section
variable {X:Cx} {pins pins':List (Addr × Obj)} {σ:St} {H:Hp} {s:Shared} {a:Addr} {o o':Obj} {h':Heap} {tk:Nat}
def tP.of (I:5#0) (h:s.heap.objs.size<=a):tP X a:=by
 refine {u8 I.sz h,M0 (p9 I.lt h),λd=>?_,λx c e z=>?_,λp g z=>?_}
 ·let (_,o,b,_):=I.ok.funs.mem d;exact absurd (p9 (i7 b) (u8 I.sz h)) (A3 _)
 ·let (v,o,b,_):=I.cell x c e;rw [z] at b;exact absurd (p9 (i7 b) h) (A3 _)
 ·let (e,_):=I.pin p (B9 _ g);rw [z] at e;exact absurd (p9 (i7 e) h) (A3 _)
def aV.wr (I:5#0) (q:(a,o) ∈ pins) (O:tP X a) (j:Heap.SameBut a s.heap h') (e:h'.get? a=some o') (l:∀v,o'.data≠.cell v) (c:∀p ∈ pins',(p ∈ pins/\p.1≠a)\/p=(a,o')):
  aV X pins' σ H { s with heap:=h',toks:=tk }:=by
 let (_,n,_):=I.pin (a,o) (j0 _ q);let r:aV X [] σ H s:=I.pins_of λp c=>absurd c 9#0;let k:=r.turned (h':=h') (t':=tk) (it:=a) (λb u h g=>(j.2 b h).trans g) n O.neL (.inr O.up) O.neC (λp c=>O.neP p (by simpa using c));refine k.pins_of λp i=>?_;rcases c p i with ⟨i,h⟩|rfl
 ·let (g,w,m,t,d):=I.pin p (j0 _ i);exact {(j.2 _ h).trans g,w,m,t,d}
 ·exact {(e),n,O.neL,O.nfs,l}
def aV.pinAt (I:5#0) (b:(a,o) ∈ pins):s.heap.get? a=some o:=(I.pin (a,o) (j0 _ b)).1
def aV.pinIn (I:5#0) (b:(a,o) ∈ pins):s.heap.get? a=some o/\H a=none/\a≠X.env.locals/\a ∉ X.fs/\∀v,o.data≠.cell v:=I.pin (a,o) (j0 _ b)
def hU {T:String} {xs:Array Value} {n:Nat}:∀v,(seqObj T xs n).data≠.cell v:=λv z=>by cases z
end
section
variable {X:Cx} {pins:List (Addr × Obj)} {σ:St} {H:Hp} {s:Shared} {A':Around} {E:Value->Shared->Prop} {D kS f:Addr} {vs:List Value} {xs:List V} {kz:List Int} {keys:Array Value} {e e1 n:Nat} {J:Hp->Prop} {P:PySem.Fin->Shared->Prop}
def zC {st:SortSt} (I:aV X ((kS,seqObj "list" keys e)::(D,seqObj "list" #[] e1)::pins) σ H s) (hJ:J H) (OD:tP X D) (Ok:tP X kS) (ne:kS≠D) (pk:∀p ∈ pins,p.1≠kS) (pD:∀p ∈ pins,p.1≠D)
  (hk:IntsAre keys.toList kz) (hlen:kz.length=vs.length) (hz:vs.length<=sizeLine) (hp:(arrOf st).Perm (keys.zip vs.toArray)) (hs:SortedTo 43#0 (arrOf st).size) (hfl:failedOf st=none)
  (h:∀s' H' (os:List Value) c,aV X ((D,seqObj "list" os.toArray c)::pins) σ H' s'->J H'->KskOut false kz vs os->P (.done (.ret .none)) s'):
  wpAny 4#0 A' (ksk_tail D false e1 (.ref kS) st) P E s:=by
 let nk:=I.pinAt (a:=kS) (o:=seqObj "list" keys e) 9#0;let na:=I.pinAt (a:=D) (o:=seqObj "list" #[] e1) 9#0;let hsz:keys.size=vs.length:=by
  let h1:=hk.length;rw [u9] at h1;omega
 let hsz2:(arrOf st).size=vs.length:=by rw [hp.size_eq,Array.size_zip,hsz,j7,Nat.min_self]
 let s1:=C9 s.heap kS 21#0;let na1:(s.heap.update kS 21#0).get? D=some (seqObj "list" #[] e1):=(s1.2 D ne.symm).trans na;let s2:=C9 (s.heap.update kS 21#0) D (Obj.mapSeq λ_=>(arrOf st).map (·.2));obtain⟨c1,hc1⟩:∃c1,(s.heap.update kS 21#0).get? kS=some (seqObj "list" #[] c1):={_,get?_update_seq nk λ_=>#[]};obtain⟨c2,hc2⟩:∃c2,((s.heap.update kS 21#0).update D (Obj.mapSeq λ_=>(arrOf st).map (·.2))).get? D=some (seqObj "list" ((arrOf st).map (·.2)) c2):=
  {_,get?_update_seq na1 λ_=>(arrOf st).map (·.2)}
 unfold ksk_tail
 try dsimp only
 refine d0 (listUpdate_at nk rfl ?_ (by rw [hsz];exact hz) (i9 _));refine d0 (Q0 ?_);refine d0 (seqEpoch_at na1 rfl ?_);refine d0 (listUpdate_at na1 rfl ?_ (i9 _) (by simp only [z7,if_false,Array.size_map];omega));rw [hfl];simp only [bne_self_eq_false,z7,if_false];let I1:=I.wr (a:=kS) (o:=seqObj "list" keys e) (tk:=s.toks) (pins':=(D,seqObj "list" #[] e1)::pins) 9#0 Ok s1 hc1 hU λp hp=>.inl ⟨g6 _ hp,by
  rcases i3.mp hp with rfl|hp
  ·exact ne.symm
  ·exact pk p hp⟩;let I2:=I1.wr (a:=D) (o:=seqObj "list" #[] e1) (tk:=s.toks) (pins':=(D,seqObj "list" ((arrOf st).map (·.2)) c2)::pins) 9#0 OD s2 hc2 hU λp hp=>by
  rcases i3.mp hp with rfl|hp
  ·exact .inr rfl
  ·exact .inl {g6 _ hp,pD p hp}
 let ko:=ksk_out (b:=false) hk hp hs;refine i8 (h _ H ((arrOf st).map (·.2)).toList c2 (by rw [Array.toArray_toList];exact I2) hJ ?_);simpa using ko
def Uv {n:Nat} (h:n<64):n<=sizeLine:=by have:=sizeLine_eq;omega
def Xd (I:aV X ((kS,seqObj "list" keys e)::(D,seqObj "list" #[] e1)::pins) σ H s) (hJ:J H) (OD:tP X D) (Ok:tP X kS) (ne:kS≠D) (pk:∀p ∈ pins,p.1≠kS) (pD:∀p ∈ pins,p.1≠D)
  (hk:IntsAre keys.toList kz) (hlen:kz.length=vs.length) (hz:vs.length<64)
  (h:∀s' H' (os:List Value) c,aV X ((D,seqObj "list" os.toArray c)::pins) σ H' s'->J H'->KskOut false kz vs os->P (.done (.ret .none)) s'):
  wpAny 4#0 A' (ksk_end D false vs.toArray e1 (.ref kS) keys) P E s:=by
 let hsz:keys.size=vs.length:=by
  let h1:=hk.length;rw [u9] at h1;omega
 let hzs:(keys.zip vs.toArray).size=vs.length:=by rw [Array.size_zip,hsz,j7,Nat.min_self]
 unfold ksk_end;simp only [z7,if_false];by_cases h2:vs.toArray.size<2
 ·rw [if_pos h2,if_pos h2];refine d0 51#0;rw [StateT.run_pure];refine d0 51#0
  try dsimp only
  refine zC (st:=SortSt.mk' general' (keys.zip vs.toArray) #[] 7 none) I hJ OD Ok ne pk pD hk hlen (Uv hz) (R6 _) ?_ rfl h;intro i j hij hj;let hj2:j<(keys.zip vs.toArray).size:=hj;rw [hzs] at hj2;rw [j7] at h2;have:i=j:=∎;subst this;exact j8 _
 ·rw [if_neg h2,if_neg h2];rw [j7] at h2;rw [ksk_kind hk (by rw [hsz];omega)];refine d0 51#0;refine d0 (y6 (wpS_sortRuns (a₀:=keys.zip vs.toArray) (st:=SortSt.mk' oneType' (keys.zip vs.toArray) #[] 7 none)
   (Q:=λ_ st'=>(arrOf st').Perm (keys.zip vs.toArray)/\failedOf st'=none/\SortedTo 36#0 (keys.zip vs.toArray).size)
   (ksk_intKeys hk) {R6 _,ρ,ρ,ρ} (by rw [hzs];omega) (by rw [hzs];exact hz) λst' p f s=>{(p),f,s}) ?_ λ_ _ e=>e);rintro⟨⟨⟩,st'⟩ s' ⟨rfl,hp,hf,hs⟩
  try dsimp only
  exact zC I hJ OD Ok ne pk pD hk hlen (Uv hz) hp (by rw [hp.size_eq];exact hs) hf h
def Qm (I:aV X ((kS,seqObj "list" #[] 0)::(D,seqObj "list" #[] e1)::pins) σ H s) (hJ:J H) (OD:tP X D) (Ok:tP X kS) (ne:kS≠D) (pk:∀p ∈ pins,p.1≠kS) (pD:∀p ∈ pins,p.1≠D)
  (rv:bA xs vs) (hlen:kz.length=vs.length) (hz:vs.length<64)
  (turn:∀(pins':List 10#0) (H':Hp) (s':Shared) (i:Nat) (x:V) (v:Value) (k:Int),aV X pins' σ H' s'->J H'->xs[i]?=some x->kz[i]?=some k->bF x v->wpAny 4#0 A' (call 59#0 [v]) (EP X pins' σ λy H''=>y=.int k/\J H'') (λ_ _=>False) s')
  (h:∀s' H' (os:List Value) c,aV X ((D,seqObj "list" os.toArray c)::pins) σ H' s'->J H'->KskOut false kz vs os->P (.done (.ret .none)) s'):
  wpAny 4#0 A' (ksk_rest D 59#0 false vs.toArray e1 (.ref kS)) P E s:=by
 unfold ksk_rest;refine d0 (F1 ?_)
 first
  | rw [List.forIn_toArray]
  | (rw [<- Array.forIn_toList];simp only [List.toList_toArray])
  | rw [<- Array.forIn_toList]
 refine d0 (ksk_fold (λi s'=>∃H' kA e,aV X ((kS,seqObj "list" kA e)::(D,seqObj "list" #[] e1)::pins) σ H' s'/\J H'/\IntsAre kA.toList (kz.take i)) vs 0 s
  {H,#[],0,I,hJ,by simpa using IntsAre.nil} ?step ?done)
 case step=>
  rintro j v s' hv ⟨H',kA,e,I',hJ',hk⟩;simp only [O8] at hk ⊢;let hj:j<vs.length:=(e8.mp hv).1;obtain⟨k,hkj⟩:∃k,kz[j]?=some k:={_,e7 ∎};obtain⟨x,hx,rx⟩:∃x,xs[j]?=some x/\bF x v:=by
   let ll:=rv.length;let (u,hu,r):=rv.get (e7 (show j<xs.length by omega));rw [hv] at hu;cases hu;exact {_,e7 ∎,r}
  let hz':kA.size<=vs.length:=by
   let h1:=hk.length;rw [u9,u6] at h1;omega
  refine d0 (J3 (y6 (turn _ H' s' j x v k I' hJ' hx hkj rx) (λu s'' he=>?_) λ_ _ hF=>hF.elim));let (y,H2,I2,ry,rfl,hJ2):=he;obtain⟨t2,rfl⟩:∃t,u=.int k t:=ry
  try dsimp only
  let nk:=I2.pinAt (a:=kS) (o:=seqObj "list" kA e) 9#0;let s1:=C9 s''.heap kS (Obj.mapSeq (·.push (.int k t2)));obtain⟨c2,hc2⟩:∃c2,(s''.heap.update kS (Obj.mapSeq (·.push (.int k t2)))).get? kS=some (seqObj "list" (kA.push (.int k t2)) c2):={_,get?_update_seq nk (·.push (.int k t2))};let ek:kz.take (j+1)=kz.take j++[k]:=by rw [A5,hkj];simp
  let ea:(kA.push (Value.int k t2)).toList=kA.toList++[Value.int k t2]:=by simp
  let slz:=sizeLine_eq;refine d0 (listUpdate_at nk rfl ?_ ∎ (u8 (D6 (O3 ..)) ∎));refine i8 {ρ,H2,kA.push (.int k t2),c2,I2.wr (a:=kS) (o:=seqObj "list" kA e) (tk:=s''.toks) 9#0 Ok s1 hc2 hU (λp hp=>?_),hJ2,by rw [ea,ek];exact ksk_snoc hk};rcases i3.mp hp with rfl|hp
  ·exact .inr rfl
  ·refine .inl {g6 _ hp,?_};rcases i3.mp hp with rfl|hp
   ·exact ne.symm
   ·exact pk p hp
 case done=>
  rintro s' ⟨H',kA,e,I',hJ',hk⟩;let hk':IntsAre kA.toList kz:=by
   let e3:kz.take (0+vs.length)=kz:=v6 ∎;rw [e3] at hk;exact hk
  let nk:=I'.pinAt (a:=kS) (o:=seqObj "list" kA e) 9#0
  try dsimp only
  refine d0 (listItems_at nk rfl ?_);exact Xd I' hJ' OD Ok ne pk pD hk' hlen hz h
def Ln (I:aV X ((D,seqObj "list" vs.toArray n)::pins) σ H s) (hJ:J H) (OD:tP X D) (pD:∀p ∈ pins,p.1≠D) (rv:bA xs vs) (hlen:kz.length=vs.length) (hz:vs.length<64)
  (turn:∀(pins':List 10#0) (H':Hp) (s':Shared) (i:Nat) (x:V) (v:Value) (k:Int),aV X pins' σ H' s'->J H'->xs[i]?=some x->kz[i]?=some k->bF x v->wpAny 4#0 A' (call 59#0 [v]) (EP X pins' σ λy H''=>y=.int k/\J H'') (λ_ _=>False) s')
  (h:∀s' H' (os:List Value) c,aV X ((D,seqObj "list" os.toArray c)::pins) σ H' s'->J H'->KskOut false kz vs os->P (.done (.ret .none)) s'):
  wpAny 4#0 A' (ksk_tree D 59#0 false) P E s:=by
 let ho:=I.pinAt (a:=D) (o:=seqObj "list" vs.toArray n) 9#0;let ha:D<s.heap.objs.size:=i7 ho;let s1:=C9 s.heap D 21#0;obtain⟨e1,ho1⟩:∃e1,(s.heap.update D 21#0).get? D=some (seqObj "list" #[] e1):={_,get?_update_seq ho λ_=>#[]};let I1:=I.wr (a:=D) (o:=seqObj "list" vs.toArray n) (tk:=s.toks) (pins':=(D,seqObj "list" #[] e1)::pins) 9#0 OD s1 ho1 hU λp hp=>by
  rcases i3.mp hp with rfl|hp
  ·exact .inr rfl
  ·exact .inl {g6 _ hp,pD p hp}
 let I2:=I1.kept (h':=(s.heap.update D 21#0).push (seqObj "tuple" vs.toArray 0)) (t':=s.toks) λb u g=>g8 _ g;let I3:=I2.kept (h':=((s.heap.update D 21#0).push (seqObj "tuple" vs.toArray 0)).push 41#0) (t':=s.toks) λb u g=>g8 _ g;let Ok:=tP.of I2 (g9 _);let nH:H ((s.heap.update D 21#0).push (seqObj "tuple" vs.toArray 0)).objs.size=none:=I2.hok.fresh (g9 _);let lt2:∀p ∈ (D,seqObj "list" #[] e1)::pins,p.1<((s.heap.update D 21#0).push (seqObj "tuple" vs.toArray 0)).objs.size:=λp hp=>i7 (I2.pinAt (a:=p.1) (o:=p.2) hp);unfold ksk_tree;refine d0 (listItems_at ho rfl ?_);refine d0 (listUpdate_at ho rfl ?_ (by rw [j7];exact Uv hz) (i9 _));refine d0 (seqEpoch_at ho1 rfl ?_);refine d0 (S0 ?_ (Uv hz));refine d0 (Q4 ?_ (i9 _));refine w9 ?_;refine Qm (e1:=e1) (I3.pins_of λp hp=>?_) hJ OD Ok (M0 (lt2 (D,seqObj "list" #[] e1) 9#0)) (λp hp=>j9 (lt2 p (g6 _ hp))) pD rv hlen hz turn h;rcases i3.mp hp with rfl|hp
 ·exact {j3 _ rfl,nH,Ok.neL,Ok.nfs,hU}
 ·exact I3.pinIn (a:=p.1) (o:=p.2) hp
end
def dQ (v d:Addr):HO:=.ext λh=>h.IsValuesView v d
def Kp {P:Program} {w:World} {h:Heap} {v d:Addr} (x:h.IsValuesView v d):bL P w H h v (dQ v d):=⟨x,let ⟨o,e,_⟩:=x;{(o),e},λb a ⟨o,e,r⟩ k=>{o,k o e,r}⟩
def FV (a:Addr) (o:Obj) (kvs:List (bJ × V)):It:=
 ⟨λi H=>H a=some (.frz o 45#0)/\i<kvs.length,λi H x H'=>H'=H/\∃e,kvs[i]?=some e/\x=e.2,λi H=>H a=some (.frz o 45#0)/\kvs.length<=i⟩
theorem KV.at {kvs:List (bJ × V)} {vs:List (bJ × Value)} (r:KV kvs vs) {i:Nat} {k:bJ} {v:Value} (e:vs[i]?=some (k,v)):∃p,kvs[i]?=some p/\bF p.2 v:=by
 induction r generalizing i with
 | nil=>simp at e
 | cons h t ih=>
  cases i with
  | zero=>
   simp only [List.getElem?_cons_zero,Option.some.injEq] at e;subst e;exact {_,ρ,h.2}
  | succ i=>
   simp only [List.getElem?_cons_succ] at e ⊢;exact ih e
def Hj {P:Program} {l:Option Value} {w:World} {K:Frag} {tg:Expr} (a it:Addr) (o:Obj) (kvs:List (bJ × V)) {O:Array DictEntry} {ep:Nat} (L:o.data=.dict O ep) (e0:l=none):Aa P w K l tg (FV a o kvs) [it] it (λi h=>h.IsValIter it a i kvs.length ep) where
 mem:=by simp
 obj:=λi h j b g=>by
  let e:b=it:=by simpa using g
  subst e
  let (o,e,c,d):=j
  exact {o,e,λv z=>by rw [d] at z;cases z}
 keep:=λi h n ⟨o,e,r⟩ k=>{o,k it 9#0 o e,r}
 item:=by
  intro X A y B N i f s σ H E I t j G;subst A y B;let (e,hi):=G;let (C,r,D):=Gp I e L;let q:=r.length;let (u,F,S,J,f4,x):=t it 9#0;obtain⟨⟨k,v⟩,M⟩:∃p,C[i]?=some p:={C[i],e7 ∎};refine wpAny_pyNext_values_item (by rw [<- q];exact j) D M λn m T=>?_;let I1:aV X f σ H { s with heap:=n }:=I.turned (t':=s.toks) (λb o g e=>(T.2 b g).trans e) u F J f4 x;let (oi,U,Z,di):=id m;let (p,Q,Y):=KV.at r M;refine {v,ρ,uW (s:={ s with heap:=n }) U Z di 8#0 {p.2,H,I1,Y,{(rfl),p,Q,ρ},by rw [q];exact m,λb g=>(t b g).1}}
 done:=by
  intro X A y B N i f s σ H E I t j G;subst A y B;let (e,hi):=G;let (C,r,D):=Gp I e L;let q:=r.length;let (u,F,S,J,f4,x):=t it 9#0;exact wpAny_pyNext_values_end (N.trans e0) (by rw [<- q];exact j) D (B7 ∎) λn eb=>{ρ,I.turned (t':=s.toks) (λb o g e=>eb b o g e) u F J f4 x}
 self:=λ_ _ _ _ _ j h=>wpAny_pyIter_valiter j h
section
variable {X:Cx} {tg:Expr}
def Zt:V->List V->Hp->VK->Prop:=λx vs H Q=>∃a kvs,x=.ref a/\vs=[]/\H a=some 45#0/\∀v,H v=none->Q (.ref v) (upd H v (dQ v a))
def Im:LZ X "dict.values" Zt:=by
 intro i s σ H x t v p Q I l n h;let (a,c,rfl,rfl,j,q):=h;cases l;let f:=n.zero;subst f;let (o,k,d,r,g):=(show bL X.prog X.w H s.heap a (.dK c) from I.hok a _ j);refine call_meetsIn PySem.F.slot_dict_values g.typeIs PySem.F.entry_dict_values (PySem.F.args_dict_values_1 _) (meets_dict_values (cD X.prog X.w) a k) {{(d),g},?_};let m:H s.heap.objs.size=none:=I.hok.fresh (g9 _);exact {.ref s.heap.objs.size,_,I.laid (a:=s.heap.objs.size) (t':=s.toks) (λb u e=>g8 _ e) (g9 _) (Kp {_,j3 _ rfl,ρ,ρ}),ρ,q _ m}
def mQ {o:Expr} {e:TE} {a b:Pos} (f:PE X o e) (c:attributeBase o "values" X.env (eval o X.env)=eval o X.env:=by rfl) (d:(a.endLine == b.line)=true:=by rfl):PE X (.Call (.Attribute o "values" a) [] [] b) (HG X.K "dict" Zt e):=
 DG PySem.F.plainAttrs_dict PySem.F.slot_dict_values PySem.F.type_dict_values Im f c d
def IU (tl:TE):TI:=λσ H R=>tl σ H λx H1=>∃v a kvs,x=.ref v/\H1 v=some (dQ v a)/\H1 a=some 45#0/\∀o,R (FV a o kvs) (upd H1 a (.frz o 45#0))
def pQ {l:Expr} {n:TE} (E:PE X l n) (j:X.calm=true:=by rfl):PI X tg l (IU n):=by
 intro y s σ H R I h;refine eP (E s σ H _ I h) λu i x A m G F=>?_;let (v,a,kvs,e,D,t,q):=F;subst e;cases G;let (f,_,_):=m.hok v _ D;let f:i.heap.IsValuesView v a:=f;let (o,p,k):=m.freeze t;let (N,M,C,r,O,z,ep,g,c,d,L,B,J):=(show bL X.prog X.w A i.heap a 45#0 from m.hok a _ t);rw [p] at g;cases g;refine wpAny_pyIter_values (knd:=cD X.prog X.w) (kvs:=C) (ep:=ep) f {(o),z,p,c,d,L,B,J} ?_;refine {i.heap.objs.size,[i.heap.objs.size],_,_,_,ρ,k.kept (t':=i.toks) λb o e=>g8 _ e,Hj a _ o kvs d (I.ok.hd j),?_,λb K=>?_,q o}
 ·exact {_,j3 _ rfl,ρ,by rw [r.length];rfl}
 ·let e:b=i.heap.objs.size:=by simpa using K
  subst e;exact k.fpOk (g9 _) (k.hok.fresh (g9 _))
def zF {a:Addr} {kvs:List (bJ × V)} {g:TG} {tb:TS} {D:dH} (b:Nat->St->Hp->Prop) (u:b 0 σ H) (v:∀i σ H,i<=kvs.length->b i σ H->H a=some (.frz o 45#0))
  (s:∀i e σ H,kvs[i]?=some e->b i σ H->g e.2 σ H λf h=>tb { D with nx:=b (i+1),ct:=b (i+1),bk:=D.nx } f h) (l:∀ σ H,b kvs.length σ H->D.nx σ H):
  ∃W:Nat->Nat->St->Hp->Prop,(∃m,W 0 m σ H)/\∀i m σ H,W i m σ H ->
   ((FV a o kvs).stop i H/\D.nx σ H)\/((FV a o kvs).go i H/\∃N:St->Hp->Prop,(∀j c,N j c->∃k,k<m/\W (i+1) k j c)/\∀x c,(FV a o kvs).yld i H x c->g x σ c λf h=>tb { D with nx:=N,ct:=N,bk:=D.nx } f h):=by
 refine {λi m σ H=>m=kvs.length-i/\i<=kvs.length/\b i σ H,{kvs.length,by simp,i9 _,u},?_};rintro i m σ H ⟨rfl,r,p⟩;let q:=v i σ H r p;by_cases d:i<kvs.length
 ·refine .inr {{(q),d},b (i+1),λj c n=>{kvs.length-(i+1),∎,ρ,d,n},λx c y=>?_};let (rfl,e,t,rfl):=y;exact s i e σ _ t p
 ·let e:i=kvs.length:=∎;subst e;exact .inl {{q,g9 _},l σ H p}
end
def Hc (X:Cx) (A':Around) (σ:St) (f:Addr) (J:Hp->Prop) (x:V) (φ:Hp->V->Hp->Prop):Prop:=∀(pins':List 10#0) (H':Hp) (s':Shared) (v:Value),aV X pins' σ H' s'->J H'->bF x v ->
 wpAny 4#0 A' (call 59#0 [v]) (EP X pins' σ λy H''=>φ H' y H''/\J H'') (λ_ _=>False) s'
def Gc {X:Cx} {i:Around} {k:Nat} {f c':Addr} {q p:Str} {c:Arguments} {d:Expr} {a:Scope} {pm l:Value} {N:List Str} {tb:TE} {J:Hp->Prop} {x:V} {φ:Hp->V->Hp->Prop}
  (L:∀b,J b->b f=some (Jc f (kla_obj "<lambda>" q c d a [] pm c' l))) (o:∀b,J b->b c'=some (sO c' q)) (C:X.A.frames=some X.stack->i.frames=some X.stack) (D:Room (k+1) i) (S:aL N [p] a) (O:∀u,bindArgs (kla_fn "<lambda>" q c d a [] pm (.ref c') l) {[u],[]}=pure [(p,u)])
  (g:∀(s:Shared) (H:Hp),Room k (i.deeper (envOfC q a s.heap.objs.size f (.ref c')))->PE (hX dI X.prog X.w X.K X.mg X.base N q a f (.ref c') i X.stack s H E0).nox d tb)
  (G:∀b,J b->tb (dD N [x]) b (λy m=>φ b y m/\J m)):Hc X i σ f J x φ:=by
 intro t b B v I j r;let P:=L b j;let Q:=o b j;let M:=G b j;let h:=I.env0;let F:tD X.prog X.w X.K X.mg X.base i X.stack B b:={C I.ok.frames,h.mod,h.bs,h.bsz,h.funs,h.frf,h.hok,h.bare};refine M9 (G7 (Xb (CX:=dI) (E:=E0) (us:=[v]) (vs:=[x]) P Q S D F (O v) (.cons r .nil) rfl λz=>{tb,(g B b z).nox,M}) λr T n=>?_);cases r with
 | error e=>exact n
 | ok fl=>
  cases fl with
  | ret u=>exact I.after n
  | next=>exact False.elim n
  | brk=>exact False.elim n
  | cont=>exact False.elim n
def aV.track {X:Cx} {D:Addr} {u:HO} (I:aV X ((D,o)::pins) σ H s) (O:tP X D) (j:∀p ∈ pins,p.1≠D) (h:bL X.prog X.w (upd H D u) s.heap D u):aV X pins σ (upd H D u) s:=by
 let n:H D=none:=(I.pinIn (a:=D) (o:=o) 9#0).2.1;let g:aV X pins σ H s:=I.pins_of λp hp=>I.pinIn (a:=p.1) (o:=p.2) (g6 _ hp);let d:∀b v,H b=some v->(upd H D u) b=some v:=λb v e=>by rw [aC (aD e n)];exact e
 refine g.step (h':=s.heap) (g':=s.gens) (t':=s.toks) (d':=s.drawn) (ch:=[D]) (λb f=>?_) (λb o _ _ _ e _=>e) (λb o _ _ _ e _=>{(o.slots),e}) (λb o f e z=>?_) (λb o _ e=>{(o),e}) (λb i e=>d b _ e) (λb o v e=>d b _ e) (λb l e=>{#[],by rw [d b _ e];simp}) (λm z=>z) (λb v e=>?_) g.bare
 ·let z:b=D:=by simpa using f
  subst z;refine {.inr O.up,O.neL,O.neC,λp hp=>?_};rcases j6.mp hp with hp|hp
  ·exact O.neP p hp
  ·exact j p hp
 ·rw [aC (λy=>f (by simp [y]))];exact z
 ·by_cases f:b=D
  ·subst f;rw [aB] at e;cases e;exact h
  ·rw [aC f] at e;exact(g.hok b v e).stay (λc k _ r=>r) (λc z=>d c _ z) λc i z=>d c _ z
theorem rG {α β:Type} (g:α->β):∀{ps:List β} {L:List α},ps.Perm (L.map g)->∃L':List α,L'.Perm L/\ps=L'.map g
 | [],L,h=>by
  have:L.map g=[]:=List.perm_nil.mp h.symm
  exact {[],by rw [List.map_eq_nil_iff.mp this],ρ}
 | a::ps,L,h=>by
  let (l,j,rfl):=v8.mp (h.mem_iff.mp (i4 ..))
  let (c,b,rfl):=List.append_of_mem j
  have e:(c++l::b).Perm (l::(c++b)):=List.perm_middle
  have i:(g l::ps).Perm (g l::(c++b).map g):=h.trans (by simpa using e.map g)
  let (L',d,f):=rG g i.cons_inv
  exact {l::L',(d.cons l).trans e.symm,by rw [x9,f]}
def Tk (kz:List Int) (xs ys:List V):Prop:=∃ps:List (Int × V),ps.Perm (kz.zip xs)/\ys=ps.map (·.2)/\ps.Pairwise (λp q=>p.1<=q.1)
def Ko {xs:List V} {vs:List Value} (h:bA xs vs) (p:V × Value) (a:p ∈ xs.zip vs):bF p.1 p.2:=by
 induction h with
 | nil=>cases a
 | cons r _ t=>
  cases a with
  | head=>exact r
  | tail _ h=>exact t h
theorem Dv:∀{L:List (V × Value)},(∀p ∈ L,bF p.1 p.2)->bA (L.map (·.1)) (L.map (·.2))
 | [],_=>.nil
 | p::L,h=>.cons (h p (i4 ..)) (Dv λq a=>h q (g6 _ a))
def Rx {kz:List Int} {xs:List V} {vs d:List Value} (e:bA xs vs) (h:KskOut false kz vs d):∃c,bA c d/\Tk kz xs c:=by
 let (m,a,rfl,b):=h;let l:=e.length;let j:(kz.zip (xs.zip vs)).map (λt=>(t.1,t.2.2))=kz.zip vs:=by
  have:(xs.zip vs).map (·.2)=vs:=F9 ∎
  conv=>rhs;rw [<- this]
  rw [List.zip_map_right];rfl
 let k:(kz.zip (xs.zip vs)).map (λt=>(t.1,t.2.1))=kz.zip xs:=by
  have:(xs.zip vs).map (·.1)=xs:=List.map_fst_zip ∎
  conv=>rhs;rw [<- this]
  rw [List.zip_map_right];rfl
 rw [<- j] at a;let (L,f,rfl):=rG _ a;refine {L.map (·.2.1),?_,L.map (λt=>(t.1,t.2.1)),by rw [<- k];exact f.map _,by rw [C2];rfl,?_}
 ·have:=Dv (L:=L.map (·.2)) λp i=>by
   let (t,g,rfl):=v8.mp i;exact Ko e t.2 (E4 (f.mem_iff.mp g)).2
  rw [C2,C2] at this;rw [C2];exact this
 ·rw [List.pairwise_map] at b ⊢;exact b.imp λh=>by simpa using h
def Xc {kvs:List (bJ × V)} {vs:List (bJ × Value)} (h:KV kvs vs):bA (kvs.map (·.2)) (vs.map (·.2)):=by
 induction h with
 | nil=>exact .nil
 | cons h _ t=>exact .cons h.2 t
section
variable {X:Cx}
def Nw (X:Cx) (σ:St):List V->List V->Hp->VK->Prop:=λxs ds H Q=>∃(v a f:Addr) (kvs:List (bJ × V)) (kz:List Int) (J:Hp->Prop),xs=[.ref v]/\ds=[.ref f]/\H v=some (dQ v a)/\H a=some 45#0/\J H/\kz.length=kvs.length/\kvs.length<64 /\
 (∀(i:Nat) (e:bJ × V) (k:Int),kvs[i]?=some e->kz[i]?=some k->Hc X X.A.in1.in1 σ f J e.2 λ_ y _=>y=.int k)/\∀l ys H',J H'->H' l=none->Tk kz (kvs.map (·.2)) ys->Q (.ref l) (upd H' l (.lst ys))
def Cz (hc:X.calm=true) {pins:List 10#0} {s:Shared} {σ:St} {H:Hp} {xs ds:List V} {us ws:List Value} {Q:VK} (I:5#0) (r:bA xs us) (rd:bA ds ws) (h:Nw X σ xs ds H Q):
  wpAny 4#0 X.A (call (.builtin "sorted") us ([("key":Str)].zip ws)) 44#0 X.xe s:=by
 let (v,a,f,kvs,kz,J,rfl,rfl,hv,ha,hJ,hkl,h64,hkey,q):=h;let (u,rfl,ru):=r.one;cases ru;let (u',rfl,ru'):=rd.one;cases ru';let (view,_,_):=I.hok v _ hv;let view:s.heap.IsValuesView v a:=view;let (hz,hS,vs,rkv,o',es,ep,g,c,d,k1,k2,k3):=(show bL X.prog X.w H s.heap a 45#0 from I.hok a _ ha);let ln:=rkv.length;show wpAny _ _ (call (.builtin "sorted") [.ref v] [(Str.ofString "key",.ref f)]) _ _ _;refine call_function_entry_kw kind_sorted plain_sorted entry_sorted (ksk_s1 _ _) ?_;unfold Builtin.«sorted»;refine d0 (m:=checkCount "sorted" 1 1 _) 51#0;refine d0 (kdu_collect (kdl_values (knd:=cD X.prog X.w) (kvs:=vs) (ep:=ep)) (by simpa using I.ok.hd hc) {(view),o',es,g,c,d,k1,k2,k3} ∎ λh' tk acc hk hacc=>?_)
 let av:acc.toList=vs.map (·.2):=kdl_vals_eq _ (by rw [u9];exact hacc.1) λj x hx=>hacc.2 j x (by rw [<- R0];exact hx)
 rw [av];let I1:aV X pins σ H { s with heap:=h',toks:=tk }:=I.kept hk;let rv:bA (kvs.map (·.2)) (vs.map (·.2)):=Xc rkv;let lv:(vs.map (·.2)).length<=sizeLine:=by rw [g7];omega
 refine d0 (Q4 ?_ (by rw [g7];omega));let OD:tP X h'.objs.size:=tP.of I1 (g9 _);let nD:H h'.objs.size=none:=I1.hok.fresh (g9 _);let I2:aV X pins σ H { s with heap:=h'.push (seqObj "list" (vs.map (·.2)).toArray 0),toks:=tk }:=I1.kept λb o e=>g8 _ e;let hoL:(h'.push (seqObj "list" (vs.map (·.2)).toArray 0)).get? h'.objs.size=some (seqObj "list" (vs.map (·.2)).toArray 0):=j3 _ rfl;let pD:∀p ∈ pins,p.1≠h'.objs.size:=λp hp=>j9 (i7 (I1.pinAt (a:=p.1) (o:=p.2) hp));let I3:aV X ((h'.objs.size,seqObj "list" (vs.map (·.2)).toArray 0)::pins) σ H { s with heap:=h'.push (seqObj "list" (vs.map (·.2)).toArray 0),toks:=tk }:=I2.pins_of λp hp=>by
  rcases i3.mp hp with rfl|hp
  ·exact {(hoL),nD,OD.neL,OD.nfs,hU}
  ·exact I2.pinIn (a:=p.1) (o:=p.2) hp
 refine d0 (w9 (wpAny_call_entry_kw slot_list_sort {_,hoL,ρ} entry_list_sort ?body (ksk_l1 _ _)))
 case body=>
  show wpAny 4#0 X.A.in1.in1 (Builtin.«list.sort» {[.ref h'.objs.size],[(Str.ofString "key",.ref f)]}) _ _ _;rw [ksk_t1];refine Ln (kz:=kz) (J:=J) I3 hJ OD pD rv (by rw [g7];omega) (by have:=rkv.length;rw [g7];omega) (λpins' H' s' i x v k I' j hx hk' rx=>?_) λs' H' os c' I' j ko=>?_
  ·rw [j1] at hx;cases hi:kvs[i]? with
   | none=>rw [hi] at hx;cases hx
   | some e=>
    rw [hi] at hx;cases hx;exact hkey i e k hi hk' pins' H' s' v I' j rx
  ·let (ys,ry,bk):=Rx rv ko;let ly:ys.length<=sizeLine:=by
    let (ps,p1,rfl,_):=bk;have:=p1.length_eq;rw [A1,g7] at this;rw [g7];omega
   let nD':H' h'.objs.size=none:=(I'.pinIn (a:=h'.objs.size) (o:=seqObj "list" os.toArray c') 9#0).2.1;let eD:=I'.pinAt (a:=h'.objs.size) (o:=seqObj "list" os.toArray c') 9#0;refine {.none,ρ,i8 {.ref h'.objs.size,ρ,.ref h'.objs.size,_,I'.track (u:=.lst ys) OD pD {(ly),os,c',ry,eD},ρ,q _ ys H' j nD' bk}}
def AZ (X:Cx) (ta td:TA):TE:=λσ H Q=>ta σ H λxs H1=>td σ H1 λds H2=>Nw X σ xs ds H2 Q
def Oe {x:Str} {p c:Pos} {a b:Expr} {m l:TA} (B:X.calm=true) (A:Gl X x) (D:X.mg x=none) (v:bootBuiltins x=some (.builtin "sorted")) (y:PA X [a] m) (n:PK X [{some "key",b,c}] l) (z:x≠"__name__":=by decide) (f:27#0=false:=by decide)
  (e:(backToKw pos (keywordEach [{some "key",b,c}] X.env)).all (·.1.isSome)=true:=by rfl) (i:(backToKw pos (keywordEach [{some "key",b,c}] X.env)).filterMap (·.1)=[("key":Str)]:=by rfl)
  (C:starEach [a] X.env=(false,eval a X.env)::starEach [] X.env:=by rfl) (j:((backTo pos (starEach [a] X.env)).any (·.1) || (backToKw pos (keywordEach [{some "key",b,c}] X.env)).any (·.1.isNone))=false:=by rfl):
  PE X (.Call (.Name x p) [a] [{some "key",b,c}] pos) (AZ X m l):=by
 intro d s σ H Q I h;refine D7 (jY I A D v ?_ z f);refine PySem.W.callWith_of (P:=λg=>X.K.In g) j (λ_ _=>{.machine,.inr (.inl rfl),.now}) (O2 e (vM (y d s σ H _ I h) λM u F o w r q=>?_) C);refine vM (n pos d u σ o _ w q) λJ L G N k t E=>{k.kIn,?_};rw [i];exact Cz B k r t E
def lH (p q:Int × Int):Prop:=p.1<q.1\/(p.1=q.1/\p.2<q.2)
instance (p q:Int × Int):Decidable (lH p q):=by unfold lH;infer_instance
def Iq (p q:Int × Int):HT.lexLt [p.1,p.2] [q.1,q.2]=decide (lH p q):=by
 rw [E3,decide_eq_true_eq];simp only [HT.lexLt_cons,HT.lexLt_nil_nil,lH];split
 ·split
  ·simp;omega
  ·simp;omega
 ·simp;omega
def Io {q r:Int × Int} (a:lH p q) (h2:¬ lH r q):lH p r:=by
 unfold lH at *;omega
def Wy {q r:Int × Int} (a:lH p q) (h2:¬ lH r q):¬ lH r p:=by
 unfold lH at *;omega
def Fz:¬ lH p p:=by
 unfold lH;omega
def JQ (k:Int × Int):Hp->V->Hp->Prop:=λH' y H''=>(∃t,y=.ref t/\H'' t=some (.tup [.int k.1,.int k.2]))/\∀b xs,H' b=some (.tup xs)->H'' b=some (.tup xs)
def aV.wrK {X:Cx} {pins':List 10#0} {a:Addr} {o':Obj} {h':Heap} {tk:Nat} (I:5#0) (r:(a,o) ∈ pins) (O:tP X a) (j:∀b u,b≠a->s.heap.get? b=some u->h'.get? b=some u) (e:h'.get? a=some o') (m:∀v,o'.data≠.cell v) (c:∀p ∈ pins',(p ∈ pins/\p.1≠a)\/p=(a,o')):
  aV X pins' σ H { s with heap:=h',toks:=tk }:=by
 let (_,n,_):=I.pin (a,o) (j0 _ r);let t:aV X [] σ H s:=I.pins_of λp c=>absurd c 9#0;let k:=t.turned (h':=h') (t':=tk) (it:=a) (λb u h g=>j b u h g) n O.neL (.inr O.up) O.neC (λp c=>O.neP p (by simpa using c));refine k.pins_of λp i=>?_;rcases c p i with ⟨i,h⟩|rfl
 ·let (g,x,q,w,d):=I.pin p (j0 _ i);exact {j _ _ h g,x,q,w,d}
 ·exact {(e),n,O.neL,O.nfs,m}
def aV.listAt {X:Cx} {l:Addr} {ps:List Addr} (I:5#0) (h:H l=some (.lst (ps.map V.ref))):s.heap.IsList l (ps.map Value.ref).toArray/\ps.length<=sizeLine:=by
 let (b,r,a,z):=I.list (cQ.of h);rw [xZ r] at a;rw [g7] at z;exact {(a.isList),z}
def sC {l:Addr} {i:Int} (a:o.data=.fields #[.ref l,.int i 0]):∀v,o.data≠.cell v:=λv z=>by rw [a] at z;cases z
section
variable {pins:List (Addr × Obj)} {σ:St} {l f I S:Addr} {ps:List Addr} {J:Hp->Prop} {R:Result->Shared->Prop}
def Pz (kf:Nat->Int × Int) (hh:X.A.handled=none) (hu:X.A.in1.units<cLine) (OI:tP X I) (OS:tP X S) (hSI:S≠I) (hlI:l≠I) (pI:∀p ∈ pins,p.1≠I) (pS:∀p ∈ pins,p.1≠S)
  (hJl:∀H',J H'->H' l=some (.lst (ps.map V.ref)))
  (turn:∀(i:Nat) (p:Addr),ps[i]?=some p->Hc X X.A.in1 σ f J 49#0 (JQ (kf i)))
  (hR:∀i p s' H',ps[i]?=some p->(∀j,j<ps.length->¬ lH (kf j) (kf i)/\(j<i->lH (kf i) (kf j)))->aV X pins σ H' s'->J H'->R (.ok (.ret 49#0)) s'):
  ∀(r j i:Nat) (s:Shared) (H:Hp) (pb kb:Addr) (c:Nat) (oI:Obj),ps.length-(j+1)=r->j+1<=ps.length->aV X ((S,seqObj "list" #[.ref pb,.ref kb] c)::(I,oI)::pins) σ H s->J H ->
   oI.cls=.type "list_iterator"->oI.data=.fields #[.ref l,.int ((j+1:Nat):Int) 0]->H kb=some (.tup [.int (kf i).1,.int (kf i).2])->ps[i]?=some pb->i<=j->(∀j',j'<=j->¬ lH (kf j') (kf i)/\(j'<i->lH (kf i) (kf j'))) ->
   codeAny 4#0 X.A (.builtin "min.loop" {[.ref I,.ref f,.ref S],[]}) R s:=by
 let hname:(toString "min"++toString ".loop":String)="min.loop":=by decide
 let W:=Walks.list (prog:=X.prog) (w:=X.w) (A:=X.A.in1) hh I l hlI (ps.map Value.ref).toArray;let hsz:(ps.map Value.ref).toArray.size=ps.length:=by simp
 intro r
 induction r with
 | zero=>
  intro j i s H pb kb c oI hr hj Iv hJ oc od hk hpb hij hbest;let hin:j+1=ps.length:=∎;let nS:=Iv.pinAt (a:=S) (o:=seqObj "list" #[.ref pb,.ref kb] c) 9#0;let nI:=Iv.pinAt (a:=I) (o:=oI) 9#0;let (isL,_):=Iv.listAt (hJl H hJ);refine K7 PySem.F.entry_min_loop ?_;rw [N4 PySem.F.plain_min_loop _];show wpAny _ X.A.in1 (seqItems? (.ref S) >>= _) _ _ _;refine d0 (J9 nS rfl ?_);show wpAny _ X.A.in1 (tryCatch (pyNext (.ref I)) _ >>= _) _ _ _;refine d0 (M7 (W.done _ _ _ {by rw [hsz,<- hin];exact {(oI),nI,oc,od},isL} λh' tk' hk'=>?_));let I0:aV X ((S,seqObj "list" #[.ref pb,.ref kb] c)::pins) σ H s:=Iv.pins_of λp hp=>Iv.pinIn (a:=p.1) (o:=p.2) (by
   rcases i3.mp hp with rfl|hp
   ·simp
   ·exact g6 _ (g6 _ hp));let I1:aV X ((S,seqObj "list" #[.ref pb,.ref kb] c)::pins) σ H { s with heap:=h',toks:=tk' }:=I0.turned (it:=I) (t':=tk') (λb o ne e=>hk' b o (by simpa using ne) e) (Iv.pinIn (a:=I) (o:=oI) 9#0).2.1 OI.neL (.inr OI.up) OI.neC (λp hp=>by
   rcases j6.mp hp with hp|hp
   ·exact OI.neP p hp
   ·rcases i3.mp hp with rfl|hp
    ·exact hSI
    ·exact pI p hp);let hS':=I1.pinAt (a:=S) (o:=seqObj "list" #[.ref pb,.ref kb] c) 9#0;let s1:=C9 h' S 21#0;obtain⟨c2,hc2⟩:∃c2,(h'.update S 21#0).get? S=some (seqObj "list" #[] c2):={_,get?_update_seq hS' λ_=>#[]};show wpAny _ X.A.in1 (updateSeq S (λ_=>#[]) >>= _) _ _ _;refine d0 ?_;refine wpAny_updateSeq hS' rfl (d0 (Q0 51#0));let I2:=I1.wr (a:=S) (o:=seqObj "list" #[.ref pb,.ref kb] c) (tk:=tk') (pins':=pins) 9#0 OS s1 hc2 hU λp hp=>.inl {g6 _ hp,pS p hp};exact hR i pb _ H hpb (λj' hj'=>hbest j' ∎) I2 hJ
 | succ r ih=>
  intro j i s H pb kb c oI hr hj Iv hJ oc od hk hpb hij hbest;let hlt:j+1<ps.length:=∎;let nS:=Iv.pinAt (a:=S) (o:=seqObj "list" #[.ref pb,.ref kb] c) 9#0;let nI:=Iv.pinAt (a:=I) (o:=oI) 9#0;let (isL,_):=Iv.listAt (hJl H hJ);refine K7 PySem.F.entry_min_loop ?_;rw [N4 PySem.F.plain_min_loop _];show wpAny _ X.A.in1 (seqItems? (.ref S) >>= _) _ _ _;refine d0 (J9 nS rfl ?_);show wpAny _ X.A.in1 (tryCatch (pyNext (.ref I)) _ >>= _) _ _ _;refine d0 (M7 (W.item (j+1) _ _ _ (by rw [hsz];exact hlt) {{(oI),nI,oc,od},isL} λv h' tk' hP hst' hk'=>?_));obtain⟨p,hp,rfl⟩:∃p,ps[j+1]?=some p/\v=.ref p:=by
   let hv:(ps.map Value.ref)[j+1]?=some v:=by simpa using hP
   rw [j1,e7 hlt] at hv;exact {_,e7 hlt,(Option.some.inj hv).symm}
  let (oI',hoI',hoc,hod):=id hst'.1;let I1:=Iv.wrK (a:=I) (o:=oI) (o':=oI') (h':=h') (tk:=tk') (pins':=(S,seqObj "list" #[.ref pb,.ref kb] c)::(I,oI')::pins) 9#0 OI (λb u ne e=>hk' b u (by simpa using ne) e) hoI' (sC hod) λp hp=>by
   rcases i3.mp hp with rfl|hp
   ·exact .inl {by simp,hSI}
   ·rcases i3.mp hp with rfl|hp
    ·exact .inr rfl
    ·exact .inl {g6 _ (g6 _ hp),pI p hp}
  show wpAny _ X.A.in1 (tryCatch (holding [.ref p] (call 59#0 [.ref p])) _ >>= _) _ _ _;refine d0 (M7 (w9 (y6 (turn (j+1) p hp _ H _ _ I1 hJ rfl) (λx s'' he=>?_) λ_ _ hF=>hF.elim)));let (y,H2,I2,ry,((t,rfl,ht),tups),hJ2):=he;cases ry;let hk2:=tups kb _ hk;let nS2:=I2.pinAt (a:=S) (o:=seqObj "list" #[.ref pb,.ref kb] c) 9#0;let nI2:=I2.pinAt (a:=I) (o:=oI') 9#0;show wpAny _ X.A.in1 (tryCatch (holding [.ref p,.ref t] (richCompare .Lt (.ref t) (.ref kb) >>= _)) _ >>= _) _ _ _;let (ia,ra,pa,_):=I2.tuple (bX.of (show H2 t=some (.tup ([(kf (j+1)).1,(kf (j+1)).2].map V.int)) from ht));let (ib,rb,pb',_):=I2.tuple (bX.of (show H2 kb=some (.tup ([(kf i).1,(kf i).2].map V.int)) from hk2));let cmp:=HT.lt_tupInts (prog:=X.prog) (w:=X.w) (A:=X.A.in1) (E:=λ_ _=>False) pa pb' (sE ra) (sE rb) hu (Q:=λu s3=>u=.bool (decide (lH (kf (j+1)) (kf i)))/\s3=s'') {by rw [Iq],ρ};refine d0 (M7 (w9 (d0 (y6 cmp (λu s3 z=>?_) λ_ _ z=>z.elim))));let (rfl,rfl):=z;refine d0 (w9 (C4 ?_));refine d0 (Q0 51#0);by_cases hb':lH (kf (j+1)) (kf i)
  ·let s1:=C9 s3.heap S (Obj.mapSeq λ_=>#[.ref p,.ref t]);obtain⟨c2,hc2⟩:∃c2,(s3.heap.update S (Obj.mapSeq λ_=>#[.ref p,.ref t])).get? S=some (seqObj "list" #[.ref p,.ref t] c2):={_,get?_update_seq nS2 λ_=>#[.ref p,.ref t]};simp only [hb',decide_true,if_true];refine d0 ?_;refine wpAny_updateSeq nS2 rfl (d0 (Q0 ?_));rw [hname];let I3:=I2.wr (a:=S) (o:=seqObj "list" #[.ref pb,.ref kb] c) (tk:=s3.toks) (pins':=(S,seqObj "list" #[.ref p,.ref t] c2)::(I,oI')::pins) 9#0 OS s1 hc2 hU λp hp=>by
    rcases i3.mp hp with rfl|hp
    ·exact .inr rfl
    ·refine .inl {g6 _ hp,?_};rcases i3.mp hp with rfl|hp
     ·exact hSI.symm
     ·exact pS p hp
   refine i8 {plainId_quiet PySem.F.plain_min_loop _,ih (j+1) (j+1) _ H2 p t c2 oI' ∎ hlt I3 hJ2 hoc hod ht hp (g9 _) λj' hj'=>?_};by_cases e:j'=j+1
   ·subst e;exact {Fz,λh=>absurd h (A3 _)}
   ·let hb1:=(hbest j' ∎).1;exact {Wy hb' hb1,λ_=>Io hb' hb1}
  ·simp only [hb',decide_false,z7,if_false];refine d0 (Q0 ?_);rw [hname];refine i8 {plainId_quiet PySem.F.plain_min_loop _,ih (j+1) i _ H2 pb kb c oI' ∎ hlt I2 hJ2 hoc hod hk2 hpb ∎ λj' hj'=>?_};by_cases e:j'=j+1
   ·subst e;exact {hb',λh=>∎}
   ·exact hbest j' ∎
def Zu (X:Cx) (σ:St):List V->List V->Hp->VK->Prop:=λxs ds H Q=>∃(l f:Addr) (ps:List Addr) (kf:Nat->Int × Int) (J:Hp->Prop),xs=[.ref l]/\ds=[.ref f]/\J H/\(∀H',J H'->H' l=some (.lst (ps.map V.ref)))/\ps≠[] /\
 (∀(i:Nat) (p:Addr),ps[i]?=some p->Hc X X.A.in1 σ f J 49#0 (JQ (kf i)))/\∀(i:Nat) (p:Addr) (H':Hp),J H'->ps[i]?=some p->(∀j,j<ps.length->¬ lH (kf j) (kf i)/\(j<i->lH (kf i) (kf j)))->Q 49#0 H'
def Jn (hc:X.calm=true) (hu:X.A.in1.units<cLine) {s:Shared} {H:Hp} {xs ds:List V} {us ws:List Value} {Q:VK} (Iv:5#0) (r:bA xs us) (rd:bA ds ws) (h:Zu X σ xs ds H Q):
  wpAny 4#0 X.A (call (.builtin "min") us ([("key":Str)].zip ws)) 44#0 X.xe s:=by
 let (l,f,ps,kf,J,rfl,rfl,hJ,hJl,hne,turn,q):=h;let (u,rfl,ru):=r.one;cases ru;let (u',rfl,ru'):=rd.one;cases ru';let hh:X.A.handled=none:=Iv.ok.hd hc;let hne:0<ps.length:=List.length_pos_iff.mpr hne;let hname:(toString "min"++toString ".loop":String)="min.loop":=by decide
 let (isL,_):=Iv.listAt (hJl H hJ);show wpAny _ _ (call (.builtin "min") [.ref l] [(Str.ofString "key",.ref f)]) _ _ _;refine kmk_tree PySem.F.kind_min PySem.F.plain_min PySem.F.entry_min (kmk_min_key _ _) ?_;show wpAny _ X.A.in1 (Builtin.Builtins.bindParams "min" ["key","default"] 0 {[],[(Str.ofString "key",.ref f)]} >>= _) _ _ s;refine d0 (C6 (show Builtin.Builtins.bindParams "min" ["key","default"] 0 {[],[(Str.ofString "key",.ref f)]}=pure [some 59#0,none] from rfl) ?_);refine d0 51#0;refine d0 (P3 isL ?_);refine d0 (Q4 ?_ (i9 _));rw [hname];let lI:l<s.heap.objs.size:=Iv.hok.lt (hJl H hJ);let hlI:l≠s.heap.objs.size:=j9 lI;let OI:tP X s.heap.objs.size:=tP.of Iv (g9 _);let nI:H s.heap.objs.size=none:=Iv.hok.fresh (g9 _);let I1:aV X pins σ H { s with heap:=s.heap.push { cls:=.type "list_iterator",data:=.fields #[.ref l,.int 0 0] } }:=Iv.kept (t':=s.toks) λb o e=>g8 _ e;let I2:aV X pins σ H { s with heap:=(s.heap.push { cls:=.type "list_iterator",data:=.fields #[.ref l,.int 0 0] }).push 41#0 }:=I1.kept (t':=s.toks) λb o e=>g8 _ e;let OS:tP X (s.heap.push { cls:=.type "list_iterator",data:=.fields #[.ref l,.int 0 0] }).objs.size:=tP.of I1 (g9 _);let nS:H (s.heap.push { cls:=.type "list_iterator",data:=.fields #[.ref l,.int 0 0] }).objs.size=none:=I1.hok.fresh (g9 _);let hS:(s.heap.push { cls:=.type "list_iterator",data:=.fields #[.ref l,.int 0 0] }).objs.size=s.heap.objs.size+1:=size_push' ..;let hSI:(s.heap.push { cls:=.type "list_iterator",data:=.fields #[.ref l,.int 0 0] }).objs.size≠s.heap.objs.size:=by rw [hS];exact M0 (Q5 _)
 let gI:((s.heap.push { cls:=.type "list_iterator",data:=.fields #[.ref l,.int 0 0] }).push 41#0).get? s.heap.objs.size=some { cls:=.type "list_iterator",data:=.fields #[.ref l,.int 0 0] }:=
  g8 _ (j3 _ rfl)
 let gS:((s.heap.push { cls:=.type "list_iterator",data:=.fields #[.ref l,.int 0 0] }).push 41#0).get? (s.heap.push { cls:=.type "list_iterator",data:=.fields #[.ref l,.int 0 0] }).objs.size=some 41#0:=j3 _ rfl;let pI:∀p ∈ pins,p.1≠s.heap.objs.size:=λp hp=>j9 (i7 (Iv.pinAt (a:=p.1) (o:=p.2) hp));let pS:∀p ∈ pins,p.1≠(s.heap.push { cls:=.type "list_iterator",data:=.fields #[.ref l,.int 0 0] }).objs.size:=λp hp=>j9 (i7 (I1.pinAt (a:=p.1) (o:=p.2) hp));generalize hSd:(s.heap.push { cls:=.type "list_iterator",data:=.fields #[.ref l,.int 0 0] }).objs.size=S at OS nS hSI gS pS ⊢;generalize hId:s.heap.objs.size=I at OI nI hlI hSI gI pI ⊢;generalize (s.heap.push { cls:=.type "list_iterator",data:=.fields #[.ref l,.int 0 0] }).push 41#0=h0 at I2 gI gS ⊢;let I3:aV X ((S,seqObj "list" #[] 0)::(I,{ cls:=.type "list_iterator",data:=.fields #[.ref l,.int 0 0] })::pins) σ H { s with heap:=h0 }:=I2.pins_of λp hp=>by
  rcases i3.mp hp with rfl|hp
  ·exact {(gS),nS,OS.neL,OS.nfs,hU}
  ·rcases i3.mp hp with rfl|hp
   ·exact {gI,nI,OI.neL,OI.nfs,λv z=>by cases z}
   ·exact I2.pinIn (a:=p.1) (o:=p.2) hp
 let (isL3,_):=I3.listAt (hJl H hJ);let W:=Walks.list (prog:=X.prog) (w:=X.w) (A:=X.A.in1) hh I l hlI (ps.map Value.ref).toArray;let hsz:(ps.map Value.ref).toArray.size=ps.length:=by simp
 refine i8 {plainId_quiet PySem.F.plain_min_loop _,?_};refine K7 PySem.F.entry_min_loop ?_;rw [N4 PySem.F.plain_min_loop _];show wpAny _ X.A.in1 (seqItems? (.ref S) >>= _) _ _ _;refine d0 (J9 gS rfl ?_);show wpAny _ X.A.in1 (tryCatch (pyNext (.ref I)) _ >>= _) _ _ _;refine d0 (M7 (W.item 0 _ _ _ (by rw [hsz];exact hne) {{_,gI,ρ,ρ},isL3} λv h' tk' hP hst' hk'=>?_));obtain⟨p,hp,rfl⟩:∃p,ps[0]?=some p/\v=.ref p:=by
  let hv:(ps.map Value.ref)[0]?=some v:=by simpa using hP
  rw [j1,e7 hne] at hv;exact {_,e7 hne,(Option.some.inj hv).symm}
 let (oI',hoI',hoc,hod):=id hst'.1;let I4:=I3.wrK (a:=I) (o:={ cls:=.type "list_iterator",data:=.fields #[.ref l,.int 0 0] }) (o':=oI') (h':=h') (tk:=tk') (pins':=(S,seqObj "list" #[] 0)::(I,oI')::pins) 9#0 OI (λb u ne e=>hk' b u (by simpa using ne) e) hoI' (sC hod) λp hp=>by
  rcases i3.mp hp with rfl|hp
  ·exact .inl {by simp,hSI}
  ·rcases i3.mp hp with rfl|hp
   ·exact .inr rfl
   ·exact .inl {g6 _ (g6 _ hp),pI p hp}
 show wpAny _ X.A.in1 (tryCatch (holding [.ref p] (call 59#0 [.ref p])) _ >>= _) _ _ _;refine d0 (M7 (w9 (y6 (turn 0 p hp _ H _ _ I4 hJ rfl) (λx s'' he=>?_) λ_ _ hF=>hF.elim)));let (y,H2,I5,ry,((t,rfl,ht),tups),hJ2):=he;cases ry;let nS2:=I5.pinAt (a:=S) (o:=seqObj "list" #[] 0) 9#0;let s1:=C9 s''.heap S (Obj.mapSeq λ_=>#[.ref p,.ref t]);obtain⟨c2,hc2⟩:∃c2,(s''.heap.update S (Obj.mapSeq λ_=>#[.ref p,.ref t])).get? S=some (seqObj "list" #[.ref p,.ref t] c2):={_,get?_update_seq nS2 λ_=>#[.ref p,.ref t]};show wpAny _ X.A.in1 (updateSeq S (λ_=>#[.ref p,.ref t]) >>= _) _ _ _;refine d0 ?_;refine wpAny_updateSeq nS2 rfl ?_;rw [hname];let I6:=I5.wr (a:=S) (o:=seqObj "list" #[] 0) (tk:=s''.toks) (pins':=(S,seqObj "list" #[.ref p,.ref t] c2)::(I,oI')::pins) 9#0 OS s1 hc2 hU λp hp=>by
  rcases i3.mp hp with rfl|hp
  ·exact .inr rfl
  ·refine .inl {g6 _ hp,?_};rcases i3.mp hp with rfl|hp
   ·exact hSI.symm
   ·exact pS p hp
 refine i8 {plainId_quiet PySem.F.plain_min_loop _,Pz kf hh hu OI OS hSI hlI pI pS hJl turn (λi p' s' H' hp' best I' j'=>{.ref p',H',I',ρ,q i p' H' j' hp' best}) _ 0 0 _ H2 p t c2 oI' rfl hne I6 hJ2 hoc hod ht hp (g9 _) λj' hj'=>?_};let e:j'=0:=∎;subst e;exact {Fz,λh=>absurd h (A3 _)}
def GY (X:Cx) (ta td:TA):TE:=λσ H Q=>ta σ H λxs H1=>td σ H1 λds H2=>Zu X σ xs ds H2 Q
def Vv {x:Str} {p c:Pos} {a b:Expr} {n m:TA} (E:X.calm=true) (z:X.A.in1.units<cLine) (D:Gl X x) (G:X.mg x=none) (w:bootBuiltins x=some (.builtin "min")) (B:PA X [a] n) (o:PK X [{some "key",b,c}] m) (C:x≠"__name__":=by decide) (e:27#0=false:=by decide)
  (d:(backToKw pos (keywordEach [{some "key",b,c}] X.env)).all (·.1.isSome)=true:=by rfl) (i:(backToKw pos (keywordEach [{some "key",b,c}] X.env)).filterMap (·.1)=[("key":Str)]:=by rfl)
  (F:starEach [a] X.env=(false,eval a X.env)::starEach [] X.env:=by rfl) (j:((backTo pos (starEach [a] X.env)).any (·.1) || (backToKw pos (keywordEach [{some "key",b,c}] X.env)).any (·.1.isNone))=false:=by rfl):
  PE X (.Call (.Name x p) [a] [{some "key",b,c}] pos) (GY X n m):=by
 intro pins s σ H Q I h;refine D7 (jY I D G w ?_ C e);refine PySem.W.callWith_of (P:=λg=>X.K.In g) j (λ_ _=>{.machine,.inr (.inl rfl),.now}) (O2 d (vM (B pins s σ H _ I h) λU v M t y r q=>?_) F);refine vM (o pos pins v σ t _ y q) λO T N Y k u L=>{k.kIn,?_};rw [i];exact Jn E z k r u L
end
structure wV (K:Frag) (x qual:Str) (st:Stmt) (f:Addr) (fd:FuncData) (c:Addr):Prop where
 ex:∃(oc:Value) (od:Option Addr) (kV doc pm:Value) (an:Option Addr) (ct:Value) (osl:Array (Option Value)),fd=PySem.W.fnOf x qual (eO st) (bQ st) (aG st) .none kV doc pm an (.ref c) ct/\K.lookup f=some ⟨oc,od,.func fd,osl⟩/\PySem.W.codeIn K (.ref c) qual=true
 kp:PySem.W.keepIn K 59#0=true
section
variable {P:Program} {w:World} {K:Frag} {mg:Str->Option Value} {base:Heap} {x qual:Str} {st:Stmt} {f c:Addr} {fd:FuncData}
def wV.toFun (F:wV K x qual st f fd c):qG K x qual st f fd:=by
 let ((j,m,kV,b,d,i,g,a,e,l,h),k):=F;exact {{j,m,kV,b,d,i,_,g,a,e,l,h},k}
def wV.ok {N ps:List Str} {k:Nat} {sp:Sp} (F:wV K x qual st f fd c) (S:aL N ps (aG st)) (e:∀vs H Q E,sp vs H Q E->vs.length=ps.length)
  (a:∀(A:Around) (outer:List Env) (s:Shared) (H:Hp) (vs:List V) (Q:VK) (E:XK),Room k (A.deeper (envOfC qual (aG st) s.heap.objs.size f (.ref c)))->sp vs H Q E ->
   let X:=(hX dI P w K mg base N qual (aG st) f (.ref c) A outer s H E).nox
   let D:dH:={ nx:=λ_ m=>Q .non m,rt:=Q }
   ∃t,pB X (bQ st) t/\t D (dD N vs) H):bN P w K mg base dI (k+1) f fd ps sp:=by
 let (r,u,kV,l,n,p,o,i,rfl,g,d):=F.ex;refine Ra g d S e λA outer s H vs Q E j b=>?_;let (t,h,q):=a A outer s H vs Q E j b;exact {(t),h.nox,q}
def Gi {e:Value} {g d:Option Addr} {b:Array (Option Value)} {kV a pm ct:Value} (l:K.lookup f=some {e,g,.func (PySem.W.fnOf x qual (eO st) (bQ st) (aG st) .none kV a pm d (.ref c) ct),b})
  (h:PySem.W.codeIn K (.ref c) qual=true) (k:PySem.W.keepIn K 59#0=true):wV K x qual st f (PySem.W.fnOf x qual (eO st) (bQ st) (aG st) .none kV a pm d (.ref c) ct) c:={{(e),g,kV,a,pm,d,ct,b,ρ,l,h},k}
end
def eL (H H':Hp):Prop:=∀b o,H b=some o->(∃ps,o=.tbl ps)\/H' b=some o
def aJ.toT (h:aJ H H'):eL H H':=λb o e=>.inr (h b o e)
def eL.trans {g:Hp} (a:eL H g) (b:eL g d):eL H d:=λc o e=>by
 rcases a c o e with z|z
 ·exact .inl z
 ·exact b c o z
def dC.toT {ps:Array Value} (a:H T=some (.tbl ps)) (h:dC T H H'):eL H H':=λb o e=>by
 by_cases z:b=T
 ·subst z
  rw [a] at e
  cases e
  exact .inl {(ps),ρ}
 ·exact .inr (h b o z e)
def dC.same {a:Hp} (k:dC T H d) (s:aJ d a):dC T H a:=λb o n e=>s _ _ (k b o n e)
def dC.pre {a:Hp} (s:aJ H d) (k:dC T d a):dC T H a:=λb o n e=>k b o n (s _ _ e)
def eL.at {b:Addr} {o:HO} (h:eL H H') (e:H b=some o) (n:∀a,o≠.tbl a:=by intro _ z;cases z):H' b=some o:=by
 rcases h b o e with ⟨a,z⟩|z
 ·exact absurd z (n a)
 ·exact z
def lY.same {q:Str} (h:aJ H H') (t:lY H T pos q):lY H' T pos q:=by
 let (g,e,a,d):=t;refine {g,h _ _ e,a,?_};rcases d with z|⟨i,z,b⟩
 ·exact .inl z
 ·exact .inr {i,z,h _ _ b}
section
variable {P:Program} {w:World} {K:Frag} {mg:Str->Option Value} {base:Heap} {x qual:Str} {st:Stmt} {f c:Addr} {fd:FuncData}
end
end
end
end L2
namespace Hd
open PySem PyProof.Rows
section
variable {h it:Addr} {i:Nat} {a:Array Value}
section
variable {prog:Program} {w:World} {A:Around} {E:Value->Shared->Prop} {s:Shared}
def tN:entryFor table "proto.unchain"=some Builtin.«proto.unchain»:=entryFor_of_tree (by kernel_rfl)
def tJ:plainId "proto.unchain"=true:=⋯
def vL {v:Value} {oh:Obj} {fs:Array Value} {Q:Value->Shared->Prop} (b:s.heap.get? h=some oh) (c:oh.data=.fields fs) (h2:fs[2]?=some .none) (a:Q .none s):
  wpAny 7#0 A (runValue (.builtin "proto.unchain" {[v,.ref h,.ref h,.bool false],[]})) Q E s:=by
 refine wpAny_runValue (K7 tN ?_);rw [N4 tJ _];show wpAny _ _ (field (.ref h) 2 >>= _) _ _ s;refine d0 (z6 b c h2 ?_);show wpAny _ _ (ret Value.none) _ _ s;exact i8 a
def Zi {α:Type} {h:Addr} {Q:α->Shared->Prop} (u:A.handled=some (.ref h)) (r:NoCtx h s.heap)
  (q:∀g e,(∀b o,s.heap.get? b=some o->g.get? b=some o)->(∃o,g.get? e=some o/\o.cls=.type "StopIteration")->E (.ref e) { s with heap:=g }):
  wpAny 7#0 A (do let e <- newExc (.type "StopIteration") [];raiseNew e) Q E s:=by
 let (oh,fs,k,t,n):=r;let d:h<s.heap.objs.size:=i7 k;refine d0 ?_;simp only [newExc,newTuple];refine d0 (B8 ?_ (by size_fits));refine d0 (m:=firstArgMember _ _) (C6 (a:=Value.none) rfl ?_);refine B8 ?_ (by size_fits);unfold raiseNew;refine d0 (wpAny_handled ?_);rw [u];generalize hT:s.heap.push { cls:=Value.type "tuple",data:=Data.seq #[] }=c;let j:∀b o,s.heap.get? b=some o->c.get? b=some o:=λb o e=>by
  rw [<- hT];exact g8 _ e
 let i:c.objs.size=s.heap.objs.size+1:=by rw [<- hT,M3]
 dsimp only
 rw [if_pos (by
  show (Value.ref h != Value.ref c.objs.size)=true
  simp only [bne_iff_ne,ne_eq,Value.ref.injEq]
  exact j9 (by rw [i];exact J6 d))];refine d0 (w9 (vL (oh:=oh) (fs:=fs) (g8 _ (j _ _ k)) t n ?_));let f:=j3 c (o:={ cls:=Value.type "StopIteration",data:=Data.fields (#[Value.ref s.heap.objs.size,Value.none,Value.none,Value.none,Value.bool false,Value.none]++ownMembersOf (Value.type "StopIteration") []) }) rfl;refine d0 (F7 f rfl (by simp;omega) ?_);refine wpAny_throw (q _ _ (λb o e=>?_) {_,J0 _ f rfl,ρ});let p:=i7 e;rw [A6 _ _ (M0 (by rw [i];exact J6 p))];exact g8 _ (j b o e)
def NoCtx.upd {f:Obj->Obj} {b:Heap} (n:NoCtx h b) (a:h≠it):NoCtx h (b.update it f):=n.other (A6 _ _ (F6 a))
def Qg {l:Addr} {Q:PySem.Fin->Shared->Prop} (D:A.handled=some (.ref h)) (p:s.heap.IsListIter it l i) (u:s.heap.IsList l a) (t:a[i]?=none) (r:NoCtx h s.heap) (n:h≠it)
  (q:∀f e,Heap.ExtBut it s.heap f->(∃o,f.get? e=some o/\o.cls=.type "StopIteration")->E (.ref e) { s with heap:=f }):wpAny 7#0 A (Builtin.«list_iterator.__next__» {[.ref it],[]}) Q E s:=by
 let (o,c,H,d):=id p;let (F,k,_,G,j):=u;show wpAny _ _ (field (Value.ref it) 0 >>= _) _ _ _;refine d0 (z6 (x:=Value.ref l) c d rfl ?_);show wpAny _ _ (if (Value.ref l == Value.none)=true then _ else _) _ _ _;rw [if_neg 9#0];show wpAny _ _ (field (Value.ref it) 1 >>= _) _ _ _;refine d0 (z6 (x:=Value.int i 0) c d rfl (d0 (J9 k j ?_)));simp only [J4,t];refine d0 (F1 (d0 (F7 c d 9#0 (Zi D (r.upd n) λg e B C=>q g e (λb v y z=>B b v ?_) C))));exact(A6 _ _ (F6 y)).trans z
def tup_endH {t:Addr} {Q:Option Value->Shared->Prop} (F:A.handled=some (.ref h)) (d:IsTupIter s.heap it t i) (C:IsTup s.heap t a) (r:a[i]?=none) (q:NoCtx h s.heap) (n:h≠it)
  (u:∀p,Heap.ExtBut it s.heap p->Q none { s with heap:=p }):wpAny 7#0 A (pyNext (.ref it)) Q E s:=by
 let (o,c,I,f):=id d;let (G,k,_,H,j):=C;unfold pyNext;refine d0 (J3 (B0 d.typeIs slot_tupleiter_next (D9 slot_tupleiter_next d.typeIs entry_tupleiter_next ?_ (args_tupleiter_next _))));show wpAny _ _ (field (Value.ref it) 0 >>= _) _ _ _;refine d0 (z6 (x:=Value.ref t) c f rfl ?_);show wpAny _ _ (if (Value.ref t == Value.none)=true then _ else _) _ _ _;rw [if_neg 9#0];show wpAny _ _ (field (Value.ref it) 1 >>= _) _ _ _;refine d0 (z6 (x:=Value.int i 0) c f rfl (d0 (J9 k j ?_)));simp only [J4,r];refine d0 (F1 (d0 (F7 c f 9#0 (Zi (A:=A.in1) F (q.upd n) λg e B D=>?_))));refine d0 (Q6 (T:="StopIteration") (b:=true) D isSubtype_stop (i8 (u g λb v y z=>B b v ?_)));exact(A6 _ _ (F6 y)).trans z
def next_endH {l:Addr} {Q:Option Value->Shared->Prop} (p:A.handled=some (.ref h)) (c:s.heap.IsListIter it l i) (q:s.heap.IsList l a) (n:a[i]?=none) (j:NoCtx h s.heap) (d:h≠it)
  (g:∀f,Heap.ExtBut it s.heap f->Q none { s with heap:=f }):wpAny 7#0 A (pyNext (.ref it)) Q E s:=by
 unfold pyNext;refine d0 (J3 (B0 (name:=Str.ofString "__next__") c.typeIs slot_listiter_next (D9 slot_listiter_next c.typeIs entry_listiter_next (Qg (A:=A.in1) p c q n j d λf e o k=>?_) (args_listiter_next _))));refine d0 (Q6 (T:="StopIteration") (b:=true) k isSubtype_stop ?_);exact i8 (g _ o)
end
section
variable {prog:Program} {w:World} {A:Around} {E:Value->Shared->Prop} {s:Shared} {h₀:Heap} {L l h:Addr} {m:Str->Option Value} {news:List (Addr × Obj)} {vs:List Value}
end
end
end Hd
namespace L2
open PySem PySem.Spec PyProof.Rows
section
variable {k:Nat}
structure jL (k:Nat) (A:Around) (h:Addr):Prop where
 hd:A.handled=some (.ref h)
 dp:A.depth+3 * k+5<recursionLimit
 un:A.units+16 * k+200<cLine
def jL.mono {j:Nat} {A:Around} {h:Addr} (r:jL k A h) (e:j<=k):jL j A h:=⟨r.hd,by have:=r.dp;omega,by have:=r.un;omega⟩
theorem jL.deeper {k:Nat} {A:Around} {h:Addr} (r:jL (k+1) A h) (env:Env):jL k (A.deeper env) h:=
 ⟨r.hd,by have:=r.dp;show A.depth+1+3 * k+5<_;omega,by have:=r.un;show A.units+3+16 * k+200<_;omega⟩
def Room.suite {A:Around} (r:Room k A) (h:Addr):jL k (A.mark (some (.ref h))) h:={(rfl),r.dp,r.un}
structure vJ (P:Program) (w:World) (K:PySem.W.Frag) (mg:Str->Option Value) (base:Heap) (k:Nat) (f:Addr) (fd:FuncData) (ps:List Str) (sp:Addr->Sp):Prop where
 len:∀h vs H Q E,sp h vs H Q E->vs.length=ps.length
 run:∀(A:Around) (outer:List Env) (s:Shared) (H:Hp) (args:Args) (us:List Value) (vs:List V) (Q:VK) (h:Addr),jL k A h->tD P w K mg base A outer s H->BindsTo s fd args (ps.zip us)->bA vs us->sp h vs H Q E0 ->
  codeAny (model P w) A (.call 59#0 args) (CR dI outer P w H s Q E0) s
abbrev FS (P:Program) (w:World) (K:PySem.W.Frag) (mg:Str->Option Value) (base:Heap) (N:List Str) (qual:Str) (scope:Scope) (f:Addr) (cd:Value) (A:Around) (outer:List Env) (s:Shared) (H:Hp):Cx:=
 { hX dI P w K mg base N qual scope f cd A outer s H E0 with calm:=false,xe:=λ_ _=>False }
def EI {P:Program} {w:World} {K:PySem.W.Frag} {mg:Str->Option Value} {base:Heap} {f:Addr} {name c:Str} {g:Arguments} {j:List Stmt} {a:Scope} {dV kV G pm cdv ct oc:Value} {an od:Option Addr}
  {U:Array (Option Value)} {N ps:List Str} {sp:Addr->Sp} (lk:K.lookup f=some {oc,od,.func (PySem.W.fnOf name c g j a dV kV G pm an cdv ct),U}) (T:PySem.W.codeIn K cdv c=true) (S:aL N ps a)
  (D:∀h vs H Q E,sp h vs H Q E->vs.length=ps.length)
  (m:∀(A:Around) (outer:List Env) (s:Shared) (H:Hp) (vs:List V) (Q:VK) (h:Addr),jL k (A.deeper (envOfC c a s.heap.objs.size f cdv)) h->sp h vs H Q E0 ->
   ∃t,pB (FS P w K mg base N c a f cdv A outer s H) j t/\t { nx:=λ_ l=>Q .non l,rt:=Q } (dD N vs) H):
  vJ P w K mg base (k+1) f (PySem.W.fnOf name c g j a dV kV G pm an cdv ct) ps sp:=by
 refine {D,λA outer s H a0 us vs Q h hr i hb r L=>?_};let hl:=D _ _ _ _ _ L;let KX:K.In s.heap:=i.mod.kin.keeps λb o e=>(i.bs b o e).1;let Z:s.heap.NoLimit:=i.mod.nolimit.keeps λb o e=>(i.bs b o e).1;let B:∀y ∈ ps.zip us,a.names.lookup y.1=some .local\/(a.names.lookup y.1=some .cell/\((cellsFrom 16#0 a.names []).lookup y.1).isSome=true):=λ⟨n,v⟩ hy=>by
  rcases S.par n (E4 hy).1 with q|q
  ·exact .inl q
  ·exact .inr {q,PySem.W.cellsFrom_some _ _ _ (.inl q)}
 refine codeAny_call_function (by have:=hr.dp;omega) (KX _ _ lk) rfl S.co S.gen rfl (PySem.W.codeRec_of KX T) (hb _ _ _ _ ?_);refine N6 S.kind B λa1 he s1 x=>?_;subst he;refine {Z.keeps x.toInCall.keep,codeAny_func ?_};let (t,ht,hq):=m A outer s H vs Q h (hr.deeper _) L;let e1:tD P w K mg base { A with handled:=none } outer s H:={(i.frames),i.mod,i.bs,i.bsz,i.funs,i.frf,i.hok,i.bare};let I0:aV (hX dI P w K mg base N c a f cdv { A with handled:=none } outer s H E0) [] (dD N vs) H s1:=oM S rfl e1 hl r x;let d:(FS P w K mg base N c a f cdv A outer s H).Ok:=
  let d:=I0.ok;{d.mod,d.kind,d.glob,d.blt,d.above,d.inj,d.has,d.cab,λz=>(nomatch z),Around.frames_deeper i.frames,d.stk,d.exf,d.bs,d.bsz,d.noex,d.exfs,d.funs,d.frf}
 let I:aV (FS P w K mg base N c a f cdv A outer s H) [] (dD N vs) H s1:=I0.re d rfl rfl rfl rfl rfl rfl rfl rfl λp z=>z;refine y6 (ht s1 (dD N vs) H _ I hq) (λfl O C=>?_) λe O C=>C.elim;let F:∀{M:St} {l:Hp} {v:V} {u:Value},aV (FS P w K mg base N c a f cdv A outer s H) [] M l O->bF v u->Q v l->CE outer P w H s Q u O:=
  λ{M l v u} J Y q=>{(v),l,J.os,J.bare,J.base,J.hok,Y,q}
 cases fl with
 | ret u=>
  let (v,M,l,J,Y,q):=C;exact F J Y q
 | next=>
  let (M,l,J,q):=C;exact F (v:=V.non) (u:=Value.none) J rfl q
 | brk=>
  let (_,_,_,q):=C;exact False.elim q
 | cont=>
  let (_,_,_,q):=C;exact False.elim q
def qG.okH {P:Program} {w:World} {K:PySem.W.Frag} {mg:Str->Option Value} {base:Heap} {x a:Str} {st:Stmt} {f:Addr} {fd:FuncData} {N ps:List Str} {sp:Addr->Sp} (F:qG K x a st f fd) (S:aL N ps (aG st)) (g:∀h vs H Q E,sp h vs H Q E->vs.length=ps.length)
  (b:∀(cdv:Value) (A:Around) (outer:List Env) (s:Shared) (H:Hp) (vs:List V) (Q:VK) (h:Addr),jL k (A.deeper (envOfC a (aG st) s.heap.objs.size f cdv)) h->sp h vs H Q E0 ->
   let X:=(FS P w K mg base N a (aG st) f cdv A outer s H)
   let D:dH:={ nx:=λ_ n=>Q .non n,rt:=Q }
   ∃t,pB X (bQ st) t/\t D (dD N vs) H):vJ P w K mg base (k+1) f fd ps sp:=by
 let (u,v,kV,m,o,r,cdv,q,j,rfl,i,d):=F.ex;exact EI i d S g λA outer s H vs Q h l c=>b cdv A outer s H vs Q h l c
section
variable {X:Cx} {k:Nat} {f h:Addr} {fd:FuncData} {ps:List Str} {sp:Addr->Sp} {dvs:List V} {ds:List Value} {x:Str} {p pos:Pos} {e:Expr} {es:List Expr} {t:TA}
def Vg {pins:List 10#0} {σ:St} {H:Hp} {s:Shared} {Q:VK} {us:List Value} {vs:List V} (F:vJ X.prog X.w X.K X.mg X.base k f fd ps sp) (g:jL k X.A h) (d:eV X.K fd ps ds) (hd:bA dvs ds)
  (I:5#0) (r:bA vs us) (q:sp h (vs++dvs) H Q E0):wpAny 4#0 X.A (call 59#0 us) 44#0 X.xe s:=by
 let b:bA (vs++dvs) (us++ds):=r.append hd
 let i:(us++ds).length=ps.length:=by rw [<- b.length];exact F.len _ _ _ _ _ q
 refine M9 (G7 (F.run X.A X.stack s H {us,[]} (us++ds) (vs++dvs) Q h g I.env0 (d s us I.kIn i) b q) λr c a=>?_);cases r with
 | error e=>exact aN pins σ H s e c I a
 | ok fl=>
  cases fl with
  | ret u=>exact I.after a
  | next=>exact False.elim a
  | brk=>exact False.elim a
  | cont=>exact False.elim a
def Oj (F:vJ X.prog X.w X.K X.mg X.base k f fd ps sp) (j:jL k X.A h) (m:Gl X x) (l:X.mg x=some 59#0) (n:PySem.W.keepIn X.K 59#0=true) (i:eV X.K fd ps ds) (hd:bA dvs ds)
  (o:PA X (e::es) t) (b:27#0=false:=by decide) (g:starEach (e::es) X.env=37#0::starEach es X.env:=by rfl) (c:(backTo pos 40#0).any (·.1)=false:=by rfl):
  PE X (.Call (.Name x p) (e::es) [] pos) (xG (sp h) dvs E0 t):=by
 intro a s σ H Q I q;refine D7 (kU I m l ?_ b);refine PySem.W.callWith_K (h₀:=X.base) I.ok.mod.kin n (vM (o a s σ H _ I q) λu z y v d r q=>{d.kIn,?_}) g c;exact Vg F j i hd d r q
end
def Le (σw σ:St):Prop:=∀(i:Nat) v,σw[i]?=some (some v)->σ[i]?=some (some v)
def Le.refl (σ:St):Le σ σ:=λ_ _ z=>z
def qF (CX:pE) (X:Cx) (σw:St) (E:XK):Prop:=∀(pins:List 10#0) (σ:St) (H:Hp) (s:Shared) (e:Value) (s':Shared),Le σw σ->aV X pins σ H s->CX X.stack H s E e s'->X.xe e s'
def Zg (σw:St) (t:TE):TE:=λσ H Q=>Le σw σ/\t σ H Q
def Ze (K:PySem.W.Frag) (cv:Value) (i:Nat) (σw:St) (ts:Addr->TS) (D:dH):XK:=λcls _ H=>∃C,cls=.ref C/\PySem.W.exmOne K cls cv=some true /\
 ∀ea,H ea=none->ts ea { nx:=λσ H'=>D.nx (σ.set i none) H',rt:=D.rt,bk:=λσ H'=>D.bk (σ.set i none) H',ct:=λσ H'=>D.ct (σ.set i none) H' } (σw.set i (some (.ref ea))) (upd H ea (lJ ea C))
def GQ (tb:XK->St->TS) (K:PySem.W.Frag) (cv:Value) (i:Nat) (wk:St->St) (ts:Addr->TS):TS:=λD σ H=>tb (Ze K cv i (wk σ) ts D) (wk σ) D σ H
section
variable {X:Cx} {CX:pE} {k:Nat} {f C:Addr} {fd:FuncData} {ps:List Str} {sp:Sp} {dvs:List V} {ds:List Value} {E:XK} {x m:Str} {p pos apos:Pos} {e o:Expr} {es:List Expr} {ta:TE} {t:TA} {σw:St}
def No {pins:List 10#0} {σ:St} {H:Hp} {s:Shared} {Q:VK} {us:List Value} {vs:List V} (F:34#0) (j:Room k X.A) (d:eV X.K fd ps ds) (h:bA dvs ds) (i:qF CX X σw E) (c:Le σw σ)
  (I:5#0) (r:bA vs us) (q:sp (vs++dvs) H Q E):wpAny 4#0 X.A (call 59#0 us) 44#0 X.xe s:=by
 let b:bA (vs++dvs) (us++ds):=r.append h
 let l:(us++ds).length=ps.length:=by rw [<- b.length];exact F.len _ _ _ _ q
 refine M9 (G7 (F.run X.A X.stack s H {us,[]} (us++ds) (vs++dvs) Q E j I.env0 (d s us I.kIn l) b q) λr g a=>?_);cases r with
 | error e=>exact i pins σ H s e g c I a
 | ok fl=>
  cases fl with
  | ret u=>exact I.after a
  | next=>exact a.elim
  | brk=>exact a.elim
  | cont=>exact a.elim
def Hx {pl:Sem Bool} (U:PE X o ta) (c:tG X.K C) (y:Aj X.K C m f) (F:34#0) (J:Room k X.A) (P:eV X.K fd ps ds) (z:bA dvs ds) (G:qF CX X σw E) (O:PA X (e::es) t)
  (d:starEach (e::es) X.env=37#0::starEach es X.env:=by rfl) (h:(backTo pos 40#0).any (·.1)=false:=by rfl)
  (S:eval 28#0 X.env=(eval o X.env >>= λj=>standAt apos.atName >>= λ_=>holding [j] (getMethod j m pl) >>= λn=>callWith pos n.1 n.2 (backTo pos (starEach (e::es) X.env)) (backToKw pos (keywordEach [] X.env))):=by rfl):
  PE X 28#0 (Zg σw (qW C m sp dvs E ta t)):=by
 intro b s σ H Q I ⟨N,q⟩;refine PySem.W.methodCall_KW (pl:=pl) (eP (U s σ H _ I q) λu L x D v B g=>?_) S;let (a,dx,fs,T,M,l,q):=g;subst T;cases (show u=Value.ref a from B);refine lS v M c y l ?_;refine PySem.W.callWith_K (first:=[.ref a]) (h₀:=X.base) I.ok.mod.kin y.kp (vM (O b L σ D _ v q) λus Z vs H2 i r Y=>{i.kIn,?_}) d h
 exact No (us:=.ref a::us) (vs:=.ref a::vs) F J P z G N i (.cons rfl r) Y
def Vo {M:List Stmt} {b₀:Stmt} {y:List Stmt} {x n:Str} {np a2 pos:Pos} {i:Nat} {tb:XK->St->TS} {ts:Addr->TS} {wk:St->St} {cv:Value} (hw:∀ σ,σ.length=X.N.length->(wk σ).length=X.N.length/\Le (wk σ) σ) (a8:X.xe=λ_ _=>False) (hN:X.N.Nodup) (hi:X.N[i]?=some n) (T:X.env.scope.names.lookup n=some .local)
  (L:X.stack=X.env::X.outer/\X.env.frame=some X.env.locals) (hg:Gl X x) (hm:X.mg x=some cv)
  (hb:∀(pn:List 10#0) (xe:Value->Shared->Prop) (E:XK) (σw:St),qF (MG X.prog X.w) (X.try_ pn xe) σw E->pB (X.try_ pn xe) M (tb E σw))
  (hs:∀d,pB (X.suite (.ref d)) (b₀::y) (ts d)) (hd:27#0=false:=by decide):
  PS X (.Try M [.ExceptHandler (some (.Name x np)) (some n) (b₀::y) a2] [] [] pos) (GQ tb X.K cv i wk ts):=by
 intro pins s σ H D I h;rw [a8];refine wpAny_Try_except ?_;refine y6 (hb (X.pn++pins) (λe s'=>∃a j Y Z,Le (wk σ) j/\aV (X.try_ (X.pn++pins) λ_ _=>False) a j Y Z/\MG X.prog X.w X.stack Y Z (Ze X.K cv i (wk σ) ts D) e s') _ _
  (λa j Y Z e s' le J hc=>{a,j,Y,Z,le,J.re (J.ok.try_ _ _) rfl rfl rfl rfl rfl rfl rfl rfl λp z=>z,hc}) (pins:=[]) s σ H D
  (I.re (I.ok.try_ _ _) rfl rfl rfl rfl rfl rfl rfl rfl λp z=>by simpa using z) h) (λf U q=>?_) λe U q=>?_
 ·let l:SP X pins D f U:=by
   cases f with
   | next=>let (j,g,J,q):=q;exact {j,g,J.re I.ok rfl rfl rfl rfl rfl rfl rfl rfl λp z=>by simpa using z,q}
   | brk=>let (j,g,J,q):=q;exact {j,g,J.re I.ok rfl rfl rfl rfl rfl rfl rfl rfl λp z=>by simpa using z,q}
   | cont=>let (j,g,J,q):=q;exact {j,g,J.re I.ok rfl rfl rfl rfl rfl rfl rfl rfl λp z=>by simpa using z,q}
   | ret u=>let (v,j,g,J,r,q):=q;exact {v,j,g,J.re I.ok rfl rfl rfl rfl rfl rfl rfl rfl λp z=>by simpa using z,r,q}
  cases f with
  | next=>exact K6 l
  | brk=>exact l
  | cont=>exact l
  | ret u=>exact l
 ·let (a,j,Y,Z,le,J,d,ai,a0,g,B,rfl,os,a5,F,C,rfl,aa,af):=q
  let fr:X.A.frames=some (X.env::X.outer):=by rw [<- L.1];exact I.ok.frames
  let F':=F;rw [L.1] at F';refine Hd.look2 fr L.2 F'.fly F'.nc λh4 a1 a7 ae=>?_;refine Hd.land2 a1 ae λh5 P a4 a3=>?_;let F5:=F'.later P a3 (a7.trans a4);let a6:∀(hh:Heap),Jw X.prog X.w (X.env::X.outer) Y Z.heap d (.ref C) a0 g B hh->aV (X.suite (.ref d)) (X.pn++pins) (wk σ) (upd g d (lJ d C)) { U with heap:=hh }:=λhh FF=>by
   let (un,ac):=FF.laid;rw [<- L.1] at un;let J1:aV (X.try_ (X.pn++pins) λ_ _=>False) a j (upd g d (lJ d C)) { U with heap:=hh }:=
    J.call' (s':={ U with heap:=hh }) os un ac a5 (λb z=>absurd z 9#0)
   let J2:aV (X.suite (.ref d)) (X.pn++pins) j (upd g d (lJ d C)) { U with heap:=hh }:=J1.re (I.ok.suite _) rfl rfl rfl rfl rfl rfl rfl rfl λp z=>by
    rcases j6.mp z with z|z
    ·exact B9 _ (B9 _ z)
    ·exact B9 _ z
   exact J2.weak (by rw [(hw σ I.len).1,J2.len]) le
  let I5:=a6 h5 F5;let ah:=a7.trans a4;refine wpAny_handleBy_cons (codeAny_handlers_test (env:=X.env) (kU (X:=X.suite (.ref d)) I5 hg hm ?_ hd)) 1#0;let Lm:PySem.W.Looks 4#0 h5 (excMatches (.ref d) cv) true:=by
   refine PySem.W.exm_one I5.kIn ?_ aa;let (o,z,c):=P.there;exact lP.ty {(o),z,c}
  refine Lm.at ?_;refine codeAny_handlers_suite_as ?_;refine Hd.again2 P a3 λh6 ad ag a9=>?_;let I6:=a6 h6 (F5.later ad a9 ag);refine mH (X:=X.suite (.ref d)) I6 hN hi (E5 T) (v:=.ref d) rfl (λs7 I7=>?_) (.inr T);refine y6 (hs d s7 _ _ { nx:=λσ g=>D.nx (σ.set i none) g,rt:=D.rt,bk:=λσ g=>D.bk (σ.set i none) g,ct:=λσ g=>D.ct (σ.set i none) g } I7 (af d F.freeE)) (λf s8 q=>?_) λ_ _ z=>z.elim;let bk:∀{S:St} {G:Hp} {s9:Shared},aV (X.suite (.ref d)) (X.pn++pins) S G s9->aV X pins S G s9:=λJ=>J.re I.ok rfl rfl rfl rfl rfl rfl rfl rfl λp z=>by
   rcases j6.mp z with z|z
   ·exact B9 _ z
   ·exact j0 _ (j0 _ z)
  cases f with
  | next=>let (S,G,Q,q):=q;exact kR (bk Q) hN hi T λs9 O=>{_,G,O,q}
  | brk=>let (S,G,Q,q):=q;exact kR (bk Q) hN hi T λs9 O=>{_,G,O,q}
  | cont=>let (S,G,Q,q):=q;exact kR (bk Q) hN hi T λs9 O=>{_,G,O,q}
  | ret u=>let (v,S,G,Q,r,q):=q;exact kR (bk Q) hN hi T λs9 O=>{v,_,G,O,r,q}
end
end
end L2
namespace L2
open PySem PySem.Spec PyProof.Rows PySem.W
section
variable {c:Bool} {Q:VK} {vs:List V}
inductive Wp (X:Cx) (ss:List Stmt) (D:dH) (σ:St) (H:Hp):Prop|mk (t:TS) (_:pB X ss t) (_:t D σ H)
inductive Ex (X:Cx) (e:Expr) (σ:St) (H:Hp) (Q:VK):Prop|mk (t:TE) (_:PE X e t) (_:t σ H Q)
inductive Tx (X:Cx) (e:Expr) (σ:St) (H:Hp) (Q:Bool->Hp->Prop):Prop|mk (t:TT) (_:PT X e t) (_:t σ H Q)
inductive Ax (X:Cx) (es:List Expr) (σ:St) (H:Hp) (Q:List V->Hp->Prop):Prop|mk (t:TA) (_:PA X es t) (_:t σ H Q)
structure Vl (X:Cx) (e:Expr) (σ:St) (H:Hp) (v:V):Prop where to (Q:VK):Q v H->Ex X e σ H Q
structure Tv (X:Cx) (e:Expr) (σ:St) (H:Hp) (b:Bool):Prop where to (Q:Bool->Hp->Prop):Q b H->Tx X e σ H Q
structure Av (X:Cx) (es:List Expr) (σ:St) (H:Hp) (vs:List V):Prop where to (Q:List V->Hp->Prop):Q vs H->Ax X es σ H Q
def Wp.ex {X:Cx} {ss:List Stmt} {D:dH} {σ:St} {H:Hp} (h:Wp X ss D σ H):∃t,pB X ss t/\t D σ H:=by let (t,p,q):=h;exact {(t),p,q}
def FR:List Str->St->Str->Option V
 | n::N,o::σ,x=>if (n == x)=true then o else FR N σ x
 | _,_,_=>none
theorem Qf {x:Str} {v:V}:∀{N:List Str} {σ:St},FR N σ x=some v->∃i:Nat,N[i]?=some x/\σ[i]?=some (some v)
 | [],_,h=>nomatch h
 | _::_,[],h=>nomatch h
 | n::N,o::σ,h=>by
  unfold FR at h
  by_cases e:(n == x)=true
  ·rw [if_pos e] at h
   exact {0,congrArg some (eq_of_beq e),congrArg some h}
  ·rw [if_neg e] at h
   let (i,a,b):=Qf h
   exact {i+1,a,b}
section
variable {X:Cx} {σ:St} {H:Hp} {v w:V} {x:Str} {pos pos' p':Pos} {e a b:Expr} {es:List Expr} {ss r:List Stmt} {D:dH} {i j:Int} {Q:VK}
def aQ:pB X ss (Wp X ss):=λ_ s σ H D I ⟨_,p,h⟩=>p s σ H D I h
def aR:PE X e (Ex X e):=λ_ s σ H Q I ⟨_,p,h⟩=>p s σ H Q I h
def jT:PT X e (Tx X e):=λ_ s σ H Q I ⟨_,p,h⟩=>p s σ H Q I h
def fG:PA X es (Ax X es):=λ_ c s σ H Q I ⟨_,p,h⟩=>p c s σ H Q I h
def Vl.ex (h:Vl X e σ H v) (q:Q v H):Ex X e σ H Q:=h.to Q q
def FX (h:FR X.N σ x=some v) (d:FT X.env.scope x) (g:27#0=false) (c:(x == ("__classdict__":Str))=false):Vl X (.Name x pos) σ H v:=⟨λQ q=>by
 let (i,a,b):=Qf h
 exact {_,Od a d g c,_,b,q}⟩
def Zd {k}:Vl X (.Constant (.int i) k pos) σ H (.int i):={λ_ q=>{_,aS,q}}
def GA {k}:Vl X (.Constant (.str x) k pos) σ H (.str x):={λ_ q=>{_,bE,q}}
def Kr {k}:Vl X (.Constant .none k pos) σ H .non:={λ_ q=>{_,eH,q}}
def GO (h:Vl X a σ H (.int i)) (g:Vl X b σ H (.int j)):Vl X (.BinOp a .Add b pos) σ H (.int (i+j)):={λ_ q=>{_,bU eI aR aR,h.to _ (g.to _ {_,_,ρ,ρ,q})}}
def FZ (h:Vl X a σ H (.int i)) (g:Vl X b σ H (.int j)):Vl X (.BinOp a .Sub b pos) σ H (.int (i-j)):={λ_ q=>{_,bU oE aR aR,h.to _ (g.to _ {_,_,ρ,ρ,q})}}
def GF (h:Vl X a σ H (.int i)) (g:Vl X b σ H (.int j)) (z:0<j):Vl X (.BinOp a .Mod b pos) σ H (.int (i % j)):={λ_ q=>{_,bU oF aR aR,h.to _ (g.to _ {_,_,ρ,ρ,z,q})}}
def GN (h:Vl X a σ H (.int i)) (g:Vl X b σ H (.int j)) (z:0<j/\j<2 ^ 64):Vl X (.BinOp a .FloorDiv b pos) σ H (.int (i / j)):={λ_ q=>{_,bU Ou aR aR,h.to _ (g.to _ {_,_,ρ,ρ,z,q})}}
def GE (h:Vl X a σ H (.int i)) (g:Vl X b σ H (.int j)) (z:Jy i j):Vl X (.BinOp a .Mult b pos) σ H (.int (i * j)):={λ_ q=>{_,bU By aR aR,h.to _ (g.to _ {_,_,ρ,ρ,z,q})}}
def GD (h:Vl X a σ H (.int i)):Vl X (.UnaryOp .USub a pos) σ H (.int (-i)):={λ_ q=>{_,Zw Ks aR,h.to _ {_,ρ,q}}}
def FY {p:Addr} {xs:List V} (h:Vl X a σ H 49#0) (g:Vl X b σ H (.int i)) (z:H p=some (.tup xs)) (y:oR xs i=some v) (c:qE b):Vl X (.Subscript a b pos) σ H v:={λ_ q=>{_,bZ bT aR aR c,h.to _ (g.to _ {_,_,_,_,ρ,ρ,bX.of z,y,q})}}
def GG {p:Addr} {xs:List V} (h:Vl X a σ H 49#0) (g:Vl X b σ H (.int i)) (z:H p=some (.lst xs)) (y:oR xs i=some v) (c:qE b):Vl X (.Subscript a b pos) σ H v:={λ_ q=>{_,bZ gD aR aR c,h.to _ (g.to _ {_,_,_,_,ρ,ρ,cQ.of z,y,q})}}
def qV {op:CmpOp} {d:R2} (n:lK X (compareOp op) d) (h:Vl X a σ H v) (g:Vl X b σ H w) (y:∀Q:VK,Q (.bl c) H->d v w H Q) (l:behindInMarks op b=false:=by first|exact aX _|rfl):Tv X (.Compare a [op] [b] pos) σ H c:=
 {λ_ q=>{_,bB n aR aR l,h.to _ (g.to _ (y _ {_,ρ,q}))}}
def AW {k} (h:Vl X a σ H v):Tv X (.Compare a [.IsNot] [.Constant .none k p'] pos) σ H (!decide (v=.non)):=qV mY h Kr λ_ q=>{(rfl),q}
def KG (h:Vl X a σ H (.int i)) (g:Vl X b σ H (.int j)):Tv X (.Compare a [.Lt] [b] pos) σ H (decide (i<j)):=qV gR h g λ_ q=>{_,_,ρ,ρ,q}
def KH (h:Vl X a σ H (.int i)) (g:Vl X b σ H (.int j)):Tv X (.Compare a [.LtE] [b] pos) σ H (decide (i<=j)):=qV jJ h g λ_ q=>{_,_,ρ,ρ,q}
def KI (h:Vl X a σ H (.int i)) (g:Vl X b σ H (.int j)):Tv X (.Compare a [.Gt] [b] pos) σ H (decide (j<i)):=qV Os h g λ_ q=>{_,_,ρ,ρ,q}
def KJ (h:Vl X a σ H (.int i)) (g:Vl X b σ H (.int j)):Tv X (.Compare a [.GtE] [b] pos) σ H (decide (j<=i)):=qV Ot h g λ_ q=>{_,_,ρ,ρ,q}
def KK (h:Vl X a σ H v) (g:Vl X b σ H w) (z:BW v w=true):Tv X (.Compare a [.Eq] [b] pos) σ H (decide (v=w)):=qV eT h g λ_ q=>{(z),q}
def iT:Av X [] σ H []:={λ_ q=>{_,aF,q}}
def De (h:Vl X e σ H v) (g:Av X es σ H vs) (c:starEach (e::es) X.env=37#0::starEach es X.env):Av X (e::es) σ H (v::vs):={λ_ q=>{_,aA aR fG c,h.to _ (g.to _ q)}}
def bV (h:D.nx σ H):Wp X [] D σ H:={_,aZ,h}
def cF {n:Nat} (S:X.N.Nodup) (hi:X.N[n]?=some x) (h:Ex X e σ H λv c=>Wp X r D (σ.set n (some v)) c) (d:vI X.env.scope x:=by first|exact E5 rfl|exact K0 rfl) (g:swapsWith e (some (.Name x p')) pos.line X.env=pure false:=by rfl) (l:X.fn x=true\/X.env.scope.names.lookup x=some .local:=by first|exact .inl rfl|exact .inr rfl):Wp X (.Assign [.Name x p'] e pos::r) D σ H:={_,aE (cG S hi d aR g l) aQ,h}
def eC (h:Ex X e σ H D.rt):Wp X (.Return (some e) pos::r) D σ H:={_,aE (aW aR) aQ,h}
def Tq (h:Ex X e σ H λ_ c=>Wp X r D σ c) (d:swapsWith e none pos.line X.env=pure false:=by rfl):Wp X (.Expr e pos::r) D σ H:={_,aE (dY aR d) aQ,h}
def tR {d:List Stmt} (t:Tv X e σ H c) (g:c=true->Wp X ss { D with nx:=Wp X r D } σ H) (h2:c=false->Wp X d { D with nx:=Wp X r D } σ H):Wp X (.If e ss d pos::r) D σ H:={_,aE (bP jT aQ aQ) aQ,t.to _ (by cases c;exact cS (h2 rfl);exact dE (g rfl))}
structure Tn (P:St->Hp->Prop) (D D':dH):Prop where
 nx:∀ σ H,P σ H->D'.nx σ H
 ct:∀ σ H,P σ H->D'.ct σ H
 rt:∀v H,D.rt v H->D'.rt v H
def qH (h:PassesOwn 4#0 X.A X.env X.xe) (c:Nat->St->Hp->Prop) (m:Nat) (n:c m σ H)
  (l:∀m σ H,c m σ H->(Tv X e σ H true/\∀d,Tn (λσ H=>∃g,g<m/\c g σ H) D d->Wp X ss d σ H)\/(Tv X e σ H false/\Wp X r D σ H)):Wp X (.While e ss [] pos::r) D σ H:=
 ⟨_,aE (Nz h jT aQ) aQ,c,{(m),n},λm σ H p=>by
  rcases l m σ H p with ⟨t,k⟩|⟨t,k⟩
  ·exact t.to _ (dE {_,λ_ _ q=>q,k _ {λ_ _ q=>q,λ_ _ q=>q,λ_ _ q=>q}})
  ·exact t.to _ (cS k)⟩
end
section
variable {X:Cx} {CX:pE} {k:Nat} {f C:Addr} {fd:FuncData} {ps:List Str} {sp:Sp} {E:XK} {x m:Str} {p pos apos:Pos} {e o:Expr} {es:List Expr} {σ:St} {H:Hp} {Q:VK} {vs:List V}
end
section
variable {X:Cx} {σ:St} {H:Hp} {D:dH} {r ss:List Stmt} {pos p' p1 p2:Pos} {e:Expr} {x:Str} {n:Nat}
def Tp {v:V} (h:Vl X e σ H v) (S:X.N.Nodup) (hi:X.N[n]?=some x) (a:vI X.env.scope x) (b:swapsWith e (some (.Name x p')) pos.line X.env=pure false) (c:X.fn x=true\/X.env.scope.names.lookup x=some .local) (k:Wp X r D (σ.set n (some v)) H):Wp X (.Assign [.Name x p'] e pos::r) D σ H:=cF S hi (h.to _ k) a b c
def Kf {a:List Stmt} (t:Tv X e σ H c) (z:c=true) (h:Wp X ss { D with nx:=Wp X r D } σ H):Wp X (.If e ss a pos::r) D σ H:=tR t (λ_=>h) λy=>nomatch (z.symm.trans y)
def Ki (t:Tv X e σ H c) (z:c=false) (h:Wp X r D σ H):Wp X (.If e ss [] pos::r) D σ H:=tR t (λy=>nomatch (z.symm.trans y)) λ_=>bV h
def Dr {v:V} (h:Vl X e σ H v) (k:D.rt v H):Wp X (.Return (some e) pos::r) D σ H:=eC (h.to _ k)
def Tv.is {d:Bool} (h:Tv X e σ H c) (z:c=d):Tv X e σ H d:=z ▸ h
def Kh {j:Int} {a:Expr} (l:PassesOwn 4#0 X.A X.env X.xe) (s:X.mg "range"=none) (S:X.N.Nodup) (hi:X.N[n]?=some x) (z:Vl X a σ H (.int j)) (f:-(2 ^ 62)<=j/\j<2 ^ 62) (c:Nat->St->Hp->Prop) (v:c 0 σ H)
  (t:∀i σ H h,i<j.toNat->c i σ H->Tn (c (i+1)) D h->Wp X ss h (σ.set n (some (.int (0+(i:Int))))) H) (m:∀ σ H,c j.toNat σ H->Wp X r D σ H) (g:X.calm=true:=by rfl) (u:vI X.env.scope x:=by first|exact E5 rfl|exact K0 rfl) (C:Gl X "range":=by rfl) (b:starEach [a] X.env=[(false,eval a X.env)]:=by rfl) (B:X.fn x=true\/X.env.scope.names.lookup x=some .local:=by first|exact .inl rfl|exact .inr rfl) (d:∀y,foldedSetIterable (.Call (.Name "range" p1) [a] [] p2) X.env y=pure y:=by intro _;rfl):
  Wp X (.For (.Name x p') (.Call (.Name "range" p1) [a] [] p2) ss [] pos::r) D σ H:=
 {_,aE (eG l g (kP C s fG b g) (aP S hi u B) aQ d) aQ,(De z iT b).to _ {j,ρ,f.1,f.2,kY c v (λk σ H o p=>t k σ H _ o p {λ_ _ q=>q,λ_ _ q=>q,λ_ _ q=>q}) m}}
def Bx (X:Cx) (NB:List Str) (scope:Scope) (cl:List (Str × Addr)) (e:Expr):TE:=λσ H Q=>∀C s H' fp pn,Ex (X.blkF NB scope cl C s H' fp pn) e σ H Q
def Bt (X:Cx) (NB:List Str) (scope:Scope) (cl:List (Str × Addr)) (e:Expr):TT:=λσ H Q=>∀C s H' fp pn,Tx (X.blkF NB scope cl C s H' fp pn) e σ H Q
section
variable {NB:List Str} {js:List Nat} {scope:Scope} {cl:List (Str × Addr)} {elt:Expr} {Q:VK} {p3:Pos}
def lD {J:It} {α:Type} {tc:TT} {te:TE} {val out:α->V} {pm:α->Bool} {xs:List α} (P:xs.length<=4000) (F:∀G i,aJ H G->i<xs.length->J.go i G) (E:∀G,aJ H G->J.stop xs.length G) (K:∀G i x s,aJ H G->i<xs.length->J.yld i G x s->s=G/\∃z,xs[i]?=some z/\x=val z)
  (g:TG) (L:∀z ∈ xs,∀G,aJ H G->∀R:St->Hp->Prop,(∀d:St,d.drop n=(dG n js σ).drop n->(∀R:Bool->Hp->Prop,R (pm z) G->tc d G R)->(pm z=true->∀R:VK,(∀q,aJ G q->R (out z) q)->te d G R)->R d G)->g (val z) (dG n js σ) G R)
  (k:∀a G,aJ H G->G a=some (.lst ((xs.filter pm).map out))->Q (.ref a) G) (a:Addr) (t:H a=none):
  ∃W:Nat->Nat->List V->Hp->Prop,(∃m,W 0 m [] (upd H a (.lst [])))/\∀i m c H,W i m c H->H a=some (.lst c) /\
  ((J.stop i H/\Q (.ref a) H)\/(J.go i H/\∀x w,J.yld i H x w->g x (dG n js σ) w λd N=>d.drop n=(dG n js σ).drop n/\tc d N λb A=>
   if b=true then te d A λy C=>C a=some (.lst c)/\c.length<sizeLine/\∃l,l<m/\W (i+1) l (c++[y]) (upd C a (.lst (c++[y])))
   else ∃l,l<m/\W (i+1) l c A)):=by
 let T:sizeLine=16777216:=sizeLine_eq;refine {λi m c G=>m=xs.length-i/\i<=xs.length/\c=((xs.take i).filter pm).map out/\aJ H G/\G a=some (.lst c),{_,ρ,i9 _,ρ,aI t,aB},?_};rintro i m c G ⟨rfl,U,rfl,h,j⟩;refine {j,?_};by_cases f:i<xs.length
 ·refine .inr {F G i h f,λx s I=>?_};let (rfl,z,v,rfl):=K _ _ _ _ h f I;let u:xs.take (i+1)=xs.take i++[z]:=by rw [A5,v];rfl
  let S:(((xs.take i).filter pm).map out).length<=i:=by
   rw [g7];exact u8 (D5 _ _) (by rw [u6];omega)
  refine L z (i5 v) _ h _ λd e O M=>{e,O _ ?_};by_cases p:pm z=true
  ·rw [if_pos p];refine M p _ λq B=>{B _ _ j,∎,xs.length-(i+1),∎,ρ,f,?_,λb o e=>?_,aB}
   ·rw [u,G9,u5];simp [p]
   ·rw [aC (aD e t)];exact B _ _ (h _ _ e)
  ·rw [if_neg p];refine {xs.length-(i+1),∎,ρ,f,?_,h,j};rw [u,G9,u5];simp [p]
 let e:i=xs.length:=∎;subst e;rw [List.take_length] at j;exact .inl {E _ h,k _ _ h j}
end
end
section
variable {X:Cx} {σ:St} {H:Hp} {D:dH} {r ss:List Stmt} {pos p' p1 p2 p3:Pos} {e a b o:Expr} {x:Str} {n:Nat} {i j:Int} {v w:V} {l:Addr} {xs:List V} {c d:Bool}
def GB (h:Vl X a σ H (.int i)) (g:Vl X b σ H (.int j)) (z:JV i j):Vl X (.BinOp a .Pow b pos) σ H (.int (i ^ j.toNat)):={λ_ q=>{_,bU DJ aR aR,h.to _ (g.to _ {_,_,ρ,ρ,z,q})}}
def GJ (h:Vl X a σ H (.ref l)) (z:H l=some (.lst xs)) (g:X.mg "len"=none) (m:Gl X "len") (f:starEach [a] X.env=[(false,eval a X.env)]) (k:(backTo pos (starEach [] X.env)).any (·.1)=false):Vl X (.Call (.Name "len" p1) [a] [] pos) σ H (.int xs.length):=
 {λ_ q=>{_,bD cC m g PySem.boot_len (aA aR aF f) 8#0 8#0 f k,h.to _ {_,_,ρ,.inl (cQ.of z),q}}}
def mF (h:Tv X a σ H c) (g:c=true->Tv X b σ H d):Tv X (.BoolOp .And [a,b] pos) σ H (c && d):={λ_ q=>{_,PW.pt (fW jT (eY jT)),h.to _ (by cases c;exact cS q;exact dE ((g rfl).to _ q))}}
def tS (m:Vl X o σ H (.ref l)) (h:Vl X e σ H v) (z:H l=some (.lst xs)) (g:xs.length<sizeLine) (k:Wp X r D σ (upd H l (.lst (xs++[v])))) (f:swapsWith (.Call (.Attribute o "append" p1) [e] [] p2) none pos.line X.env=pure false)
  (M:PE X (.Call (.Attribute o "append" p1) [e] [] p2) (KN X.K "list" wE (Ex X o) (iE (Ex X e) mG))):Wp X (.Expr (.Call (.Attribute o "append" p1) [e] [] p2) pos::r) D σ H:=
 {_,aE (dY M f) aQ,m.to _ {.inl {ρ,_,cQ.of z},h.to _ {l,_,_,ρ,ρ,z,g,k}}}
def gY {f:List Expr} (S:X.N.Nodup) (hi:X.N[n]?=some x) (h:Av X f σ H vs) (q:vs.length<=1000) (k:∀l g,H l=none->aJ H g->g l=some (.lst vs)->Wp X r D (σ.set n (some (.ref l))) g) (t:vI X.env.scope x:=by first|exact E5 rfl|exact K0 rfl) (s:swapsWith (.List f p1) (some (.Name x p')) pos.line X.env=pure false:=by rfl) (u:X.fn x=true\/X.env.scope.names.lookup x=some .local:=by first|exact .inl rfl|exact .inr rfl):
  Wp X (.Assign [.Name x p'] (.List f p1) pos::r) D σ H:=cF S hi {_,fB fG,h.to _ {C5 (iF q),λp m=>k p _ m (aI m) aB}} t s u
def AM (h:Vl X a σ H (.ref l)) (z:H l=some (.tup xs)) (g:X.mg "len"=none) (m:Gl X "len") (f:starEach [a] X.env=[(false,eval a X.env)]) (k:(backTo pos (starEach [] X.env)).any (·.1)=false):Vl X (.Call (.Name "len" p1) [a] [] pos) σ H (.int xs.length):=
 {λ_ q=>{_,bD cC m g PySem.boot_len (aA aR aF f) 8#0 8#0 f k,h.to _ {_,_,ρ,.inr (bX.of z),q}}}
def Dt {h:Expr} {g:TG} (s:PassesOwn 4#0 X.A X.env X.xe) (G:PG X h g) (J:Vl X e σ H (.ref l)) (z:H l=some (.tup xs)) (f:Nat->St->Hp->Prop) (E:f 0 σ H) (I:∀i σ H,i<=xs.length->f i σ H->H l=some (.tup xs))
  (B:∀i x σ H m,xs[i]?=some x->f i σ H->Tn (f (i+1)) D m->g x σ H (Wp X ss m)) (t:∀ σ H,f xs.length σ H->Wp X r D σ H) (k:X.calm=true:=by rfl) (F:∀y,foldedSetIterable e X.env y=pure y:=by intro _;rfl):Wp X (.For h e ss [] pos::r) D σ H:=
 {_,aE (eG s k (lQ aR k) G aQ F) aQ,J.to _ {l,ρ,{_,bX.of z},nG (xs:=xs) f E (λi σ H u p=>bX.of (I i σ H u p)) (λi x σ H C p=>B i x σ H _ C p {λ_ _ q=>q,λ_ _ q=>q,λ_ _ q=>q}) t}}
def An (g:σ[n]?=some (some (.int i))) (h:Vl X e σ H (.int j)) (S:X.N.Nodup) (hi:X.N[n]?=some x) (f:vI X.env.scope x) (m:X.fn x=true\/X.env.scope.names.lookup x=some .local) (k:Wp X r D (σ.set n (some (.int (i+j)))) H):Wp X (.AugAssign (.Name x p') .Add e pos::r) D σ H:=
 {_,aE (DA S hi f aR EB m) aQ,_,g,h.to _ {_,_,ρ,ρ,k}}
def lZ {f:List Expr} {k0:Nat} {h:List V} (s:Vl X o σ H (.ref l)) (q:Av X f σ H vs) (z:H l=some (.lst h)) (B:h.length<=4000) (A:vs.length<=1000) (k:∀t g,H t=none->(∀b u,H b=some u->b≠l->g b=some u)->g l=some (.lst (h++[.ref t]))->g t=some (.tup vs)->Wp X r D σ g) (y:swapsWith (.Call (.Attribute o "append" p1) [.Tuple f k0 p3] [] p2) none pos.line X.env=pure false)
  (M:PE X (.Call (.Attribute o "append" p1) [.Tuple f k0 p3] [] p2) (KN X.K "list" wE (Ex X o) (iE (AY (Ax X f)) mG))):Wp X (.Expr (.Call (.Attribute o "append" p1) [.Tuple f k0 p3] [] p2) pos::r) D σ H:=
 {_,aE (dY M y) aQ,s.to _ {.inl {ρ,_,cQ.of z},q.to _ ⟨C5 (iF A),λt m=>by
  have p:l≠t:=aD z m
  refine {l,_,_,ρ,ρ,by rw [aC p];exact z,by rw [sizeLine_eq];omega,k t _ m (λb u e n=>?_) aB ?_}
  ·rw [aC n,aC (aD e m)];exact e
  ·rw [aC p.symm];exact aB⟩}}
def Ex.mono {g:VK} (h:Ex X e σ H Q) (k:∀v H,Q v H->g v H):Ex X e σ H g:=by
 let (t,p,h):=h;exact⟨λy z u=>∃f:VK,(∀v H,f v H->u v H)/\t y z f,λ_ s σ H Q I ⟨f,m,h⟩=>gA (p s σ H f I h) λv s ⟨x,H,I,r,q⟩=>{x,H,I,r,m _ _ q},Q,k,h⟩
inductive NW (X:Cx) (n:Nat) (ss r:List Stmt) (D:dH) (σ:St) (v:V) (H:Hp):Prop|mk (j:Int) (Pv:Nat->St->Hp->Prop) (_:v=.int j) (_:-(2 ^ 62)<=j/\j<2 ^ 62) (_:Pv 0 σ H) (_:∀i σ H D',i<j.toNat->Pv i σ H->Tn (Pv (i+1)) D D'->Wp X ss D' (σ.set n (some (.int (0+(i:Int))))) H) (_:∀ σ H,Pv j.toNat σ H->Wp X r D σ H)
def Hg (t:PassesOwn 4#0 X.A X.env X.xe) (C:X.mg "range"=none) (S:X.N.Nodup) (hi:X.N[n]?=some x) (h:Ex X a σ H (NW X n ss r D σ)) (s:X.calm=true:=by rfl) (F:vI X.env.scope x:=by first|exact E5 rfl|exact K0 rfl) (J:Gl X "range":=by rfl) (f:starEach [a] X.env=[(false,eval a X.env)]:=by rfl) (I:X.fn x=true\/X.env.scope.names.lookup x=some .local:=by first|exact .inl rfl|exact .inr rfl) (g:∀y,foldedSetIterable (.Call (.Name "range" p1) [a] [] p2) X.env y=pure y:=by intro _;rfl):
  Wp X (.For (.Name x p') (.Call (.Name "range" p1) [a] [] p2) ss [] pos::r) D σ H:=
 ⟨_,aE (eG t s (kP J C (aA aR aF f) f s) (aP S hi F I) aQ g) aQ,h.mono λv K q=>by
  let (j,B,rfl,m,G,E,u):=q
  exact {j,ρ,m.1,m.2,kY B G (λk σ H z p=>E k σ H _ z p {λ_ _ q=>q,λ_ _ q=>q,λ_ _ q=>q}) u}⟩
def EK (g:Vl X a σ H (.int i)) (h:Ex X b σ H λw f=>∃j:Int,w=.int j/\0<j/\Q (.int (i % j)) f):Ex X (.BinOp a .Mod b pos) σ H Q:={_,bU oF aR aR,g.to _ (h.mono λ_ _ ⟨j,e,z,q⟩=>{(i),j,ρ,e,z,q})}
def gX {g:List Expr} (s:Av X g σ H vs) (t:vs.length<=1000) (m:∀f,aJ H f->Vl X b σ f (.int i)) (z:oR vs i=some v) (k:∀f,aJ H f->Q v f) (q:qE b:=by exact λ_ _=>rfl):Ex X (.Subscript (.List g p1) b pos) σ H Q:=
 {_,bZ gD (fB fG) aR q,s.to _ {C5 (iF t),λp h=>(m _ (aI h)).to _ {_,_,_,_,ρ,ρ,cQ.of aB,z,k _ (aI h)}}}
def wQ (h:Ex X a σ H λv g=>∃i:Int,v=.int i/\Ex X b σ g λw f=>∃j:Int,w=.int j/\Q (.int (i+j)) f):Ex X (.BinOp a .Add b pos) σ H Q:={_,bU eI aR aR,h.mono λ_ _ ⟨i,e,h⟩=>h.mono λ_ _ ⟨j,e',q⟩=>{(i),j,e,e',q}}
def EJ (h:Ex X a σ H λv g=>∃i:Int,v=.int i/\Ex X b σ g λw f=>∃j:Int,w=.int j/\Q (.int (i-j)) f):Ex X (.BinOp a .Sub b pos) σ H Q:={_,bU oE aR aR,h.mono λ_ _ ⟨i,e,h⟩=>h.mono λ_ _ ⟨j,e',q⟩=>{(i),j,e,e',q}}
end
end
end L2
namespace Hd
open PySem PyProof.Rows
section
variable {M:Model} {A:Around} {E:Value->Shared->Prop} {s:Shared}
end
end Hd
namespace L2
open PySem PySem.Spec PyProof.Rows
section
variable {P:Program} {w:World} {K:PySem.W.Frag} {mg:Str->Option Value} {base:Heap} {N:List Str} {qual:Str} {scope:Scope} {f:Addr} {cd:Value} {A:Around} {outer:List Env} {s₀:Shared} {H₀:Hp} {E:XK}
end
section
variable {X:Cx} {NB:List Str} {n:Nat} {js:List Nat} {scope:Scope} {cl:List (Str × Addr)}
end
def qG.okE {P:Program} {w:World} {K:PySem.W.Frag} {mg:Str->Option Value} {base:Heap} {x a:Str} {st:Stmt} {f:Addr} {g:FuncData} {N ps:List Str} {k:Nat} {sp:Sp} (F:qG K x a st f g) (S:aL N ps (aG st)) (e:∀vs H Q E,sp vs H Q E->vs.length=ps.length)
  (b:∀(cdv:Value) (A:Around) (outer:List Env) (s:Shared) (H:Hp) (vs:List V) (Q:VK) (E:XK),Room k (A.deeper (envOfC a (aG st) s.heap.objs.size f cdv))->sp vs H Q E ->
   let X:=(hX 50#0 P w K mg base N a (aG st) f cdv A outer s H E)
   let D:dH:={ nx:=λ_ i=>Q .non i,rt:=Q }
   ∃t,pB X (bQ st) t/\t D (dD N vs) H):bN P w K mg base 50#0 (k+1) f g ps sp:=by
 let (q,r,kV,m,n,p,cdv,o,j,rfl,h,d):=F.ex;exact Ra h d S e λA outer s H vs Q E l c=>b cdv A outer s H vs Q E l c
def zG {K:PySem.W.Frag} {a:Addr} {d:Int} {xs:List V} {g:TG} {tb:TS} {D:dH} {σ:St} {H:Hp} (b:Nat->St->Hp->Prop) (s:b 0 σ H) (w:∀i σ H,i<=xs.length->b i σ H->bX K H a xs)
  (r:∀i x σ H t,xs[i]?=some x->b i σ H->H t=none->g (.ref t) σ (upd H t (.tup [.int (d+i),x])) λh k=>tb { D with nx:=b (i+1),ct:=b (i+1),bk:=D.nx } h k) (hd:∀ σ H,b xs.length σ H->D.nx σ H):
  ∃W:Nat->Nat->St->Hp->Prop,(∃m,W 0 m σ H)/\∀i m σ H,W i m σ H ->
   ((JR K a d).stop i H/\D.nx σ H)\/((JR K a d).go i H/\∃N:St->Hp->Prop,(∀j c,N j c->∃l,l<m/\W (i+1) l j c)/\∀x c,(JR K a d).yld i H x c->g x σ c λh k=>tb { D with nx:=N,ct:=N,bk:=D.nx } h k):=by
 refine {λi m σ H=>m=xs.length-i/\i<=xs.length/\b i σ H,{xs.length,by simp,i9 _,s},?_};rintro i m σ H ⟨rfl,u,p⟩;let q:=w i σ H u p;by_cases f:i<xs.length
 ·refine .inr {{xs,xs[i],q,by simp [f]},b (i+1),λj c o=>{xs.length-(i+1),∎,ρ,f,o},λx c y=>?_};let (t,v,n,rfl,rfl,y):=y;exact r i v σ _ t (y xs q) p n
 ·let e:i=xs.length:=∎;subst e;exact .inl {{xs,q,g9 _},hd σ H p}
end L2
namespace L2
open PySem PySem.Spec PyProof.Rows PySem.W
section
variable {X:Cx}
def CV (H0:Hp) (t:TS):TS:=λD σ H=>t { D with nx:=λσ1 H1=>∃a o kvs,H1 a=some (.frz o 45#0)/\(∀o v,H0 a≠some (.frz o v))/\D.nx σ1 (upd H1 a 45#0),rt:=λv H1=>∃a o kvs,H1 a=some (.frz o 45#0)/\(∀o v,H0 a≠some (.frz o v))/\D.rt v (upd H1 a 45#0) } σ H
def yE {st:Stmt} {t:TS} (h:PS X st t):PS X st (CV X.H₀ t):=λj s σ H D I q=>gA (h s σ H _ I q) λf l z=>by
 cases f with
 | next=>
  let (g,k,b,a,o,i,c,d,e):=z
  exact {g,_,b.thaw c d,e}
 | ret u=>
  let (v,g,k,b,r,a,o,i,c,d,e):=z
  exact {v,g,_,b.thaw c d,r,e}
 | brk=>exact z
 | cont=>exact z
end
section
variable {prog:Program} {w:World} {A:Around} {E:Value->Shared->Prop} {s:Shared}
section
end
section
variable {X:Cx}
end
def Tz {t h:Addr} {a:Array Value} {Q:List Value->Shared->Prop} (y:A.handled=some (.ref h)) (p:Hd.NoCtx h s.heap) (c:IsTup s.heap t a)
  (l:∀g,Heap.ExtBut s.heap.objs.size s.heap g->Q a.toList { s with heap:=g }):wpAny 7#0 A (unpackItems (.ref t) a.size none) Q E s:=by
 let (u,n,k,x):=id p;let f:t≠s.heap.objs.size:=by let (o,v,_):=c;exact j9 (i7 v)
 let i:h≠s.heap.objs.size:=j9 (i7 k);unfold unpackItems notIterableAtAll;refine d0 (d0 (wpAny_specialOf c.typeIs slot_tuple_iter.lookup 51#0));rw [if_neg 9#0];refine d0 (w9 (iter_tuple c (d0 (w9 (draw_tuple f a.size 0 _ _ {_,j3 _ rfl,ρ,ρ} (c.push _) ∎ λz q d=>?_)))));rw [P1,v6 9#0,if_neg 9#0];refine d0 (w9 (Hd.tup_endH y q ((c.push _).extBut d.extBut f) 9#0 {u,n,d.extBut _ _ i (g8 _ k),x} i λr m=>?_));exact i8 (l r λb o j e=>m b o j (d.extBut b o j (g8 _ e)))
def Xx {env:Env} {b:List Expr} {x1} {pos:Pos} {t h:Addr} {a:Array Value} {Q:Unit->Shared->Prop} (i:A.handled=some (.ref h)) (e:Hd.NoCtx h s.heap) (d:IsTup s.heap t a)
  (f:(assignEach b env).length=a.size) (c:(assignEach b env).findIdx? (·.1)=none)
  (q:∀g,Heap.ExtBut s.heap.objs.size s.heap g->wpAny 7#0 A (assignInOrder ((assignEach b env).map (·.2)) a.toList) Q E { s with heap:=g }):
  wpAny 7#0 A (assign (.Tuple b x1 pos) env (.ref t)) Q E s:=by
 rw [assign_Tuple];refine d0 (N5 ?_);unfold unpack;rw [f,c];exact d0 (w9 (Tz i e d q))
section
variable {X:Cx} {pos:Pos}
def AF (K:Frag) (h C:Addr) (n:Nat) (t:Sk):TG:=λv σ H Q=>H h=some (lJ h C)/\Xh K n t v σ H Q
def Vt {h C:Addr} {d:List Expr} {k:Nat} {t:Sk} {n:Nat} (l:X.A.handled=some (.ref h)) (B:JN X d t)
  (y:(assignEach d X.env).length=n:=by rfl) (g:(assignEach d X.env).findIdx? (·.1)=none:=by rfl):PG X (.Tuple d k pos) (AF X.K h C n t):=by
 intro c s σ H v u Q I r f;let (F,a,G,x,L,q,f):=f;subst x;cases r;let ((_,m),_,_):=I.hok h _ F;let (z,i,D,M):=I.tuple L;refine Xx l m D (by simp [y,<- q,i.length]) g λj p=>?_;let J:aV X c σ H { s with heap:=j }:=I.kept (t':=s.toks) λb o e=>p b o (j9 (i7 e)) e;exact B _ σ H G _ Q J (by simpa using i) f
end
end
end L2
namespace L2
open PySem PySem.Spec PyProof.Rows
def Ak (K:PySem.W.Frag) (h C a:Addr):It:=⟨(Do K a).go,(Do K a).yld,λi H=>H h=some (lJ h C)/\(Do K a).stop i H⟩
def Ar {P:Program} {l:Option Value} {w:World} {K:PySem.W.Frag} {tg:Expr} (a it h C:Addr) (e0:l=some (.ref h)):Aa P w K l tg (Ak K h C a) [it] it (λi h=>h.IsListIter it a i) where
 mem:=by simp
 obj:=λi h f b j=>by
  let e:b=it:=by simpa using j
  subst e
  let (o,e,c,d):=f
  exact {o,e,λv z=>by rw [d] at z;cases z}
 keep:=λi h n f k=>f.at λo e=>k it 9#0 o e
 item:=by
  intro X B A D Q i g s σ H E I r f L;subst B A D;let (xs,x,t,F):=L;let (N,J,p,U):=I.list t;let (u,hu,ru):=J.get F;let (q,G,S,O,f4,y):=r it 9#0;refine wpAny_pyNext_list_item f p.isList (x:=u) (by simpa using hu) λn m T=>?_;let I1:aV X g σ H { s with heap:=n }:=I.turned (t':=s.toks) (λb o j e=>(T.2 b j).trans e) q G O f4 y;let (o,e,c,d):=id m;exact {u,ρ,uW (s:={ s with heap:=n }) e c d 8#0 {x,H,I1,ru,{ρ,λys hy=>by rw [I.list_inj hy t];exact F},m,λb j=>(r b j).1}}
 done:=by
  intro X B A D Q i g s σ H E I r f L;subst B A D;let (M,xs,t,F):=L;let (N,J,p,U):=I.list t;let (q,G,S,O,f4,y):=r it 9#0;let hl:=J.length;let ((_,Y),_,_):=I.hok h _ M;exact Hd.next_endH (Q.trans e0) f p.isList (by simp;omega) Y (λz=>by rw [z,q] at M;cases M) λn Z=>{ρ,I.turned (t':=s.toks) (λb o j e=>Z b o j e) q G O f4 y}
 self:=λ_ _ _ _ _ f h=>wpAny_pyIter_listiter f h
section
variable {X:Cx} {tg:Expr}
def Vp {p:Expr} {B:List Stmt} {wi:TI} {g:TG} {tb:TS} {pos:Pos} (F:PassesOwn 4#0 X.A X.env X.xe) (hi:PI X tg p wi) (hg:PG X tg g) (y:pB X B tb)
  (hs:∀x,foldedSetIterable p X.env x=pure x:=by intro _;rfl):PS X (.For tg p B [] pos) (HC wi g tb):=by
 intro a s σ H D I h;refine wpAny_For (gA (hi s σ H _ I h) λv s1 h1=>gA h1 λa2 s2 h2=>?_) hs;let (it,K,tn,J,H2,e,I2,T,Z,f2,W,(m0,w0),M):=h2;subst e;let j:∀{z:Hp},(∀b ∈ K,z b=none)->∀b ∈ K,lV X a z b:=λhn b y=>{hn b y,(f2 b y).2};refine codeAny_forLoop_any (λn s'=>∃i O z,aV X a O z s'/\tn i s'.heap/\(∀b ∈ K,z b=none)/\W i n O z) ?_ m0 {0,σ,H2,I2,Z,λb y=>(f2 b y).1,w0};rintro n s3 ⟨i,S,Y,I3,L,P,w3⟩;rcases M i n S Y w3 with ⟨U,qn⟩|⟨go,N,hN,Q⟩
 ·refine C0 F (gA (T.done X rfl rfl rfl rfl i a s3 S Y X.xe I3 (j P) L U) λr s4 c=>?_);let (hr,I4):=c;subst hr;exact K6 {(S),Y,I4,qn}
 ·refine C0 F (gA (T.item X rfl rfl rfl rfl i a s3 S Y X.xe I3 (j P) L go) λr s4 c=>?_);let (u,hr,h4):=c;subst hr;refine C0 F (gA h4 λ_ s5 c=>?_);let (x,H5,I5,r5,y5,E,a0):=c;let a1:=I5.pinned (j a0) (T.obj _ _ E);refine C0 F (gA (hg s5 S H5 x u _ a1 r5 (Q x H5 y5)) λ_ s6 c=>?_);let (σ6,H6,I6,q6):=c;refine C0 F (gA (y s6 σ6 H6 _ I6 q6) λf s7 C=>?_);let k:∀{q:St} {t:Hp},aV X (a++gH K s5.heap) q t s7->N q t->∃m,m<n/\∃i O z,aV X a O z s7/\tn i s7.heap/\(∀b ∈ K,z b=none)/\W i m O z:=λ{q t} l G=>by
   let (m',hm,w7):=hN q t G;refine {m',hm,i+1,q,t,l.unpinned,T.keep _ _ _ E λb y o e=>(l.pin (b,o) (j0 _ (j0 _ (dU y e)))).1,λb y=>?_,w7};let (o,e,d):=T.obj _ _ E b y;exact(l.pin (b,o) (j0 _ (j0 _ (dU y e)))).2.1
  cases f with
  | next=>let (q,t,l,G):=C;exact k l G
  | cont=>let (q,t,l,G):=C;exact k l G
  | brk=>let (q,t,l,C):=C;exact {(q),t,l.unpinned,C}
  | ret v=>let (x7,q,t,l,r7,C):=C;exact {(x7),q,t,l.unpinned,r7,C}
def EC (K:PySem.W.Frag) (h C:Addr) (tl:TE):TI:=λσ H R=>tl σ H λx H1=>∃a,x=.ref a/\(∃xs,cQ K H1 a xs)/\R (Ak K h C a) H1
def Ob {h C:Addr} {l:Expr} {f:TE} (m:X.A.handled=some (.ref h)) (u:PE X l f):PI X tg l (EC X.K h C f):=by
 intro g s σ H R I q;refine eP (u s σ H _ I q) λv d x k c n i=>?_;let (a,e,(y,r),q):=i;subst e;cases n;let (t,z,p,w):=c.list r;refine P3 p.isList ?_;refine {d.heap.objs.size,[d.heap.objs.size],_,_,k,ρ,c.kept (t':=d.toks) λb o e=>g8 _ e,Ar a _ h C m,{_,j3 _ rfl,ρ,ρ},λb j=>?_,q};let e:b=d.heap.objs.size:=by simpa using j
 subst e;exact c.fpOk (g9 _) (c.hok.fresh (g9 _))
end
def Jd {K:PySem.W.Frag} {a h C:Addr} {xs:List V} {g:TG} {tb:TS} {D:dH} {σ:St} {H:Hp} (b:Nat->St->Hp->Prop) (u:b 0 σ H) (v:∀i σ H,i<=xs.length->b i σ H->cQ K H a xs/\H h=some (lJ h C))
  (t:∀i x σ H,xs[i]?=some x->b i σ H->g x σ H λf j=>tb { D with nx:=b (i+1),ct:=b (i+1),bk:=D.nx } f j) (n:∀ σ H,b xs.length σ H->D.nx σ H):
  ∃W:Nat->Nat->St->Hp->Prop,(∃m,W 0 m σ H)/\∀i m σ H,W i m σ H ->
   ((Ak K h C a).stop i H/\D.nx σ H)\/((Ak K h C a).go i H/\∃N:St->Hp->Prop,(∀k c,N k c->∃l,l<m/\W (i+1) l k c)/\∀x c,(Ak K h C a).yld i H x c->g x σ c λf j=>tb { D with nx:=N,ct:=N,bk:=D.nx } f j):=by
 refine {λi m σ H=>m=xs.length-i/\i<=xs.length/\b i σ H,{xs.length,by simp,i9 _,u},?_};rintro i m σ H ⟨rfl,r,p⟩;let (q,s):=v i σ H r p;by_cases d:i<xs.length
 ·refine .inr {{xs,xs[i],q,by simp [d]},b (i+1),λk c o=>{xs.length-(i+1),∎,ρ,d,o},λx c y=>?_};let (e,y):=y;subst e;exact t i x σ _ (y xs q) p
 ·let e:i=xs.length:=∎;subst e;exact .inl {{s,xs,q,g9 _},n σ H p}
def gO.of {X:Cx} {NB:List Str} {n:Nat} {js:List Nat} {scope:Scope} {cl:List (Str × Addr)} (clo:closureFor scope X.env=pure cl) (hsub:∀p ∈ cl,X.env.cells.lookup p.1=some p.2)
  (hhas:∀p ∈ (relabel scope X.env).names,(p.2=.cell\/p.2=.free)->(cl.lookup p.1).isSome=true) (len:NB.length=n+js.length) (nam:∀k j,js[k]?=some j->NB[n+k]?=X.N[j]?)
  (ck:∀x ∈ NB.drop n,53#0/\(X.env.kindOf x=some .cell\/X.env.kindOf x=some .free)/\(cl.lookup x).isSome=true):gO X NB n js scope cl:=
 {clo,λx c q=>hsub (x,c) (PySem.mem_of_lookup q),λx q=>q.elim (λz=>hhas (x,_) (PySem.mem_of_lookup z) (.inl rfl)) λz=>hhas (x,_) (PySem.mem_of_lookup z) (.inr rfl),len,nam,λx _ hx=>ck x hx}
def cI {α:Type} {P:α->Prop}:∀x ∈ ([]:List α),P x:=λx a=>absurd a 9#0
def all_cons {α:Type} {P:α->Prop} {a:α} {l:List α} (h:P a) (t:∀x ∈ l,P x):∀x ∈ a::l,P x:=λx hx=>by
 rcases i3.mp hx with rfl|hx
 ·exact h
 ·exact t x hx
end L2
namespace L2
open PySem PySem.Spec PyProof.Rows PySem.W
section
variable {r:List Stmt} {a:Expr}
def JE (X:Cx) (NB:List Str) (n:Nat) (js:List Nat) (scope:Scope) (cl:List (Str × Addr)):Bool:=
 decide (scope.kind=.function) && scope.names.all (λx=>decide (x.2≠.cell) && (decide (x.2≠.local) || decide (scope.names.lookup x.1=some .local))) && (relabel scope X.env).names.all (λp=>!(decide (p.2=.cell) || decide (p.2=.free)) || (cl.lookup p.1).isSome) && decide (NB.length=n+js.length) &&
 (NB.drop n).all (λx=>(decide ((relabel scope X.env).names.lookup x=some .cell) || decide ((relabel scope X.env).names.lookup x=some .free)) && (decide (X.env.kindOf x=some .cell) || decide (X.env.kindOf x=some .free)) && (cl.lookup x).isSome) && decide NB.Nodup
structure pL (X:Cx) (NB:List Str) (n:Nat) (js:List Nat) (scope:Scope) (cl:List (Str × Addr)):Prop where
 b:JE X NB n js scope cl=true
 clo:closureFor scope X.env=pure cl
 ce:cl.map (λp=>X.env.cells.lookup p.1)=cl.map λp=>some p.2
 nm:js.map (λj=>X.N[j]?)=(NB.drop n).map some
section
variable {X:Cx} {NB:List Str} {n:Nat} {js:List Nat} {scope:Scope} {cl:List (Str × Addr)}
def pL.all (c:pL X NB n js scope cl):scope.kind=.function/\(∀x ∈ scope.names,x.2≠.cell)/\(∀x ∈ scope.names,x.2=.local->scope.names.lookup x.1=some .local)/\gO X NB n js scope cl/\NB.Nodup:=by
 let b:=c.b;unfold JE at b;simp only [A8,decide_eq_true_eq,K1,Bool.or_eq_true,L6,Bool.or_eq_false_iff,decide_eq_false_iff_not] at b;let (((((b1,b2),b3),b4),b5),b6):=b;refine {b1,λx hx=>(b2 x hx).1,λx hx e=>(b2 x hx).2.resolve_left λz=>z e,gO.of c.clo (λp hp=>?_) (λp hp h=>?_) b4 (λk j h=>?_) λx hx=>?_,b6}
 ·let (i,hi):=List.getElem?_of_mem hp;have:=congrArg (λl:List (Option Addr)=>l[i]?) c.ce;simp only [j1,hi,Option.map_some,Option.some.injEq] at this;exact this
 ·rcases b3 p hp with z|z
  ·rcases h with h|h
   ·exact absurd h z.1
   ·exact absurd h z.2
  ·exact z
 ·have:=congrArg (λl:List (Option Str)=>l[k]?) c.nm;simp only [j1,h,Option.map_some,v7] at this;cases e:NB[n+k]? with
  | none=>rw [e] at this;cases this
  | some y=>rw [e] at this;exact(Option.some.inj this).symm
 ·let ((a,d),f):=b5 x hx;exact {(a),d,f}
end
section
variable {X:Cx} {σ:St} {H:Hp} {pos p' p1 p2 p3:Pos} {x:Str} {NB:List Str} {js:List Nat} {scope:Scope} {cl:List (Str × Addr)} {elt e c:Expr} {Q:VK} {la:Addr} {α:Type} {val out:α->V} {pm:α->Bool} {zs:List α}
def jC (C:pL X NB 1 js scope cl) (hi:NB[0]?=some x) (Y:Vl X e σ H (.ref la)) (z:H la=some (.lst (zs.map val))) (L:zs.length<=4000)
  (ht:∀z ∈ zs,∀G,aJ H G->∀C s d b a,Tv (X.blkF NB scope cl C s d b a) c ((dG 1 js σ).set 0 (some (val z))) G (pm z)) (he:∀z ∈ zs,pm z=true->∀G,aJ H G->∀C s d b a,Vl (X.blkF NB scope cl C s d b a) elt ((dG 1 js σ).set 0 (some (val z))) G (out z))
  (k:∀l G,aJ H G->G l=some (.lst ((zs.filter pm).map out))->Q (.ref l) G)
  (U:∀C s d b a,vI (X.blkF NB scope cl C s d b a).env.scope x:=by exact λ_ _ _ _ _=>E5 rfl) (Z:∀C s d b a,(X.blkF NB scope cl C s d b a).env.scope.names.lookup x=some .local:=by exact λ_ _ _ _ _=>rfl) (hc:X.calm=true:=by rfl) (A:∀y,foldedSetIterable e X.env y=pure y:=by intro _;rfl):
  Ex X (.ListComp elt [{.Name x p',e,[c],0}] scope p3) σ H Q:=by
 let (T,c2,O,M,P):=C.all;refine {_,eK (g:=dF 0) (tc:=Bt X NB scope cl c) (te:=Bx X NB scope cl elt) T c2 O rfl M (fA aR hc) (λC s H b a=>aP P hi (U C s H b a) (.inr (Z C s H b a))) (λC s d b a=>kO λ_ u t B w I h=>jT u t B w I (h C s d b a)) (λC s d b a _ u t B w I h=>aR u t B w I (h C s d b a)) A,Y.to _ {la,ρ,{_,cQ.of z},?_}};let (W,S,f3):=kX (K:=X.K) z;exact lD L W S (λG i x G' s _ y=>f3 G i x G' s y) _ (λz J G F R h=>h _ rfl (λR q C s d b a=>(ht z J G F C s d b a).to _ q) λN R q C s d b a=>(he z J N G F C s d b a).to _ (q _ (aJ.refl _))) k
def Cv (C:pL X NB 1 js scope cl) (hi:NB[0]?=some x) (S:Vl X e σ H (.ref la)) (z:H la=some (.lst (zs.map val))) (u:zs.length<=4000)
  (he:∀z ∈ zs,∀G,aJ H G->∀C s d b a,Vl (X.blkF NB scope cl C s d b a) elt ((dG 1 js σ).set 0 (some (val z))) G (out z))
  (k:∀l G,aJ H G->G l=some (.lst (zs.map out))->Q (.ref l) G)
  (O:∀C s d b a,vI (X.blkF NB scope cl C s d b a).env.scope x:=by exact λ_ _ _ _ _=>E5 rfl) (W:∀C s d b a,(X.blkF NB scope cl C s d b a).env.scope.names.lookup x=some .local:=by exact λ_ _ _ _ _=>rfl) (Z:X.calm=true:=by rfl) (t:∀y,foldedSetIterable e X.env y=pure y:=by intro _;rfl):
  Ex X (.ListComp elt [{.Name x p',e,[],0}] scope p3) σ H Q:=by
 let (N,c2,A,w,B):=C.all;refine {_,eK (g:=dF 0) (te:=Bx X NB scope cl elt) N c2 A rfl w (fA aR Z) (λC s H b a=>aP B hi (O C s H b a) (.inr (W C s H b a))) (λ_ _ _ _ _=>eZ) (λC s d b a _ T L H2 U I h=>aR T L H2 U I (h C s d b a)) t,S.to _ {la,ρ,{_,cQ.of z},?_}};let (P,J,f3):=kX (K:=X.K) z;exact lD (pm:=λ_=>true) u P J (λG i x Y s _ y=>f3 G i x Y s y) _ (λz M G F R h=>h _ rfl (λR q=>q) λhp R q C s d b a=>(he z M G F C s d b a).to _ (q _ (aJ.refl _))) λl G s e=>k l G s (by rw [e,R7.mpr λ_ _=>rfl])
inductive NX (X:Cx) (NB:List Str) (js:List Nat) (scope:Scope) (cl:List (Str × Addr)) (c elt:Expr) (σ:St) (Q:VK) (v:V) (H:Hp):Prop|mk (α:Type) (la:Addr) (zs:List α) (val out:α->V) (pm:α->Bool) (_:v=.ref la) (_:H la=some (.lst (zs.map val))) (_:zs.length<=4000)
  (_:∀z ∈ zs,∀G,aJ H G->∀C s H' fp pn,Tv (X.blkF NB scope cl C s H' fp pn) c ((dG 1 js σ).set 0 (some (val z))) G (pm z)) (_:∀z ∈ zs,pm z=true->∀G,aJ H G->∀C s H' fp pn,Vl (X.blkF NB scope cl C s H' fp pn) elt ((dG 1 js σ).set 0 (some (val z))) G (out z))
  (_:∀acc G,aJ H G->G acc=some (.lst ((zs.filter pm).map out))->Q (.ref acc) G)
def wZ {n:Nat} {y:Str} {P l:Pos} {D:dH} (S:X.N.Nodup) (F:X.N[n]?=some y) (C:pL X NB 1 js scope cl) (hi:NB[0]?=some x) (h:Ex X e σ H (NX X NB js scope cl c elt σ λv a=>Wp X r D (σ.set n (some v)) a))
  (w:vI X.env.scope y:=by first|exact E5 rfl|exact K0 rfl) (hx:∀C s a d b,vI (X.blkF NB scope cl C s a d b).env.scope x:=by exact λ_ _ _ _ _=>E5 rfl) (hf:∀C s a d b,(X.blkF NB scope cl C s a d b).env.scope.names.lookup x=some .local:=by exact λ_ _ _ _ _=>rfl) (hc:X.calm=true:=by rfl)
  (u:swapsWith (.ListComp elt [{.Name x p',e,[c],0}] scope p3) (some (.Name y P)) l.line X.env=pure true:=by rfl) (L:X.fn y=true\/X.env.scope.names.lookup y=some .local:=by first|exact .inl rfl|exact .inr rfl) (J:∀y,foldedSetIterable e X.env y=pure y:=by intro _;rfl):Wp X (.Assign [.Name y P] (.ListComp elt [{.Name x p',e,[c],0}] scope p3) l::r) D σ H:=by
 let (c1,c2,Z,W,c5):=C.all;refine {_,aE (iV S F w c1 c2 Z rfl W (g:=dF 0) (tc:=Bt X NB scope cl c) (te:=Bx X NB scope cl elt) (fA aR hc) (λC s H d b=>aP c5 hi (hx C s H d b) (.inr (hf C s H d b))) (λC s a d b=>kO λ_ A t M B I h=>jT A t M B I (h C s a d b)) (λC s a d b _ A t M B I h=>aR A t M B I (h C s a d b)) u L J) aQ,h.mono λv H1 q=>?_};let (α,la,zs,val,out,pm,rfl,z,U,ht,he,k):=q;refine {la,ρ,{_,cQ.of z},?_};let (f1,f2,f3):=kX (K:=X.K) z;exact lD (Q:=λv a=>Wp X r D (σ.set n (some v)) a) U f1 f2 (λG i x G' s _ y=>f3 G i x G' s y) _ (λz T G O R h=>h _ rfl (λR q C s a d b=>(ht z T G O C s a d b).to _ q) λY R q C s a d b=>(he z T Y G O C s a d b).to _ (q _ (aJ.refl _))) k
def Kg {n:Nat} {y:Str} {L t:Pos} {D:dH} {j:Int} {out:Nat->V} (S:X.N.Nodup) (F:X.N[n]?=some y) (C:pL X NB 1 js scope cl) (hi:NB[0]?=some x) (hm:X.mg "range"=none) (ha:Vl X a σ H (.int j)) (hj:-(2 ^ 62)<=j/\j<=4000)
  (he:∀i,i<j.toNat->∀G,aJ H G->∀R:VK,(∀O,aJ G O->R (out i) O)->Bx X NB scope cl elt ((dG 1 js σ).set 0 (some (.int (0+(i:Int))))) G R) (k:∀b G,aJ H G->G b=some (.lst ((List.range j.toNat).map out))->Wp X r D (σ.set n (some (.ref b))) G)
  (B:vI X.env.scope y:=by first|exact E5 rfl|exact K0 rfl) (hx:∀C s u l d,vI (X.blkF NB scope cl C s u l d).env.scope x:=by exact λ_ _ _ _ _=>E5 rfl) (hf:∀C s u l d,(X.blkF NB scope cl C s u l d).env.scope.names.lookup x=some .local:=by exact λ_ _ _ _ _=>rfl) (hg:Gl X "range":=by rfl) (w:starEach [a] X.env=[(false,eval a X.env)]:=by rfl) (hc:X.calm=true:=by rfl)
  (A:swapsWith (.ListComp elt [{.Name x p',.Call (.Name "range" p1) [a] [] p2,[],0}] scope p3) (some (.Name y L)) t.line X.env=pure true:=by rfl) (K:X.fn y=true\/X.env.scope.names.lookup y=some .local:=by first|exact .inl rfl|exact .inr rfl) (J:∀y,foldedSetIterable (.Call (.Name "range" p1) [a] [] p2) X.env y=pure y:=by intro _;rfl):
  Wp X (.Assign [.Name y L] (.ListComp elt [{.Name x p',.Call (.Name "range" p1) [a] [] p2,[],0}] scope p3) t::r) D σ H:=by
 let (c1,c2,T,P,U):=C.all;refine {_,aE (iV S F B c1 c2 T rfl P (g:=dF 0) (te:=Bx X NB scope cl elt) (kP hg hm fG w hc) (λC s H l d=>aP U hi (hx C s H l d) (.inr (hf C s H l d))) (λ_ _ _ _ _=>eZ) (λC s u l d _ s2 Y H2 Q2 I h=>aR s2 Y H2 Q2 I (h C s u l d)) A K J) aQ,(De ha iT w).to _ {j,ρ,hj.1,∎,?_}};refine lD (xs:=List.range j.toNat) (pm:=λ_=>true) (out:=out) (val:=λi:Nat=>.int (0+(i:Int))) (Q:=λv u=>Wp X r D (σ.set n (some v)) u) (by rw [A4];omega) (λG i _ hi=>by rw [A4] at hi;exact hi) (λG _=>by rw [A4];exact g9 _)
  (λG i x G' _ M hy=>?_) _ (λz Z G W R h=>h _ rfl (λ_ h=>h) λ_ R q=>he z (E1.mp Z) G W R q) λb G s e=>k b G s (by rw [e,R7.mpr λ_ _=>rfl])
 let (rfl,rfl):=hy;exact {ρ,i,by rw [A4] at M;rw [List.getElem?_range M],ρ}
def AN {b:Expr} {d:Addr} {y v:V} (h:Vl X a σ H (.ref d)) (g:Vl X b σ H y) (z:fD H d y (some v)) (s:X.A.units+1<cLine) (l:FI b):Vl X (.Subscript a b pos) σ H v:={λ_ q=>{_,mS s aR aR l,h.to _ (g.to _ {_,_,ρ,z,q})}}
def Ds {b:List Expr} {v:V} {vs:List V} {D:dH} {k1 k2:Nat} (u:Vl X a σ H v) (s:Av X b σ H vs) (w:vs.length<=1000) (k:∀r q d,aJ H d->d r=some (.tup [v,.ref q])->d q=some (.tup vs)->D.rt (.ref r) d) (g:starEach [a,.Tuple b k1 p1] X.env=(false,eval a X.env)::starEach [.Tuple b k1 p1] X.env:=by rfl) (h:starEach [.Tuple b k1 p1] X.env=[(false,eval (.Tuple b k1 p1) X.env)]:=by rfl):Wp X (.Return (some (.Tuple [a,.Tuple b k1 p1] k2 p2)) pos::r) D σ H:=
 eC {_,bY (aA aR (aA (bY fG) aF h) g),u.to _ (s.to _ {C5 (iF w),λq t=>{by show 2<=sizeLine;decide,λr l=>k r q _ ((aI t).trans (aI l)) aB (aI l _ _ aB)}})}
end
section
variable {X:Cx} {CX:pE} {k:Nat} {f C:Addr} {fd:FuncData} {ps:List Str} {sp:Sp} {E:XK} {m:Str} {pos apos:Pos} {o:Expr} {σ:St} {H:Hp} {Q:VK}
end
section
variable {X:Cx} {σ:St} {H:Hp} {D:dH} {r:List Stmt} {pos p' tpos:Pos} {e o:Expr} {f:Str} {v:V} {p C dx:Addr} {fs:List (Str × V)} {i j:Int}
def GK (h:Vl X e σ H 49#0) (z:H p=some (.ins C dx fs)) (c:tG X.K C) (n:NoAttr X.K C f) (l:fs.lookup f=some v) (a:attributeBase e f X.env (eval e X.env)=eval e X.env):Vl X (.Attribute e f pos) σ H v:={λ_ q=>{_,cM aR a,h.to _ {_,_,_,_,_,ρ,z,c,n,l,q}}}
def Kj (h:Vl X o σ H 49#0) (g:Vl X e σ H v) (z:H p=some (.ins C dx fs)) (c:tG X.K C) (n:NoAttr X.K C f) (l:fs.length<1000) (k:Wp X r D σ (upd H p (.ins C dx (cZ f v fs)))) (a:swapsWith e (some (.Attribute o f p')) pos.line X.env=pure false:=by rfl):Wp X (.Assign [.Attribute o f p'] e pos::r) D σ H:={_,aE (cY aR aR a) aQ,g.to _ (h.to _ {_,_,_,_,ρ,z,c,n,l,k})}
end
end
end L2
section
open L2
local macro_rules | `(tactic| symm)=>`(tactic| first|(apply FX;rfl;(first|exact E5 rfl|exact K0 (E5 rfl)|exact K0 (K0 rfl));decide;decide)|exact Zd|exact GA|exact Kr|exact iT|(apply De;symm;symm;rfl)|(apply GO;symm;symm)|(apply FZ;symm;symm)|(apply FY;symm;symm;assumption;(first|rfl|assumption);exact λ_ _=>rfl)|(apply GG;symm;symm;assumption;(first|rfl|assumption);exact λ_ _=>rfl)|(apply GF;symm;symm;first|decide|omega|assumption)|(apply GN;symm;symm;first|exact⟨by decide,by decide⟩|assumption)|(apply GE;symm;symm;first|assumption|exact .inl ⟨by decide,by decide⟩)|(apply GB;symm;symm;first|exact⟨by decide,by decide,by decide⟩)|(apply GD;symm)|(apply GJ;symm;assumption;assumption;rfl;rfl;rfl)|(apply AM;symm;assumption;assumption;rfl;rfl;rfl)|(apply GK;symm;assumption;assumption;assumption;rfl;rfl)|(apply t_isN;symm)|(apply AW;symm)|(apply KK;symm;symm;rfl)|(apply t_ne;symm;symm;rfl)|(apply AN;symm;symm;assumption;assumption;exact λ_ _=>rfl)|(apply KH;symm;symm)|(apply KG;symm;symm)|(apply KI;symm;symm)|(apply KJ;symm;symm))
local macro_rules | `(tactic| show $n:num)=>`(tactic| (apply Tp (n:=$n);symm;assumption;rfl;(first|exact E5 rfl|exact K0 rfl);rfl;(first|exact .inl rfl|exact .inr rfl)))
namespace L2
open PySem PySem.Spec PyProof.Rows PySem.W
section
variable {pl:Sem Bool}
structure jP (P:Program) (w:World) (K:Frag) (mg:Str->Option Value) (base:Heap) (CX:pE) (n:Str) (k:Nat) (sp:Sp):Prop where
 ex:∃f fd ps,bN P w K mg base CX k f fd ps sp/\keepIn K 59#0=true/\eV K fd ps []/\mg n=some 59#0
structure NH (P:Program) (w:World) (K:Frag) (mg:Str->Option Value) (base:Heap) (n:Str) (k:Nat) (sp:Addr->Sp):Prop where
 ex:∃f fd ps,vJ P w K mg base k f fd ps sp/\keepIn K 59#0=true/\eV K fd ps []/\mg n=some 59#0
structure eA (P:Program) (w:World) (K:Frag) (mg:Str->Option Value) (base:Heap) (CX:pE) (C:Addr) (n:Str) (k:Nat) (sp:Sp):Prop where
 ex:∃f fd ps,bN P w K mg base CX k f fd ps sp/\eV K fd ps []/\Aj K C n f
section
variable {P:Program} {w:World} {K:Frag} {mg:Str->Option Value} {base:Heap} {CX CX':pE} {n:Str} {j:Nat} {sp sp':Sp} {C:Addr}
def jP.up (h:jP P w K mg base CX n j sp) (k:Nat) (e:j<=k:=by decide):∃f fd ps,bN P w K mg base CX k f fd ps sp/\keepIn K 59#0=true/\eV K fd ps []/\mg n=some 59#0:=by
 let (f,fd,ps,b,a):=h.ex;exact {f,fd,ps,b.mono e,a}
def eA.up (h:eA P w K mg base CX C n j sp) (k:Nat) (e:j<=k:=by decide):∃f fd ps,bN P w K mg base CX k f fd ps sp/\eV K fd ps []/\Aj K C n f:=by
 let (f,fd,ps,b,a):=h.ex;exact {f,fd,ps,b.mono e,a}
def eA.mk' (h:eA P w K mg base CX C "__init__" j sp) (i:makesIn K C=true/\keepIn K (.ref C)=true) (k:Nat) (e:j<=k:=by decide):∃f fd ps,bN P w K mg base CX k f fd ps sp/\eV K fd ps []/\Mk K C f:=by
 let (f,fd,ps,b,a,m):=h.ex;exact {f,fd,ps,b.mono e,a,i.1,m.1,m.2,i.2}
def jP.to (h:jP P w K mg base CX n j sp) (t:∀{f fd ps},bN P w K mg base CX j f fd ps sp->bN P w K mg base CX' j f fd ps sp'):jP P w K mg base CX' n j sp':=by
 let (f,fd,ps,b,a):=h.ex;exact {f,fd,ps,t b,a}
def eA.to (h:eA P w K mg base CX C n j sp) (t:∀{f fd ps},bN P w K mg base CX j f fd ps sp->bN P w K mg base CX' j f fd ps sp'):eA P w K mg base CX' C n j sp':=by
 let (f,fd,ps,b,a):=h.ex;exact {f,fd,ps,t b,a}
end
section
variable {X:Cx} {CX:pE} {j k:Nat} {C:Addr} {sp:Sp} {E:XK} {x m:Str} {p pos apos:Pos} {e o:Expr} {es:List Expr} {ta:TE} {t:TA} {σw σ:St} {H:Hp} {Q:VK} {vs:List V}
def aU (G:jP X.prog X.w X.K X.mg X.base CX x j sp) (s:Room k X.A) (l:eS CX X E) (u:PA X (e::es) t) (y:Gl X x:=by rfl) (b:27#0=false:=by decide) (h:starEach (e::es) X.env=37#0::starEach es X.env:=by rfl) (a:(backTo pos 40#0).any (·.1)=false:=by rfl) (d:j<=k:=by first|exact g9 _|decide):
  PE X (.Call (.Name x p) (e::es) [] pos) (xG sp [] E t):=by
 let (f,fd,ps,i,r,v,g):=G.up k d;exact Vy i s y g r v .nil l u b h a
def dO (G:jP X.prog X.w X.K X.mg X.base CX x j sp) (l:Room k X.A) (i:eS CX X E) (r:Av X (e::es) σ H vs) (h:sp vs H Q E)
  (s:Gl X x:=by rfl) (b:27#0=false:=by decide) (g:starEach (e::es) X.env=37#0::starEach es X.env:=by rfl) (a:(backTo pos 40#0).any (·.1)=false:=by rfl) (d:j<=k:=by first|exact g9 _|decide):Ex X (.Call (.Name x p) (e::es) [] pos) σ H Q:=
 {_,aU G l i fG s b g a d,r.to _ (by rw [F0];exact h)}
def bK (l:PE X o ta) (c:tG X.K C) (G:eA X.prog X.w X.K X.mg X.base CX C m j sp) (v:Room k X.A) (s:eS CX X E) (y:PA X (e::es) t) (b:starEach (e::es) X.env=37#0::starEach es X.env:=by rfl) (a:(backTo pos 40#0).any (·.1)=false:=by rfl) (i:eval 28#0 X.env=24#0:=by rfl) (h:j<=k:=by first|exact g9 _|decide):PE X 28#0 (qW C m sp [] E ta t):=by
 let (f,fd,ps,r,u,z):=G.up k h;exact Vw (pl:=pl) l c z r v u .nil s y b a i
def gJ (l:PE X o ta) (c:tG X.K C) (G:eA X.prog X.w X.K X.mg X.base CX C m j sp) (v:Room k X.A) (s:qF CX X σw E) (y:PA X (e::es) t) (b:starEach (e::es) X.env=37#0::starEach es X.env:=by rfl) (a:(backTo pos 40#0).any (·.1)=false:=by rfl) (i:eval 28#0 X.env=24#0:=by rfl) (h:j<=k:=by first|exact g9 _|decide):PE X 28#0 (Zg σw (qW C m sp [] E ta t)):=by
 let (f,fd,ps,r,u,z):=G.up k h;exact Hx (pl:=pl) l c z r v u .nil s y b a i
def bG (h:PE X o ta) (c:tG X.K C) (G:eA X.prog X.w X.K X.mg X.base CX C m j sp) (s:Room k X.A) (l:eS CX X E) (g:eval (.Call (.Attribute o m apos) [] [] pos) X.env=(eval o X.env >>= λa=>standAt apos.atName >>= λ_=>holding [a] (getMethod a m pl) >>= λb=>callWith pos b.1 b.2 (backTo pos (starEach [] X.env)) (backToKw pos (keywordEach [] X.env))):=by rfl) (d:j<=k:=by first|exact g9 _|decide):PE X (.Call (.Attribute o m apos) [] [] pos) (qW C m sp [] E ta mG):=by
 let (f,fd,ps,i,r,u):=G.up k d;exact yH (pl:=pl) h c u i s r .nil l g
def zN {q y:Addr} {fs:List (Str × V)} (r:Vl X o σ H (.ref q)) (z:H q=some (.ins C y fs)) (c:tG X.K C) (G:eA X.prog X.w X.K X.mg X.base CX C m j sp) (u:Room k X.A) (s:eS CX X E) (v:Av X (e::es) σ H vs) (h:sp (.ref q::vs) H Q E) (B:fs.lookup m=none:=by rfl)
  (b:starEach (e::es) X.env=37#0::starEach es X.env:=by rfl) (a:(backTo pos 40#0).any (·.1)=false:=by rfl) (l:eval 28#0 X.env=24#0:=by rfl) (i:j<=k:=by first|exact g9 _|decide):Ex X 28#0 σ H Q:=
 {_,bK (pl:=pl) aR c G u s fG b a l i,r.to _ {_,_,_,ρ,z,B,v.to _ (by rw [F0];exact h)}}
def fJ {q s:Addr} {fs:List (Str × V)} (i:Vl X o σ H (.ref q)) (u:H q=some (.ins C s fs)) (c:tG X.K C) (G:eA X.prog X.w X.K X.mg X.base CX C m j sp) (r:Room k X.A) (l:eS CX X E) (h:sp [.ref q] H Q E) (v:fs.lookup m=none:=by rfl)
  (g:eval (.Call (.Attribute o m apos) [] [] pos) X.env=(eval o X.env >>= λa=>standAt apos.atName >>= λ_=>holding [a] (getMethod a m pl) >>= λb=>callWith pos b.1 b.2 (backTo pos (starEach [] X.env)) (backToKw pos (keywordEach [] X.env))):=by rfl) (d:j<=k:=by first|exact g9 _|decide):Ex X (.Call (.Attribute o m apos) [] [] pos) σ H Q:=
 {_,bG (pl:=pl) aR c G r l g d,i.to _ {_,_,_,ρ,u,v,h}}
end
end
end L2
namespace Ls
open PySem L2 PySem.W
section
variable {H:Hp} {xs:List V} {ps:Lm.Ps} {x:V} {K:Frag} {σ:St}
def eN (i:Nat):Stmt:=PySem.Challenge.pw_lentwork_k82_whole_from_the_mark.main.body.getD i (.Pass ⟨0,0,0,0⟩)
abbrev Mn:Stmt:=eN 19
abbrev xR:Stmt:=eN 20
abbrev Zk:Stmt:=eN 21
abbrev Nm:Stmt:=eN 22
abbrev Fa:Stmt:=eN 23
abbrev Mp:Stmt:=eN 24
abbrev xQ:Stmt:=eN 25
abbrev xS:Stmt:=eN 27
abbrev Zr:Stmt:=eN 36
abbrev Zp:Stmt:=eN 38
abbrev xT:Stmt:=eN 51
abbrev Ms:Stmt:=bC (eN 28) 0
abbrev Eu:Stmt:=bC (eN 28) 1
abbrev Zm:Stmt:=bC (eN 28) 2
abbrev Zn:Stmt:=bC (eN 28) 3
abbrev Mq:Stmt:=bC (eN 28) 4
abbrev Ev:Stmt:=bC (eN 28) 5
abbrev Mr:Stmt:=bC (eN 28) 6
abbrev uG:Stmt:=bC (eN 28) 7
abbrev Mx:Stmt:=bC (eN 17) 0
abbrev Mu:Stmt:=bC (eN 17) 1
abbrev Mz:Stmt:=bC (eN 17) 2
abbrev Mv:Stmt:=bC (eN 17) 3
abbrev My:Stmt:=bC (eN 17) 4
abbrev Mw:Stmt:=bC (eN 17) 5
abbrev oV:Stmt:=bC (eN 17) 6
abbrev Zo:Stmt:=bC (eN 17) 7
abbrev Ez:Stmt:=bC (eN 17) 8
abbrev rD:Stmt:=bC (eN 34) 0
abbrev iK:Stmt:=bC (eN 34) 1
abbrev wC:Stmt:=bC (eN 34) 2
abbrev oA:Stmt:=bC (eN 34) 3
abbrev Nj:Stmt:=bC (eN 34) 4
abbrev Ni:Stmt:=bC (eN 34) 5
abbrev Bm:Stmt:=bC (eN 34) 6
abbrev mL:Stmt:=bC (eN 34) 7
abbrev Zq:Stmt:=bC (eN 34) 8
abbrev Nk:Stmt:=bC (eN 34) 10
abbrev Nf:Stmt:=bC (eN 34) 11
abbrev xV:Stmt:=bC (eN 34) 13
abbrev Ng:Stmt:=bC (eN 34) 14
abbrev rC:Stmt:=bC (eN 34) 15
abbrev vZ:Stmt:=bC (eN 34) 16
abbrev mK:Stmt:=bC (eN 34) 17
abbrev vY:Stmt:=bC (eN 34) 18
abbrev Nh:Stmt:=bC (eN 34) 19
abbrev Nc:Stmt:=bC (eN 34) 20
abbrev rE:Stmt:=bC (eN 34) 21
abbrev xU:Stmt:=eN 39
abbrev Ew:Stmt:=eN 43
abbrev Fc:Stmt:=eN 30
abbrev Et:Stmt:=eN 31
abbrev mM:Stmt:=eN 32
abbrev oB:Stmt:=eN 33
abbrev wD:Stmt:=eN 37
abbrev Na:Stmt:=eN 40
abbrev uH:Stmt:=eN 41
abbrev vX:Stmt:=eN 44
abbrev Mo:Stmt:=eN 45
abbrev fV:Stmt:=eN 46
abbrev Nl:Stmt:=eN 47
abbrev Ey:Stmt:=eN 48
abbrev Mt:Stmt:=eN 49
abbrev Nb:Stmt:=eN 50
structure Gb (mg:Str->Option Value):Prop where
 isi:mg "isinstance"=none
 int:mg "int"=none
 bool:mg "bool"=none
 tuple:mg "tuple"=none
 len:mg "len"=none
 range:mg "range"=none
 list:mg "list"=none
 max:mg "max"=none
 sum:mg "sum"=none
 sorted:mg "sorted"=none
 any:mg "any"=none
 all:mg "all"=none
 enum:mg "enumerate"=none
 min:mg "min"=none
structure Cl (K:Frag) (mg:Str->Option Value) (C:Addr):Prop where
 cl:tG K C
 nW:NoAttr K C "work"
 nR:NoAttr K C "results"
 mgC:mg "Sheet"=some (.ref C)
structure Tw (K:Frag) (mg:Str->Option Value) (CT:Addr):Prop where
 mT:mg "Twice"=some (.ref CT)
 ex:ExcIs K CT
structure Pl (K:Frag) (mg:Str->Option Value) (C:Addr):Prop where
 cl:tG K C
 nN:NoAttr K C "number"
 nL:NoAttr K C "low"
 nH:NoAttr K C "high"
 nM:NoAttr K C "mark"
 nD:NoAttr K C "lending"
 mgC:mg "Piece"=some (.ref C)
structure Bl (K:Frag) (mg:Str->Option Value) (C:Addr):Prop where
 cl:tG K C
 nW:NoAttr K C "work"
 nS:NoAttr K C "span"
 nE:NoAttr K C "every"
 nL:NoAttr K C "least"
 nH:NoAttr K C "sheet"
 nB:NoAttr K C "by_number"
 nN:NoAttr K C "next_number"
 nT:NoAttr K C "next_token"
 nM:NoAttr K C "moment"
 mgC:mg "Book"=some (.ref C)
structure Er (K:Frag) (mg:Str->Option Value) (x:Str) (C:Addr):Prop where
 mB:mg x=some (.ref C)
 ex:ExcIs K C
structure Cn where
 CB:Addr
 CS:Addr
 CP:Addr
 T1:Addr
 T2:Addr
structure NV (mg:Str->Option Value) (c:Nat->Addr):Prop where
 m0:mg "BadWorker"=some (.ref (c 0))
 m1:mg "BadMoment"=some (.ref (c 1))
 m2:mg "NoLending"=some (.ref (c 2))
 m3:mg "Lost"=some (.ref (c 3))
 m4:mg "BadTelling"=some (.ref (c 4))
 m5:mg "Otherwise"=some (.ref (c 5))
 m6:mg "NoPiece"=some (.ref (c 6))
 m7:mg "BadCut"=some (.ref (c 7))
 m8:mg "BadJoin"=some (.ref (c 8))
structure JY (K:Frag) (c:Nat->Addr) (C:Addr) (j:Nat):Prop where
 e:wW K C
 n:∀i,i<9->kitOne K (.ref C) (.ref (c i))=some (decide (i=j))
def Bn (p:List Value->Prop):Nat->Prop
 | 0=>p []
 | n+1=>∀u,Bn (λus=>p (u::us)) n
theorem Bn.all:∀{n:Nat} {p:List Value->Prop},Bn p n->∀a,a.length=n->p a
 | 0,_,h,[],_=>h
 | _+1,_,h,u::a,e=>Bn.all (h u) a (Nat.succ.inj e)
def Bd (x q:Str) (st:Stmt) (ps:List Str):Prop:=∀(kV doc pm:Value) (an:Option Addr) (cdv ct:Value),Bn (λus=>bindArgs (fnOf x q (eO st) (bQ st) (aG st) .none kV doc pm an cdv ct) ⟨us,[]⟩=pure (ps.zip us)) ps.length
def Df (K:Frag) (mg:Str->Option Value) (x:Str) (st:Stmt):Prop:=∃f fd,mg x=some 59#0/\qG K x x st f fd
def Dc (K:Frag) (mg:Str->Option Value) (x:Str) (st:Stmt) (T:Addr):Prop:=∃f fd c,mg x=some 59#0/\wV K x x st f fd c/\codeHdIn K c T=true
def Mf (K:Frag) (C:Addr) (x q:Str) (st:Stmt):Prop:=∃f fd,Aj K C x f/\qG K x q st f fd
def Mc (K:Frag) (C:Addr) (x q:Str) (st:Stmt) (T:Addr):Prop:=∃f fd c,Aj K C x f/\wV K x q st f fd c/\codeHdIn K c T=true
section
variable {P:Program} {w:World} {K:Frag} {mg:Str->Option Value} {base:Heap} {C f T:Addr} {fd:FuncData} {x q:Str} {st:Stmt} {CX:pE} {k:Nat} {ps:List Str} {sp:Sp}
def Bd.to (h:Bd x q st ps) (F:qG K x q st f fd):eV K fd ps []:=F.binds λ_ _ _ _ _ _ a e=>(h _ _ _ _ _ _).all a e
def Df.of (D:Df K mg x st) (h:∀{f fd},qG K x x st f fd->bN P w K mg base CX k f fd ps sp) (b:Bd x x st ps:=by (repeat intro _);rfl):jP P w K mg base CX x k sp:=by
 let (f,fd,m,F):=D;exact {f,fd,ps,h F,F.kp,b.to F,m}
def Df.ofH {sp:Addr->Sp} (D:Df K mg x st) (h:∀{f fd},qG K x x st f fd->vJ P w K mg base k f fd ps sp) (b:Bd x x st ps:=by (repeat intro _);rfl):NH P w K mg base x k sp:=by
 let (f,fd,m,F):=D;exact {f,fd,ps,h F,F.kp,b.to F,m}
def Dc.of (D:Dc K mg x st T) (h:∀{f fd c},wV K x x st f fd c->codeHdIn K c T=true->bN P w K mg base CX k f fd ps sp) (b:Bd x x st ps:=by (repeat intro _);rfl):jP P w K mg base CX x k sp:=by
 let (f,fd,c,m,F,t):=D;exact {f,fd,ps,h F t,F.kp,b.to F.toFun,m}
def Mf.of (D:Mf K C x q st) (h:∀{f fd},qG K x q st f fd->bN P w K mg base CX k f fd ps sp) (b:Bd x q st ps:=by (repeat intro _);rfl):eA P w K mg base CX C x k sp:=by
 let (f,fd,m,F):=D;exact {f,fd,ps,h F,b.to F,m}
def Mc.of (D:Mc K C x q st T) (h:∀{f fd c},wV K x q st f fd c->codeHdIn K c T=true->bN P w K mg base CX k f fd ps sp) (b:Bd x q st ps:=by (repeat intro _);rfl):eA P w K mg base CX C x k sp:=by
 let (f,fd,c,m,F,t):=D;exact {f,fd,ps,h F t,b.to F.toFun,m}
end
structure Wd (P:Program) (w:World) (K:Frag) (mg:Str->Option Value) (base:Heap) (N:Cn) (c:Nat->Addr):Prop where
 G:Gb mg
 z:mg "str"=none
 M:wX base mg
 S:Cl K mg N.CS
 P:Pl K mg N.CP
 B:Bl K mg N.CB
 T:Tw K mg (c 9)
 L:mg "LentError"=some (.ref (c 10))
 iP:makesIn K N.CP=true/\keepIn K (.ref N.CP)=true
 iS:makesIn K N.CS=true/\keepIn K (.ref N.CS)=true
 iB:makesIn K N.CB=true/\keepIn K (.ref N.CB)=true
 W:NV mg c
 X:∀j,j<9->JY K c (c j) j
 E:∀j,j<9->exmOne K (.ref (c j)) (.ref (c 10))=some true
 d1:Df K mg "is_whole" Mn
 d2:Df K mg "is_stretch" xR
 d3:Df K mg "is_work" Zk
 d4:Df K mg "check_work" Nm
 d5:Df K mg "merged" Fa
 d6:Df K mg "short_form" Mp
 d7:Df K mg "without" xQ
 d8:Df K mg "is_numbers" xS
 d9:Df K mg "check_bounds" Fc
 d10:Df K mg "is_worker" Et
 d11:Df K mg "check_worker" mM
 d12:Dc K mg "greatest" oB N.T1
 d13:Df K mg "_law_cell_at" Zr
 d14:Df K mg "_law_draws" wD
 d15:Df K mg "_law_work" Zp
 d16:Df K mg "_law_bounds" xU
 d17:Df K mg "_law_model" Na
 d18:Df K mg "_law_numbered" uH
 d19:Df K mg "_law_result" Ew
 d20:Df K mg "_law_word_of" vX
 d21:Df K mg "_law_tried" Mo
 d22:Df K mg "_law_asked" fV
 d23:Df K mg "_law_done_places" Nl
 d24:Df K mg "_law_places" Ey
 d25:Df K mg "_law_results_of" Mt
 d26:Mf K N.CP "__init__" "Piece.__init__" Mx
 d27:Mf K N.CP "rest" "Piece.rest" Mu
 d28:Mf K N.CP "is_done" "Piece.is_done" Mz
 d29:Mf K N.CP "is_lent" "Piece.is_lent" Mv
 d30:Mf K N.CP "is_free" "Piece.is_free" My
 d31:Mf K N.CP "is_late" "Piece.is_late" Mw
 d32:Mf K N.CP "is_untouched" "Piece.is_untouched" oV
 d33:Mf K N.CP "has_token" "Piece.has_token" Zo
 d34:Mf K N.CP "shown" "Piece.shown" Ez
 d35:Mf K N.CS "__init__" "Sheet.__init__" Ms
 d36:Mf K N.CS "lay" "Sheet.lay" Eu
 d37:Mf K N.CS "result_at" "Sheet.result_at" Zm
 d38:Mf K N.CS "all_results" "Sheet.all_results" Zn
 d39:Mf K N.CS "left_work" "Sheet.left_work" Mq
 d40:Mf K N.CS "holds_row" "Sheet.holds_row" Ev
 d41:Mf K N.CS "laid_work" "Sheet.laid_work" Mr
 d42:Mf K N.CS "numbers_between" "Sheet.numbers_between" uG
 d43:Mf K N.CB "__init__" "Book.__init__" rD
 d44:Mf K N.CB "choice" "Book.choice" iK
 d45:Mf K N.CB "lend" "Book.lend" wC
 d46:Mf K N.CB "tell" "Book.tell" oA
 d47:Mf K N.CB "give_back" "Book.give_back" Nj
 d48:Mf K N.CB "cut" "Book.cut" Ni
 d49:Mf K N.CB "join" "Book.join" Bm
 d50:Mc K N.CB "pieces" "Book.pieces" mL N.T2
 d51:Mf K N.CB "moment_now" "Book.moment_now" Zq
 d52:Mf K N.CB "all_results" "Book.all_results" Nk
 d53:Mf K N.CB "left_work" "Book.left_work" Nf
 d54:Mf K N.CB "check_moment" "Book.check_moment" xV
 d55:Mf K N.CB "held_piece" "Book.held_piece" Ng
 d56:Mf K N.CB "piece_to_tell" "Book.piece_to_tell" rC
 d57:Mf K N.CB "piece_to_cut" "Book.piece_to_cut" vZ
 d58:Mf K N.CB "piece_to_join" "Book.piece_to_join" mK
 d59:Mf K N.CB "piece_with" "Book.piece_with" vY
 d60:Mf K N.CB "piece_from" "Book.piece_from" Nh
 d61:Mf K N.CB "new_piece" "Book.new_piece" Nc
 d62:Mf K N.CB "cut_off" "Book.cut_off" rE
 d63:Df K mg "_law_lent_right" Nb
section
variable {P:Program} {w:World} {K:Frag} {mg:Str->Option Value} {base:Heap} {N:Cn} {c:Nat->Addr} (W:Wd P w K mg base N c)
include W
def Wd.x1:Er K mg "BadMoment" (c 1):={W.W.m1,(W.X 1 8#0).e.exc}
def Wd.x2:Er K mg "NoLending" (c 2):={W.W.m2,(W.X 2 8#0).e.exc}
def Wd.x3:Er K mg "Lost" (c 3):={W.W.m3,(W.X 3 8#0).e.exc}
def Wd.x4:Er K mg "BadTelling" (c 4):={W.W.m4,(W.X 4 8#0).e.exc}
def Wd.x5:Er K mg "Otherwise" (c 5):={W.W.m5,(W.X 5 8#0).e.exc}
def Wd.x6:Er K mg "NoPiece" (c 6):={W.W.m6,(W.X 6 8#0).e.exc}
def Wd.x7:Er K mg "BadCut" (c 7):={W.W.m7,(W.X 7 8#0).e.exc}
def Wd.x8:Er K mg "BadJoin" (c 8):={W.W.m8,(W.X 8 8#0).e.exc}
end
inductive Kn (H:Hp):V->Prop where
 | non:Kn H .non
 | bl (b:Bool):Kn H (.bl b)
 | int (i:Int):Kn H (.int i)
 | str (x:Str):Kn H (.str x)
 | lst {a:Addr} {xs:List V} (e:H a=some (.lst xs)):Kn H (.ref a)
 | dK {a:Addr} {kvs:List (bJ × V)} (e:H a=some 45#0):Kn H (.ref a)
inductive nQ (H:Hp):V->Prop where
 | kn {x:V} (h:Kn H x):nQ H x
 | tup {a:Addr} {xs:List V} (e:H a=some (.tup xs)):nQ H (.ref a)
def eW:V->Bool
 | .int _=>true
 | _=>false
def Kn.same {H':Hp} (e:aJ H H') (h:Kn H x):Kn H' x:=by
 cases h with
 | non=>exact .non
 | bl b=>exact .bl b
 | int i=>exact .int i
 | str x=>exact .str x
 | lst q=>exact .lst (e _ _ q)
 | dK q=>exact .dK (e _ _ q)
theorem nQ.same {H H':Hp} {x:V} (e:aJ H H') (h:nQ H x):nQ H' x:=by
 cases h with
 | kn h=>exact .kn (h.same e)
 | tup q=>exact .tup (e _ _ q)
def Xy (h:nQ H x):∃t,kH K H x t/\kitOne K t (.type "int")=some (match x with | .int _=>true | .bl _=>true|_=>false):=by
 cases h with
 | kn h=>
  cases h with
  | non=>exact {_,.non,by kernel_rfl}
  | bl b=>exact {_,.bl b,by kernel_rfl}
  | int i=>exact {_,.int i,by rfl}
  | str x=>exact {_,.str x,by kernel_rfl}
  | lst q=>exact {_,.lst q,by kernel_rfl}
  | dK q=>exact {_,.dK q,by kernel_rfl}
 | tup q=>exact {_,.tup q,by kernel_rfl}
def Si (h:nQ H x):∃t,kH K H x t/\kitOne K t (.type "bool")=some (match x with | .bl _=>true|_=>false):=by
 cases h with
 | kn h=>
  cases h with
  | non=>exact {_,.non,by kernel_rfl}
  | bl b=>exact {_,.bl b,by rfl}
  | int i=>exact {_,.int i,by kernel_rfl}
  | str x=>exact {_,.str x,by kernel_rfl}
  | lst q=>exact {_,.lst q,by kernel_rfl}
  | dK q=>exact {_,.dK q,by kernel_rfl}
 | tup q=>exact {_,.tup q,by kernel_rfl}
def zZ (h:Kn H x):∃t,kH K H x t/\kitOne K t (.type "tuple")=some false:=by
 cases h with
 | non=>exact {_,.non,by kernel_rfl}
 | bl b=>exact {_,.bl b,by kernel_rfl}
 | int i=>exact {_,.int i,by kernel_rfl}
 | str x=>exact {_,.str x,by kernel_rfl}
 | lst q=>exact {_,.lst q,by kernel_rfl}
 | dK q=>exact {_,.dK q,by kernel_rfl}
def sU {a:Addr} (q:H a=some (.tup xs)):∃t,kH K H (.ref a) t/\kitOne K t (.type "tuple")=some true:={_,.tup q,by rfl}
def vP:Sp:=λvs H Q _=>∃x,vs=[x]/\nQ H x/\Q (.bl (eW x)) H
inductive Ac (H:Hp):V->Option (Int × Int)->Prop where
 | no {x:V} (h:Kn H x):Ac H x none
 | len {a:Addr} {xs:List V} (e:H a=some (.tup xs)) (h:xs.length≠2):Ac H (.ref a) none
 | one {a:Addr} {x y:V} (e:H a=some (.tup [x,y])) (hx:nQ H x) (hy:nQ H y) (h:eW x=false\/eW y=false):Ac H (.ref a) none
 | turned {a:Addr} {l h:Int} (e:H a=some (.tup [.int l,.int h])) (n:h<=l):Ac H (.ref a) none
 | yes {a:Addr} {l h:Int} (e:H a=some (.tup [.int l,.int h])) (n:l<h):Ac H (.ref a) (some (l,h))
def Hn:Sp:=λvs H Q _=>∃x o,vs=[x]/\Ac H x o/\Q (.bl o.isSome) H
section
variable {P:Program} {w:World} {K:Frag} {mg:Str->Option Value} {base:Heap} {N:Cn} {c:Nat->Addr}
def fC:bootBuiltins "isinstance"=some (.builtin "isinstance"):=⋯
def sR:bootBuiltins "int"=some (.type "int"):=⋯
def ET:bootBuiltins "bool"=some (.type "bool"):=⋯
def jE:bootBuiltins "tuple"=some (.type "tuple"):=⋯
def sQ:bootBuiltins "list"=some (.type "list"):=⋯
def Xu:bootBuiltins "max"=some (.builtin "max"):=⋯
def Sa:bootBuiltins "any"=some (.builtin "any"):=⋯
def zW:bootBuiltins "all"=some (.builtin "all"):=⋯
def vB:bootBuiltins "enumerate"=some (.type "enumerate"):=⋯
def kF:bootBuiltins "sorted"=some (.builtin "sorted"):=⋯
def Uy:aL ["thing"] ["thing"] (aG Mn):=2#0
def dN (W:3#0):jP P w K mg base dI "is_whole" 1 vP:=W.d1.of λF=>by
 refine F.ok Uy (λk H Q E h=>?_) (λl A f s H k Q E m h=>?_)
 ·let (x,rfl,_):=h
  rfl
 ·intro X D
  let (x,rfl,g,q):=h
  refine {_,aH (aW (eR (bD dM 33#0 W.G.isi fC (aA (pv 0) (aA (kQ (v:=.ty "int") 33#0 W.G.int sR rfl) aF)))
   (fX (Bu (bD dM 33#0 W.G.isi fC (aA (pv 0) (aA (kQ (v:=.ty "bool") 33#0 W.G.bool ET rfl) aF))))))),?_}
  let (t,a,e):=Xy (K:=K) g
  let (j,b,i):=Si (K:=K) g
  refine {_,ρ,_,_,_,_,ρ,.ty "int",.inl {(t),a,e},_,ρ,?_}
  refine fT (λd=>?_) (λd=>?_)
  ·refine {_,ρ,_,_,_,_,ρ,.ty "bool",.inl {(j),b,i},_,ρ,?_}
   cases x <;> first|exact q|cases d
  ·cases x <;> first|exact q|exact absurd rfl d
def fS {α:Type} {n:Nat} {xs:List α} (h:xs.length=n+1):∃a t,xs=a::t/\t.length=n:=by
 cases xs with
 | nil=>cases h
 | cons a t=>exact {a,t,ρ,Nat.succ.inj h}
def Ga {α:Type} {xs:List α} (h:xs.length=2):∃a b,xs=[a,b]:=by
 let (a,t,rfl,e):=fS h;let (b,t,rfl,d):=fS e;cases List.eq_nil_of_length_eq_zero d;exact {(a),b,ρ}
def Hs:aL ["thing"] ["thing"] (aG xR):=2#0
def Cd (W:3#0):jP P w K mg base dI "is_stretch" 2 Hn:=W.d2.of λF=>by
 refine F.ok Hs (λZ H Q E h=>?_) (λa0 A I s H Z Q E J h=>?_)
 ·let (x,o,rfl,_):=h
  rfl
 ·intro X D
  let (x,o,rfl,U,q):=h
  refine {_,aE (bP (PW.pt (fF (cL (cK (bD dM 33#0 W.G.isi fC (aA (pv 0) (aA (kQ (v:=.ty "tuple") 33#0 W.G.tuple jE rfl) aF)))))
    (eF (bB Zx (bD cC 33#0 W.G.len PySem.boot_len (aA (pv 0) aF)) aS (aX _))))) (aH (aW uN)) aZ)
   (aH (aW (eR (aU (dN W) J aN (aA (bZ bT (pv 0) aS 19#0) aF))
    (eR (aU (dN W) J aN (aA (bZ bT (pv 0) aS 19#0) aF))
     (fX (dA gR (bZ bT (pv 0) aS 19#0) (bZ bT (pv 0) aS 19#0) (aX _))))))),?_}
  have d:∀{a:Addr} {f:List V},x=.ref a->H a=some (.tup f)->(f.length≠2->Q (.bl false) H)->(∀u v,f=[u,v]->nQ H u/\nQ H v/\(eW u=false->Q (.bl false) H)/\(eW v=false->Q (.bl false) H)/\∀l h,u=.int l->v=.int h->Q (.bl (decide (l<h))) H) ->
   (Ub (HB (MN (GX (tB (HF (Nx K) (iE (iU 0) (iE (tC (.ty "tuple")) mG))))) (Kv (Ka MO (HF (λf H Q=>∃p C,f=[.ref p]/\(cQ K H p C\/bX K H p C)/\Q (.int C.length) H) (iE (iU 0) mG)) (tC (.int 2))))) (BA (tC (.bl false))) Dz)
    (BA (Ky (xG vP [] E0 (iE (Ka (gQ K) (iU 0) (tC (.int 0))) mG)) (Ky (xG vP [] E0 (iE (Ka (gQ K) (iU 0) (tC (.int 1))) mG)) (Ka (Vm λi j=>.bl (decide (i<j))) (Ka (gQ K) (iU 0) (tC (.int 0))) (Ka (gQ K) (iU 0) (tC (.int 1))))))))
    { nx:=λ_ H'=>Q .non H',rt:=Q } (dD ["thing"] [x]) H:=λ{a f} ex b O T=>by
   subst ex
   let (t,g,e):=sU (K:=K) b
   refine {_,ρ,_,_,_,_,ρ,.ty "tuple",.inl {(t),g,e},_,ρ,?_}
   refine cS ?_
   refine {_,ρ,a,f,ρ,.inr (bX.of b),ρ,_,ρ,?_}
   refine fT (λB=>?_) (λB=>?_)
   ·refine O λz=>?_
    rw [z] at B
    cases B
   ·let z:f.length=2:=by
     by_cases z:f.length=2
     ·exact z
     ·refine absurd ?_ B;have:decide (V.int (f.length:Int)=V.int 2)=false:=decide_eq_false λw=>z (by injection w with w;omega);rw [this];rfl
    let (u,v,rfl):=Ga z;let (M,L,qu,Y,S):=T u v rfl;refine {_,ρ,a,_,_,_,ρ,ρ,bX.of b,bH (j:=0) rfl,_,ρ,M,_,ρ,?_};refine fT (λr=>?_) (λr=>qu (by simpa using r));refine {_,ρ,a,_,_,_,ρ,ρ,bX.of b,bH (j:=1) rfl,_,ρ,L,_,ρ,?_};refine fT (λm=>?_) (λm=>Y (by simpa using m));obtain⟨l,rfl⟩:∃l,u=.int l:=by
     cases u <;> first|exact {_,ρ} | cases r
    obtain⟨h,rfl⟩:∃h,v=.int h:=by
     cases v <;> first|exact {_,ρ} | cases m
    exact {_,ρ,a,_,_,_,ρ,ρ,bX.of b,bH (j:=0) rfl,_,ρ,a,_,_,_,ρ,ρ,bX.of b,bH (j:=1) rfl,_,_,ρ,ρ,S l h rfl rfl}
  cases U with
  | no h=>
   let (t,g,e):=zZ (K:=K) h;refine {_,ρ,_,_,_,_,ρ,.ty "tuple",.inl {(t),g,e},_,ρ,?_};refine dE ?_;exact dE q
  | len b hl=>exact d rfl b (λ_=>q) λu v z=>absurd (by rw [z];rfl) hl
  | one b r m hw=>
   refine d rfl b (λz=>absurd rfl z) λu v z=>?_;cases z;refine {r,m,λ_=>q,λ_=>q,λl h k y=>?_};subst k;subst y;rcases hw with z|z <;> cases z
  | turned b n=>
   refine d rfl b (λz=>absurd rfl z) λu v z=>?_;cases z;refine {.kn (.int _),.kn (.int _),λ_=>q,λ_=>q,λl h k y=>?_};cases k;cases y;rw [decide_eq_false ∎];exact q
  | yes b n=>
   refine d rfl b (λz=>absurd rfl z) λu v z=>?_;cases z;refine {.kn (.int _),.kn (.int _),λz=>(nomatch z),λz=>(nomatch z),λl h k y=>?_};cases k;cases y;rw [decide_eq_true n];exact q
def JI (os:List (Option (Int × Int))):Prop:=(∀(j:Nat) (o:Option (Int × Int)),os[j]?=some o->o.isSome=true)/\∀(k:Nat) (l h l' h':Int),os[k]?=some (some (l,h))->os[k+1]?=some (some (l',h'))->h<=l'
inductive Ha (H:Hp):V->Bool->Prop where
 | no {x:V} (h:Kn H x):Ha H x false
 | tup {a:Addr} {xs:List V} {os:List (Option (Int × Int))} {b:Bool} (e:H a=some (.tup xs)) (hl:xs.length<=1000) (h:Paired (Ac H) xs os) (hb:b=true↔JI os):Ha H (.ref a) b
def BF:Sp:=λvs H Q _=>∃x b,vs=[x]/\Ha H x b/\Q (.bl b) H
def Bh:aL ["thing","stretch","index"] ["thing"] (aG Zk):=2#0
def Wb (W:3#0):jP P w K mg base dI "is_work" 3 BF:=W.d3.of λF=>by
 refine F.ok Bh 11#0 (λa3 A Z s H vs Q E hr h=>?_)
 ·let (x,b,rfl,_):=h
  rfl
 ·intro X D
  let (x,b,rfl,hx,q):=h
  refine {_,aE (bP (cL (cK (bD dM 33#0 W.G.isi fC (aA (pv 0) (aA (kQ (v:=.ty "tuple") 33#0 W.G.tuple jE rfl) aF))))) (aH (aW uN)) aZ)
   (aE (eG z5 rfl (lQ (pv 0)) (aP (i:=1) Bh.nd rfl 29#0) (aH (bP (cL (cK (aU (Cd W) hr aN (aA (pv 1) aF)))) (aH (aW uN)) aZ)))
   (aE (eG z5 rfl (oD rfl W.G.range (aA aS (aA (bD cC 33#0 W.G.len PySem.boot_len (aA (pv 0) aF)) aF))) (aP (i:=2) Bh.nd rfl 29#0)
    (aH (bP (bB gR (bZ bT (bZ bT (pv 0) (pv 2) 19#0) aS 19#0) (bZ bT (bZ bT (pv 0) (bU oE (pv 2) aS) 19#0) aS 19#0) (aX _)) (aH (aW uN)) aZ)))
   (aH (aW uN)))),?_}
  cases hx with
  | no h=>
   let (t,C,e):=zZ (K:=K) h
   refine {_,ρ,_,_,_,_,ρ,.ty "tuple",.inl {(t),C,e},_,ρ,?_}
   exact dE q
  | @tup a xs os b ea hl hp hb=>
   let (t,C,e):=sU (K:=K) ea
   refine {_,ρ,_,_,_,_,ρ,.ty "tuple",.inl {(t),C,e},_,ρ,?_}
   refine cS ?_
   refine {_,ρ,a,ρ,{_,bX.of ea},nG (K:=K) (a:=a) (xs:=xs) (λi σ I=>I=H/\(∃v,σ=[some (.ref a),v,none])/\∀(j:Nat) (o:Option (Int × Int)),j<i->os[j]?=some o->o.isSome=true)
    {ρ,{(none),ρ},λj o O=>absurd O (L1 _)} (λi σ I _ ⟨m,_⟩=>by subst m;exact bX.of ea) ?_ ?_}
   ·rintro i y σ I hi ⟨rfl,⟨v,rfl⟩,d⟩
    let (o,J,S):=aM hp hi
    refine {_,ρ,y,o,ρ,S,_,ρ,?_}
    cases o with
    | none=>
     refine dE ?_
     have:b=false:=by
      cases b with
      | false=>rfl
      | true=>exact absurd ((hb.mp rfl).1 i none J) 9#0
     rw [this] at q;exact q
    | some p=>
     refine cS ?_;refine {ρ,{_,ρ},λj o' O r=>?_};by_cases T:j<i
     ·exact d j o' T r
     ·have:j=i:=∎;subst this;rw [J] at r;cases r;rfl
   ·rintro σ I ⟨rfl,⟨v,rfl⟩,d⟩;let U:os.length=xs.length:=hp.length.symm;let L:∀(k:Nat),k<xs.length->∃(c:Addr) (l h:Int),xs[k]?=some (.ref c)/\I c=some (.tup [.int l,.int h])/\os[k]?=some (some (l,h)):=λk M=>by
     let f:xs[k]?=some xs[k]:=e7 M;let (o,J,S):=aM hp f;let a1:=d k o M J;cases o with
     | none=>cases a1
     | some p=>
      generalize xs[k]=y at f S;cases S with
      | @yes c l h ec n=>exact {(c),l,h,f,ec,J}
    let hz:xs.length<2 ^ 62:=T3 hl 8#0;refine {_,ρ,a,xs,ρ,.inr (bX.of ea),1,(xs.length:Int),ρ,{by decide,by decide,∎,∎},kY (lo:=1) (n:=((xs.length:Int)-1).toNat)
     (λi σ H3=>H3=I/\(∃v u,σ=[some (.ref a),v,u])/\∀(k:Nat) (l h g B:Int),k<i->os[k]?=some (some (l,h))->os[k+1]?=some (some (g,B))->h<=g) {ρ,{_,_,ρ},λk l h g B M=>absurd M (L1 _)} ?_ ?_}
    ·rintro i σ H3 hi ⟨rfl,⟨v,u,rfl⟩,z⟩;let (c,l,h,x1,x2,x3):=L i ∎;let (c',g,B,y1,y2,y3):=L (i+1) ∎;let i1:(1:Int)+(i:Int)=((i+1:Nat):Int):=∎;let i2:((i+1:Nat):Int)-1=((i:Nat):Int):=∎;rw [i1];refine {_,ρ,_,ρ,a,xs,_,_,ρ,ρ,bX.of ea,bH y1,c',_,_,_,ρ,ρ,bX.of y2,bH (j:=0) rfl,_,ρ,_,ρ,_,_,ρ,ρ,a,xs,_,_,ρ,ρ,bX.of ea,(by rw [i2];exact bH x1),c,_,_,_,ρ,ρ,bX.of x2,bH (j:=1) rfl,_,_,ρ,ρ,_,ρ,?_};refine fT (λY=>?_) (λY=>?_)
     ·let a0:g<h:=by simpa using Y
      have:b=false:=by
       cases b with
       | false=>rfl
       | true=>
        have:=(hb.mp rfl).2 i l h g B x3 y3;omega
      rw [this] at q;exact q
     ·let a0:¬ g<h:=by simpa using Y
      refine {ρ,{_,_,ρ},λk l2 h2 l3 h3 M f m=>?_};by_cases a2:k<i
      ·exact z k l2 h2 l3 h3 a2 f m
      ·have:k=i:=∎;subst this;rw [x3] at f;rw [y3] at m;cases f;cases m;omega
    ·rintro σ H3 ⟨rfl,⟨v,u,rfl⟩,z⟩;have:b=true:=hb.mpr {λj o O=>d j o (by rw [<- U];exact(e8.mp O).1) O,λk l h g B f m=>z k l h g B (by
      have:=(e8.mp m).1
      omega) f m};rw [this] at q;exact q
def jH (H:Hp) (v:V) (p:Int × Int):Prop:=∃b,v=.ref b/\H b=some (.tup [.int p.1,.int p.2])
def aO {α β:Type} {F G:α->β->Prop} (f:∀a b,F a b->G a b) {xs:List α} {d:List β} (h:Paired F xs d):Paired G xs d:=PySem.Paired.mono f h
def dB {α β:Type} {F:α->β->Prop} {x:α} {y:β} {xs:List α} {a:List β} (p:Paired F xs a) (h:F x y):Paired F (xs++[x]) (a++[y]):=PySem.Paired.snoc p h
def cU (H:Hp) (xs:List V) (ps:Lm.Ps):Prop:=Paired (jH H) xs ps
def cU.same {H':Hp} (e:aJ H H') (h:cU H xs ps):cU H' xs ps:=aO (λv q ⟨b,z1,z2⟩=>{b,z1,e _ _ z2}) h
def cE (H:Hp) (p:Addr) (ps:Lm.Ps):Prop:=∃xs,H p=some (.tup xs)/\cU H xs ps
theorem cE.same {H H':Hp} {p:Addr} {ps:Lm.Ps} (e:aJ H H') (h:cE H p ps):cE H' p ps:=by
 let (b,d,a):=h;exact {b,e _ _ d,a.same e}
def Hz (p:cU H xs ps) (h:∀q ∈ ps,q.1<q.2):Paired (Ac H) xs (ps.map some):=by
 unfold cU at p
 induction p with
 | nil=>exact .nil
 | cons r _ t=>
  let (b,rfl,a):=r;exact .cons (.yes a (h _ (i4 ..))) (t λr d=>h r (g6 _ d))
def Ty (w:Lm.Wk ps) (k:Nat) (l h b h':Int) (e1:ps[k]?=some (l,h)) (a:ps[k+1]?=some (b,h')):h<=b:=by
 induction ps generalizing k with
 | nil=>cases e1
 | cons p t ih=>
  let (_,d,e):=w;cases k with
  | zero=>cases e1;exact d _ (i5 (i:=0) a)
  | succ k=>exact ih e k e1 a
def cE.workV {p:Addr} (h:cE H p ps) (wk:Lm.Wk ps) (m:ps.length<=1000):Ha H 49#0 true:=by
 let (n,i,d):=h;refine .tup i (by rw [d.length];exact m) (Hz d wk.lt) {λ_=>{λj o e=>?_,λk l h g f a b=>?_},λ_=>rfl}
 ·rw [j1] at e;cases z:ps[j]? with
  | none=>rw [z] at e;cases e
  | some q=>rw [z] at e;cases e;rfl
 ·rw [j1] at a b;cases z1:ps[k]? with
  | none=>rw [z1] at a;cases a
  | some q1=>
   cases z2:ps[k+1]? with
   | none=>rw [z2] at b;cases b
   | some q2=>
    rw [z1] at a;rw [z2] at b;cases a;cases b;exact Ty wk k l h g f z1 z2
inductive Tg (vs:List V) (H:Hp) (Q:VK) (E0_:XK):Prop|mk (p:Addr) (ps:Lm.Ps) (_:vs=[.ref p]) (_:cE H p ps) (_:Lm.Wk ps) (_:ps.length<=1000) (_:Q .non H)
def Ut:Sp:=Tg
def Ve:aL ["work"] ["work"] (aG Nm):=2#0
def yT (W:3#0):jP P w K mg base dI "check_work" 4 Ut:=W.d4.of λF=>by
 refine F.ok Ve (λi H Q E h=>?_) (λe A a s H i Q E f h=>?_)
 ·let (p,g,rfl,_):=h
  rfl
 ·intro X D
  let (p,g,rfl,d,b,j,q):=h
  refine {_,aH (bP (cL (cK (aU (Wb W) f aN (aA (pv 0) aF)))) (aH rF) aZ),?_}
  exact {_,ρ,_,true,ρ,d.workV b j,_,ρ,cS q}
inductive Ju (K:Frag) (vs:List V) (H:Hp) (Q:VK) (E0_:XK):Prop|mk (p:Addr) (xs:List V) (ps:Lm.Ps) (_:vs=[.ref p]) (_:(cQ K H p xs\/H p=some (.tup xs))) (_:cU H xs ps) (_:ps.length<=1000) (_:∀r H',aJ H H'->cE H' r (Lm.merged ps)->Q (.ref r) H')
def Lg (K:Frag):Sp:=Ju K
inductive So (vs:List V) (H:Hp) (Q:VK) (E0_:XK):Prop|mk (p:Addr) (ps:Lm.Ps) (_:vs=[.ref p]) (_:cE H p ps) (_:Lm.Wk ps) (_:ps.length<=1000) (_:∀r H',aJ H H'->cE H' r (Lm.merged ps)->Q (.ref r) H')
def Eb:Sp:=So
def yK {α β:Type} {F:α->β->Prop} {xs:List α} {d:List β} {y:β} (h:Paired F xs (d++[y])):∃a u,xs=a++[u]/\Paired F a d/\F u y:=by
 induction d generalizing xs with
 | nil=>
  cases h with
  | cons r t=>cases t;exact {[],_,ρ,.nil,r}
 | cons b d ih=>
  cases h with
  | cons r t=>
   let (a,u,rfl,p,f):=ih t;exact {_::a,u,ρ,.cons r p,f}
def Lv {α:Type} (us:List α) (u v:α):(us++[u]).set us.length v=us++[v]:=by
 induction us with
 | nil=>rfl
 | cons a us ih=>
  show a::(us++[u]).set us.length v=a::(us++[v]);rw [ih]
def Qn {n:Nat}:Qo (n+1) (-1)=some n:=by
 unfold Qo;rw [if_neg 8#0,if_pos ∎];congr 1;omega
def JU (qs ps:Lm.Ps) (i:Nat):Prop:=(qs=[]/\i=0)\/∃done c,qs=done++[c]/\done++Lm.mg c (ps.drop i)=Lm.merged ps
def Xk {K:Frag} {a:Addr} {g:TG} {tb:TS} {D:dH} (d:Nat->St->Hp->Prop) (l:d 0 σ H)
  (p:(∀i σ H,i<=xs.length->d i σ H->cQ K H a xs)\/(∀i σ H,i<=xs.length->d i σ H->bX K H a xs))
  (o:∀i x σ H,xs[i]?=some x->d i σ H->g x σ H λe j=>tb { D with nx:=d (i+1),ct:=d (i+1),bk:=D.nx } e j) (hd:∀ σ H,d xs.length σ H->D.nx σ H):
  ((∃xs,cQ K H a xs)/\∃W:Nat->Nat->St->Hp->Prop,(∃m,W 0 m σ H)/\∀i m σ H,W i m σ H ->
   ((Do K a).stop i H/\D.nx σ H)\/((Do K a).go i H/\∃N:St->Hp->Prop,(∀f b,N f b->∃h,h<m/\W (i+1) h f b)/\∀x b,(Do K a).yld i H x b->g x σ b λe j=>tb { D with nx:=N,ct:=N,bk:=D.nx } e j)) \/
  ((∃xs,bX K H a xs)/\∃W:Nat->Nat->St->Hp->Prop,(∃m,W 0 m σ H)/\∀i m σ H,W i m σ H ->
   ((Yw K a).stop i H/\D.nx σ H)\/((Yw K a).go i H/\∃N:St->Hp->Prop,(∀f b,N f b->∃h,h<m/\W (i+1) h f b)/\∀x b,(Yw K a).yld i H x b->g x σ b λe j=>tb { D with nx:=N,ct:=N,bk:=D.nx } e j)):=
 p.elim (λk=>.inl {{xs,k 0 σ H (i9 _) l},nJ d l k o hd}) λk=>.inr {{xs,k 0 σ H (i9 _) l},nG d l k o hd}
def xN:aL ["stretches","whole","low","high"] ["stretches"] (aG Fa):=2#0
def Ii (W:3#0):jP P w K mg base dI "merged" 1 (Lg K):=W.d5.of λF=>by
 refine F.ok xN 11#0 (λa4 A a0 s H vs Q E hr h=>?_)
 ·let (p,xs,f,rfl,_):=h
  rfl
 ·intro X D
  let (p,xs,f,rfl,hp,pr,hl,q):=h
  let nd:=xN.nd
  let sl:sizeLine=16777216:=sizeLine_eq
  let lx:xs.length=f.length:=pr.length
  refine Wp.ex (gY (n:=1) nd rfl iT (i9 _) λl H1 hn s1 e1=>?_)
  let hk:(∀{d:Hp},aJ H d->cQ K d p xs)\/(∀{d:Hp},aJ H d->bX K d p xs):=hp.elim (λz=>.inl λe=>e.seq z) λz=>.inr λe=>bX.of (e _ _ z)
  refine {_,aE (eG z5 rfl (DD (pv 0)) (fH rfl (aY (aP (i:=2) nd rfl 29#0) (aY (aP (i:=3) nd rfl 29#0) dR))) aQ) aQ,?_}
  refine {_,ρ,p,ρ,Xk (K:=K) (a:=p) (xs:=xs) (λi σ d=>aJ H d/\∃B C u v,d l=some (.lst B)/\cU d B C/\JU C f i/\C.length<=i/\σ=[some 49#0,some (.ref l),u,v])
   {s1,[],[],_,_,e1,.nil,.inl {(rfl),ρ},g9 _,ρ} (hk.elim (λz=>.inl λi σ d _ ⟨e,_⟩=>z e) λz=>.inr λi σ d _ ⟨e,_⟩=>z e) ?_ ?_}
  ·rintro i x σ d hi ⟨U,B,C,u,v,k,M,g,ql,rfl⟩
   let (y,Y,b',rfl,a1):=aM pr hi
   let il:i<xs.length:=(e8.mp hi).1
   let dr:f.drop i=y::f.drop (i+1):=by
    rw [D3 ∎];congr 1;exact Option.some.inj ((e7 ∎).symm.trans Y)
   let wl:B.length=C.length:=M.length;let I:∀{O:Hp},(∀b u,d b=some u->b≠l->O b=some u)->aJ H O:=λe b z hz=>e _ _ (U _ _ hz) (aD hz hn);let m:∀{O:Hp} {j:List V} {rs:Lm.Ps},(∀b u,d b=some u->b≠l->O b=some u)->cU d j rs->cU O j rs:=λe h=>aO (λv q ⟨b,z1,z2⟩=>{b,z1,e _ _ z2 (aK z2 k 1#0)}) h;refine {b',_,ρ,bX.of (U _ _ a1),ρ,_,_,ρ,_,_,ρ,ρ,?_};refine {_,aE (bP (PW.pt (fW (jU (pv 1) (λ_=>rfl)) (eY jT))) aQ aQ) aQ,?_};refine {_,ρ,_,.inl {B,cQ.of k,ρ},?_};rcases g with ⟨rfl,rfl⟩|⟨done,c,rfl,g⟩
   ·cases M;refine cS (lZ (vs:=[.int y.1,.int y.2]) 15#0 15#0 k (i9 _) (by show 2<=1000;decide) (λt H5 T L l5 t5=>?_) rfl 55#0);exact bV (bV {I L,_,[y],_,_,l5,.cons {(t),ρ,t5} .nil,.inr ⟨[],y,rfl,by rw [List.nil_append];cases f with|nil=>cases Y|cons a f=>(cases Y;rfl)⟩,g9 _,ρ})
   let (j,u',rfl,pu,Z,rfl,a3):=yK M;let ne:(!(j++[V.ref Z]).isEmpty)=true:=by
    cases j <;> rfl
   rw [ne];rw [dr] at g;let al:oR (j++[V.ref Z]) (-1)=some (.ref Z):=Sd _ _;refine dE (Tv.to (b:=decide (y.1<=c.2)) 15#0 _ (fT (λhc=>?_) (λhc=>?_)))
   ·let J:y.1<=c.2:=of_decide_eq_true hc;let a2:done++Lm.mg (c.1,if y.2 > c.2 then y.2 else c.2) (f.drop (i+1))=Lm.merged f:=by
     rw [<- g];congr 1;show _=(if y.1<=c.2 then _ else _);rw [if_pos J]
    refine {_,aE (wF (bY (aA aR (aA (bD (Jo rfl) 33#0 W.G.max Xu fG) aF))) (DE (pv 1) aR Lu)) aQ,?_};refine Vl.to (v:=.int c.1) 15#0 _ (Av.to (vs:=[.int c.2,.int y.2]) 15#0 _ {_,_,ρ,by show 2<=sizeLine;decide,λt ht=>{_,ρ,Vl.to (v:=.int (-1)) 15#0 _ ?_}});let T:l≠t:=aD k ht;refine {l,_,_,j.length,ρ,ρ,by rw [aC T];exact k,by rw [j5];exact Qn,?_};let L:∀(o:HO) b u,d b=some u->b≠l->(upd (upd d t (.tup [.int c.1,.int (if y.2 > c.2 then y.2 else c.2)])) l o) b=some u:=λo b u e n=>by rw [aC n,aC (aD e ht)];exact e
    refine bV (bV {I (L _),j++[.ref t],done++[(c.1,if y.2 > c.2 then y.2 else c.2)],_,_,?_,?_,.inr {done,_,ρ,a2},?_,ρ})
    ·rw [Lv];exact aB
    ·refine dB (m (L _) pu) {t,ρ,?_};rw [aC T.symm];exact aB
    ·rw [j5] at ql ⊢;show done.length+1<=i+1;have:done.length+1<=i:=ql;omega
   ·let J:¬ y.1<=c.2:=λz=>hc (decide_eq_true z);refine lZ (vs:=[.int y.1,.int y.2]) 15#0 15#0 k ∎ (by show 2<=1000;decide) (λt H5 T L l5 t5=>?_) rfl 55#0;refine bV (bV {I L,_,(done++[c])++[y],_,_,l5,dB (m L M) {(t),ρ,t5},.inr {done++[c],y,ρ,?_},by rw [j5];show (done++[c]).length+1<=i+1;omega,ρ});rw [<- g,w5];congr 1;show _=(if y.1<=c.2 then _ else _);rw [if_neg J];rfl
  ·rintro σ d ⟨U,B,C,u,v,k,M,g,ql,rfl⟩;refine eC {_,bS dP 33#0 W.G.tuple jE (aA (pv 1) aF),?_};let eq:C=Lm.merged f:=by
    let dn:f.drop xs.length=[]:=L5 ∎;rcases g with ⟨rfl,h0⟩|⟨done,c,rfl,g⟩
    ·cases f with
     | nil=>rfl
     | cons a t=>rw [lx] at h0;cases h0
    ·rw [<- g,dn];rfl
   subst eq;refine {_,ρ,l,_,ρ,.inl {cQ.of k,λr S=>?_}};exact q r _ (U.trans (aI S)) {B,aB,M.same (aI S)}
def Va:aL ["work"] ["work"] (aG Mp):=2#0
def rN (W:3#0):jP P w K mg base dI "short_form" 5 Eb:=W.d6.of λF=>by
 refine F.ok Va (λm H Q E h=>?_) (λi A b s H m Q E e h=>?_)
 ·let (p,a,rfl,_):=h
  rfl
 ·intro X D
  let (p,a,rfl,d,g,f,q):=h
  refine {_,aE (dY (aU (yT W) e aN (aA (pv 0) aF))) (aH (aW (aU (Ii W) e aN (aA (pv 0) aF)))),?_}
  let (l,j,k):=id d
  exact {_,ρ,p,a,ρ,d,g,f,_,ρ,p,l,a,ρ,.inr j,k,f,q}
inductive Dg (vs:List V) (H:Hp) (Q:VK) (E0_:XK):Prop|mk (p q:Addr) (a b:Lm.Ps) (_:vs=[.ref p,.ref q]) (_:cE H p a) (_:cE H q b) (_:Lm.Wk a) (_:Lm.Wk b) (_:a.length<=1000) (_:b.length<=1000) (_:∀r H',aJ H H'->cE H' r (Lm.wo (Lm.merged a) (Lm.merged b))->Q (.ref r) H')
def uB:Sp:=Dg
def Oo (h:cU H xs ps) {i:Nat} (hi:i<ps.length):∃b,xs[i]?=some (.ref b)/\H b=some (.tup [.int ps[i].1,.int ps[i].2]):=by
 let a:i<xs.length:=by rw [h.length];exact hi
 let (y,d,b,e,f):=aM h (e7 a);have:y=ps[i]:=Option.some.inj (d.symm.trans (e7 hi));subst this;exact {b,by rw [e7 a,e],f}
def uE:aL ["one","other","kept","gone","rest","first","low","high","at","index"] ["one","other"] (aG xQ):=2#0
def Cb (W:3#0):jP P w K mg base dI "without" 6 uB:=W.d7.of λF=>by
 refine F.ok uE 11#0 (λal A af s H vs Q E hr h=>?_)
 ·let (p,q,a,b,rfl,_):=h
  rfl
 ·intro X D
  let (p,q,a,b,rfl,ha,hb,wa,wb,la,lb,a2):=h
  let sl:sizeLine=16777216:=sizeLine_eq
  let nd:=uE.nd
  let G1:=W.G.len
  refine Wp.ex (cF (n:=2) nd rfl (dO (vs:=[.ref p]) (rN W) hr aN 15#0 {p,a,ρ,ha,wa,la,λkp H1 s1 hk=>?_}))
  refine cF (n:=3) nd rfl (dO (vs:=[.ref q]) (rN W) hr aN 15#0 {q,b,ρ,hb.same s1,wb,lb,λgn H0 s2 hg=>?_})
  let (sk,mk,lk):=Lm.merged_ok wa.lo
  let (sg,an,lg):=Lm.merged_ok wb.lo
  generalize Lm.merged a=T at hk sk lk a2
  generalize Lm.merged b=g at hg sg lg a2
  let (kx,aa,a4):=hk.same s2
  let (gx,a3,a5):=hg
  let s0:=s1.trans s2
  let wl:=Lm.wo_len sk sg
  let ai:kx.length=T.length:=a4.length
  let aj:gx.length=g.length:=a5.length
  refine gY (n:=4) nd rfl iT (i9 _) λl H9 hn sn en=>?_
  show 5
  refine Dt z5 (fH rfl (aY (aP (i:=6) nd rfl 29#0) (aY (aP (i:=7) nd rfl 29#0) dR))) 15#0 (sn _ _ aa) (λi σ H2=>aJ H0 H2/\∃U L Z u1 u2 u3 u4,H2 l=some (.lst U)/\cU H2 U L/\L++Lm.wo (T.drop i) (g.drop Z)=Lm.wo T g/\Z<=g.length/\σ=[some 49#0,some (.ref q),some (.ref kp),some (.ref gn),some (.ref l),some (.int (Z:Nat)),u1,u2,u3,u4])
   {sn,[],[],0,_,_,_,_,en,.nil,ρ,i9 _,ρ} (λi σ H2 _ h=>h.1 _ _ aa) (λi x σ H2 D1 hi h T1=>?_) λσ H2 h=>?_
  rotate_left
  ·let (sm,U,L,Z,u1,u2,u3,u4,hL,pq,eq,fl,rfl):=h
   rw [L5 ∎] at eq
   let eq:L++[]=Lm.wo T g:=eq
   rw [F0] at eq
   subst eq
   refine eC {_,bS dP 33#0 W.G.tuple jE (aA (pv 4) aF),?_}
   refine {_,ρ,l,_,ρ,.inl {cQ.of hL,λr ac=>?_}}
   exact a2 r _ (s0.trans (sm.trans (aI ac))) {U,aB,pq.same (aI ac)}
  let (sm,U,L,Z,u1,u2,u3,u4,hL,pq,eq,fl,rfl):=h
  let (y,hy,b',rfl,ae):=aM a4 hi
  let il:i<kx.length:=(e8.mp hi).1
  let dr:T.drop i=y::T.drop (i+1):=by
   rw [D3 ∎];congr 1;exact Option.some.inj ((e7 ∎).symm.trans hy)
  let Y:∀{C:Hp} {k:Nat},aJ H0 C->k<g.length->∃gb,oR gx (k:Int)=some (.ref gb)/\C gb=some (.tup [.int (g.getD k (0,0)).1,.int (g.getD k (0,0)).2]):=λ{C k} e hk=>by
   let (gb,e1,e2):=Oo a5 hk;refine {gb,bH e1,?_};rw [A9,e7 hk];exact e _ _ e2
  let a0:∀{k:Nat},k<g.length->g.drop k=g.getD k (0,0)::g.drop (k+1):=λ{k} hk=>by
   rw [D3 hk,A9,e7 hk];rfl
  rw [dr] at eq;let a8:L++(Lm.cut y.1 y.2 (Lm.skip y.1 (g.drop Z))++Lm.wo (T.drop (i+1)) (Lm.skip y.1 (g.drop Z)))=Lm.wo T g:=eq;let a6:∀{C H4:Hp},aJ H0 C->(∀b u,C b=some u->b≠l->H4 b=some u)->aJ H0 H4:=λe1 e2 b z hz=>e2 _ _ (e1 _ _ hz) (aD hz hn);let a1:∀{C H4:Hp} {us vs:List V} {L:Lm.Ps},C l=some (.lst vs)->(∀b u,C b=some u->b≠l->H4 b=some u)->cU C us L->cU H4 us L:=λhL e h=>aO (λv q ⟨b,z1,z2⟩=>{b,z1,e _ _ z2 (aK z2 hL 1#0)}) h;refine {b',_,ρ,bX.of (sm _ _ ae),ρ,_,_,ρ,_,_,ρ,ρ,?_};let ak:=sm _ _ a3;refine qH z5 (λm σ C=>C=H2/\∃f:Nat,m=g.length-f/\f<=g.length/\Lm.skip y.1 (g.drop f)=Lm.skip y.1 (g.drop Z)/\σ=[some 49#0,some (.ref q),some (.ref kp),some (.ref gn),some (.ref l),some (.int (f:Nat)),some (.int y.1),some (.int y.2),u3,u4]) _ {(rfl),Z,ρ,fl,ρ,ρ} λm σ C h=>?_;let (rfl,f,rfl,hf,es,rfl):=h;by_cases h1:f<g.length/\(g.getD f (0,0)).2<=y.1
  ·let (gb,g1,g2):=Y sm h1.1;refine .inl {?_,λD2 T2=>?_}
   ·apply Tv.is;apply mF;symm;intro _;symm;rw [decide_eq_true h1.2,decide_eq_true ∎];rfl
   ·apply An (n:=5);rfl;symm;exact nd;rfl;exact E5 rfl;exact .inl rfl;refine bV (T2.nx _ _ {g.length-(f+1),∎,ρ,f+1,ρ,h1.1,?_,ρ});rw [<- es,a0 h1.1];show _=(if (g.getD f (0,0)).2<=y.1 then _ else _);rw [if_pos h1.2]
  let ef:Lm.skip y.1 (g.drop f)=g.drop f:=by
   by_cases O:f<g.length
   ·rw [a0 O];show (if (g.getD f (0,0)).2<=y.1 then _ else _)=_;rw [if_neg λz=>h1 {(O),z}]
   ·rw [L5 ∎];rfl
  refine .inr {?_,?_}
  ·by_cases O:f<g.length
   ·let (gb,g1,g2):=Y sm O;apply Tv.is;apply mF;symm;intro _;symm;rw [decide_eq_false λz=>h1 {(O),z},Bool.and_false]
   ·apply Tv.is;apply mF (d:=true);symm;(intro z;exact absurd (of_decide_eq_true z) ∎);rw [decide_eq_false ∎];rfl
  rw [<- es,ef] at a8;show 8;show 9;refine qH z5 (λm σ C=>aJ H0 C/\∃(U:List V) (L:Lm.Ps) (j:Int) (ix:Nat),m=g.length-ix/\ix<=g.length/\C l=some (.lst U)/\cU C U L/\L++(Lm.cut j y.2 (g.drop ix)++Lm.wo (T.drop (i+1)) (g.drop f))=Lm.wo T g /\
     σ=[some 49#0,some (.ref q),some (.ref kp),some (.ref gn),some (.ref l),some (.int (f:Nat)),some (.int y.1),some (.int y.2),some (.int j),some (.int (ix:Nat))]) _ {(sm),U,L,y.1,f,ρ,hf,hL,pq,a8,ρ} λm σ H4 h=>?_;let (J,a9,S,j,B,rfl,hj,I,M,o,rfl):=h;let am:a9.length=S.length:=M.length;let ad:S.length<=2000:=by
   have:=congrArg List.length o;rw [j5] at this;omega
  let ag:=J _ _ a3;by_cases h3:B<g.length/\(g.getD B (0,0)).1<y.2
  ·let (gb,g1,g2):=Y J h3.1;let ec:Lm.cut j y.2 (g.drop B)=(if j<(g.getD B (0,0)).1 then [(j,(g.getD B (0,0)).1)] else [])++Lm.cut (g.getD B (0,0)).2 y.2 (g.drop (B+1)):=by
    rw [a0 h3.1];show (if (g.getD B (0,0)).1<y.2 then _ else _)=_;rw [if_pos h3.2]
   rw [ec] at o;refine .inl {?_,λD2 T2=>?_}
   ·apply Tv.is;apply mF;symm;intro _;symm;rw [decide_eq_true h3.2,decide_eq_true ∎];rfl
   apply tR;symm
   ·intro h5;rw [if_pos (of_decide_eq_true h5)] at o;refine lZ (vs:=[.int j,.int (g.getD B (0,0)).1]) (by symm) (by symm) I ∎ (by show 2<=1000;decide) (λt H5 nt k5 l5 t5=>?_) rfl (uM PySem.F.plainAttrs_list PySem.F.slot_list_append PySem.F.type_list_append fI aR (aA (bY fG) aF));let a7:=a6 J k5;let ah:=a7 _ _ a3;let g5:=k5 _ _ g2 (aK g2 I 1#0);refine bV ?_;show 8;apply An (n:=9);rfl;symm;exact nd;rfl;exact E5 rfl;exact .inl rfl;exact bV (T2.nx _ _ {g.length-(B+1),∎,a7,_,S++[(j,(g.getD B (0,0)).1)],_,B+1,ρ,h3.1,l5,dB (a1 I k5 M) {(t),ρ,t5},by rw [<- o];simp,ρ})
   ·intro h5;rw [if_neg (of_decide_eq_false h5)] at o;refine bV ?_;show 8;apply An (n:=9);rfl;symm;exact nd;rfl;exact E5 rfl;exact .inl rfl;exact bV (T2.nx _ _ {g.length-(B+1),∎,J,_,_,_,B+1,ρ,h3.1,I,M,o,ρ})
  let ec:Lm.cut j y.2 (g.drop B)=if j<y.2 then [(j,y.2)] else []:=by
   by_cases O:B<g.length
   ·rw [a0 O];show (if (g.getD B (0,0)).1<y.2 then _ else _)=_;rw [if_neg λz=>h3 {(O),z}]
   ·rw [L5 ∎];rfl
  rw [ec] at o;refine .inr {?_,?_}
  ·by_cases O:B<g.length
   ·let (gb,g1,g2):=Y J O;apply Tv.is;apply mF;symm;intro _;symm;rw [decide_eq_false λz=>h3 {(O),z},Bool.and_false]
   ·apply Tv.is;apply mF (d:=true);symm;(intro z;exact absurd (of_decide_eq_true z) ∎);rw [decide_eq_false ∎];rfl
  apply tR;symm
  ·intro h6;rw [if_pos (of_decide_eq_true h6)] at o;refine lZ (vs:=[.int j,.int y.2]) (by symm) (by symm) I ∎ (by show 2<=1000;decide) (λt H5 nt k5 l5 t5=>?_) rfl (uM PySem.F.plainAttrs_list PySem.F.slot_list_append PySem.F.type_list_append fI aR (aA (bY fG) aF));exact bV (bV (T1.nx _ _ {a6 J k5,_,S++[(j,y.2)],f,_,_,_,_,l5,dB (a1 I k5 M) {(t),ρ,t5},by rw [<- o];simp,hf,ρ}))
  ·intro h6;rw [if_neg (of_decide_eq_false h6)] at o;exact bV (bV (T1.nx _ _ {J,a9,S,f,_,_,_,_,I,M,o,hf,ρ}))
def nF {i:Nat} {v:V} {Q:St->Hp->Prop} (h:Q (σ.set i (some v)) H):dF i v σ H Q:=h
def gB {Q:Bool->Hp->Prop} (h:Q true H):GP σ H Q:=h
def Gd (n:Nat) (d:PyData):Prop:=d.canLay0=true/\d.depth<=n
theorem Cy:∀{a:List PyData},(∀d ∈ a,d.canLay0=true)->PyData.canLayAll0 a=true
 | [],_=>by rw [PyData.canLayAll0]
 | d::a,h=>by
  rw [PyData.canLayAll0,h d (i4),Cy λe b=>h e (g6 _ b)]
  rfl
theorem Ct {n:Nat}:∀{a:List PyData},(∀d ∈ a,d.depth<=n)->PyData.depthAll a<=n
 | [],_=>by rw [PyData.depthAll];exact i9 _
 | d::a,h=>by
  rw [PyData.depthAll]
  exact Nat.max_le.mpr {h d i4,Ct λe b=>h e (g6 _ b)}
def Gd.tup {n:Nat} {b:List PyData} (h:∀d ∈ b,Gd n d):Gd (n+1) (.tuple b):=by
 refine {?_,?_}
 ·rw [PyData.canLay0];exact Cy λd a=>(h d a).1
 ·rw [PyData.depth];exact Q8 (Ct λd a=>(h d a).2)
def Gd.lst {n:Nat} {b:List PyData} (h:∀d ∈ b,Gd n d):Gd (n+1) (.list b):=by
 refine {?_,?_}
 ·rw [PyData.canLay0];exact Cy λd a=>(h d a).1
 ·rw [PyData.depth];exact Q8 (Ct λd a=>(h d a).2)
theorem Gd.int {n:Nat} (i:Int):Gd n (.int i):={by rw [PyData.canLay0],by rw [PyData.depth];exact i9 _}
def Gd.non {n:Nat}:Gd n .none:={by rw [PyData.canLay0],by rw [PyData.depth];exact i9 _}
theorem Gd.str {n:Nat} {x:Str} (h:PyData.strOk x=true):Gd n (.str x):={by rw [PyData.canLay0];exact h,by rw [PyData.depth];exact i9 _}
theorem Gd.shaped {n:Nat} {d:PyData} (h:Gd n d) (e:n<=64):SeqAt.shaped d=true:=by
 unfold SeqAt.shaped;rw [h.1,decide_eq_true (u8 h.2 e)];rfl
def jA {n:Nat}:∀d ∈ ([]:List PyData),Gd n d:=λd h=>absurd h 9#0
def bM {n:Nat} {d:PyData} {a:List PyData} (h:Gd n d) (f:∀e ∈ a,Gd n e):∀e ∈ d::a,Gd n e:=λe b=>by
 rcases i3.mp b with z|z
 ·rw [z];exact h
 ·exact f e z
def Ya (H:Hp) (Q:VK) (n:Nat) (M:Int->Prop):Prop:=∀(r:Addr) (d:Lm.Ps) (H':Hp),aJ H H'->cE H' r d->Lm.Sh d->(∀x,Lm.mem d x↔M x)->d.length<=n->Q (.ref r) H'
inductive Ys (vs:List V) (H:Hp) (Q:VK) (E0_:XK):Prop|mk (p q:Addr) (a b:Lm.Ps) (_:vs=[.ref p,.ref q]) (_:cE H p a) (_:cE H q b) (_:Lm.Wk a) (_:Lm.Wk b) (_:a.length<=1000) (_:b.length<=1000) (_:Ya H Q (a.length+b.length) λx=>Lm.mem a x/\¬ Lm.mem b x)
def Li:Sp:=Ys
inductive JK (vs:List V) (H:Hp) (Q:VK) (E0_:XK):Prop|mk (p:Addr) (a:Lm.Ps) (_:vs=[.ref p]) (_:cE H p a) (_:Lm.Wk a) (_:a.length<=1000) (_:Ya H Q a.length λx=>Lm.mem a x)
def HJ:Sp:=JK
def Xs {f:Addr} {g:FuncData} {k:Nat} {ps:List Str} (h:bN P w K mg base dI k f g ps uB):bN P w K mg base dI k f g ps Li:=by
 refine h.imp λz H Q E ⟨p,q,a,b,e,ha,hb,wa,wb,la,lb,t⟩=>{p,q,a,b,e,ha,hb,wa,wb,la,lb,λr m s o=>?_};let (i,j,B):=Lm.merged_ok wa.lo;let (d,u,A):=Lm.merged_ok wb.lo;let (n,y,l):=Lm.wo_ok i d;let v:=Lm.wo_len i d;exact t r _ m s o n (λx=>by rw [l x,j x,u x]) ∎
def HH {f:Addr} {b:FuncData} {k:Nat} {ps:List Str} (h:bN P w K mg base dI k f b ps Eb):bN P w K mg base dI k f b ps HJ:=by
 refine h.imp λm H Q E ⟨p,a,e,ha,wa,la,t⟩=>{p,a,e,ha,wa,la,λr g s i=>?_};let (j,d,l):=Lm.merged_ok wa.lo;exact t r _ g s i j d l
section
variable (W:Wd P w K mg base N c)
include W
def Zy:jP P w K mg base dI "short_form" 5 HJ:=(rN W).to HH
def Wr:jP P w K mg base dI "without" 6 Li:=(Cb W).to Xs
end
def sJ (pw d:Addr):List (Str × V):=cZ "results" (.ref d) (cZ "work" (.ref pw) [])
def wr:¬ ("work":Str)="results":=⋯
def uZ (pw d:Addr):(sJ pw d).lookup ("work":Str)=some (.ref pw):=by
 unfold sJ;rw [dW,if_neg wr,dW,if_pos rfl]
def jZ (pw d:Addr):(sJ pw d).lookup ("results":Str)=some (.ref d):=by
 unfold sJ;rw [dW,if_pos rfl]
def gW (pw d:Addr) {m:Str} (a:¬ m="results") (h2:¬ m="work"):(sJ pw d).lookup m=none:=by
 unfold sJ;rw [dW,if_neg a,dW,if_neg h2]
 all_goals rfl
structure cT (C:Addr) (H:Hp) (p pw d:Addr) (ws:Lm.Ps) (kvs:List (bJ × V)):Prop where
 ob:∃dx,H p=some (.ins C dx (sJ pw d))
 wk:cE H pw ws
 dc:H d=some 45#0
theorem cT.same {C:Addr} {H H':Hp} {p pw d:Addr} {a:Lm.Ps} {kvs:List (bJ × V)} (e:aJ H H') (h:cT C H p pw d a kvs):cT C H' p pw d a kvs:=by
 let ((b,f),g,i):=h;exact {{b,e _ _ f},g.same e,e _ _ i}
inductive Ym (C:Addr) (vs:List V) (H:Hp) (Q:VK) (E0_:XK):Prop|mk (p dx q:Addr) (a:Lm.Ps) (_:vs=[.ref p,.ref q]) (_:H p=some (.ins C dx [])) (_:cE H q a) (_:Lm.Wk a) (_:a.length<=1000) (_:∀(pw d:Addr) (ws:Lm.Ps) (H':Hp),H d=none->cT C H' p pw d ws []->Lm.Sh ws->(∀x,Lm.mem ws x↔Lm.mem a x)->ws.length<=a.length->(∀b o,H b=some o->b≠p->H' b=some o)->Q .non H')
def BN (C:Addr):Sp:=Ym C
inductive Yf (vs:List V) (H:Hp) (Q:VK) (E0_:XK):Prop|mk (p:Addr) (ns:List Int) (_:vs=[.ref p]) (_:H p=some (.tup 32#0)) (_:ns.length<=1000) (_:∀H',aJ H H'->Q (.bl true) H')
def BI:Sp:=Yf
inductive Sz (C:Addr) (vs:List V) (H:Hp) (Q:VK) (E0_:XK):Prop|mk (p pw d:Addr) (ws:Lm.Ps) (kvs:List (bJ × V)) (i j:Int) (_:vs=[.ref p,.int i,.int j]) (_:cT C H p pw d ws kvs) (_:ws.length<=1000) (_:∀H',aJ H H'->Q (.bl (ws.any λq=>decide (q.1<=i) && decide (j<=q.2))) H')
def Up (C:Addr):Sp:=Sz C
inductive Yk (C:Addr) (vs:List V) (H:Hp) (Q:VK) (E0_:XK):Prop|mk (p pw d:Addr) (ws:Lm.Ps) (kvs:List (bJ × V)) (ns:List Int) (_:vs=[.ref p]) (_:cT C H p pw d ws kvs) (_:kvs.map (·.1)=ns.map Sum.inl) (_:ns.Nodup) (_:ns.length<128) (_:Ya H Q ns.length λx=>x ∈ ns)
def BM (C:Addr):Sp:=Yk C
def CH:aL ["self","work"] ["self","work"] (aG Ms):=2#0
def Wo (W:3#0):eA P w K mg base dI N.CS "__init__" 6 (BN N.CS):=W.d35.of λF=>by
 refine F.ok CH (λU H Q E h=>?_) (λa0 A y s H U Q E O h=>?_)
 ·let (p,f,q,a,rfl,_):=h
  rfl
 ·intro X D
  let (p,f,q,a,rfl,C,L,wa,la,t):=h
  refine {_,aE (cY (pv 0) (aU (Zy W) O aN (aA (pv 1) aF)) rfl) (aH (cY (pv 0) rJ rfl)),?_}
  refine {_,ρ,q,a,ρ,L,wa,la,λr G k l M T J Z=>?_}
  refine {_,ρ,p,N.CS,f,[],ρ,l _ _ C,W.S.cl,W.S.nW,(by show 0<1000;decide),?_}
  intro d m
  let j:k p=some (.ins N.CS f []):=l _ _ C
  let g:p≠d:=λz=>by
   subst z
   rw [aB] at m
   cases m
  let i:k d=none:=by rw [aC g.symm] at m;exact m
  let u:H d=none:=l.free i
  refine {_,ρ,p,N.CS,f,_,ρ,(by rw [aC g];exact aB),W.S.cl,W.S.nR,(by show 1<1000;decide),?_}
  let B:∀b o,k b=some o->b≠p->(upd (upd (upd k p (.ins N.CS f (cZ "work" (.ref r) []))) d (.dK [])) p (.ins N.CS f (cZ "results" (.ref d) (cZ "work" (.ref r) [])))) b=some o:=λb o e n=>by
   rw [aC n,aC (aD e i),aC n]
   exact e
  refine t r d G _ u {{(f),aB},?_,by rw [aC g.symm,aB]} T J Z λb o e n=>B b o (l _ _ e) n
  let (I,x,Y):=M
  exact {I,B _ _ x (λz=>by subst z;rw [j] at x;cases x),aO (λv q ⟨b,z1,z2⟩=>{b,z1,B _ _ z2 (λz=>by subst z;rw [j] at z2;cases z2)}) Y}
def Ht:aL ["thing"] ["thing"] (aG xS):=2#0
def NO:(["number"]:List Str).Nodup:=⋯
def rO (W:3#0):jP P w K mg base dI "is_numbers" 2 BI:=W.d8.of λF=>by
 refine F.ok Ht (λY H Q E h=>?_) (λZ A B s H Y Q E S h=>?_)
 ·let (p,d,rfl,_):=h
  rfl
 ·intro X D
  let (p,d,rfl,j,ln,t):=h
  refine {_,aH (aW (eR (bD dM 33#0 W.G.isi fC (aA (pv 0) (aA (kQ (v:=.ty "tuple") 33#0 W.G.tuple jE rfl) aF)))
   (fX (bD (zV rfl) 33#0 W.G.all zW (aA (eK (NB:=["number"]) (n:=1) (js:=[]) (g:=dF 0) (cl:=[]) rfl ⋯ ⋯ rfl (pL.all 39#0).2.2.2.1 (lQ (pv 0)) (λ_ s H L J=>aP (i:=0) NO rfl 29#0 (.inr rfl)) (λ_ s H L J=>eZ)
    (λ_ s H L J=>aU (dN W) S aN (aA (pv 0) aF))) aF))))),?_}
  let sl:sizeLine=16777216:=sizeLine_eq
  let (u,r,e):=sU (K:=K) j
  refine {_,ρ,_,_,_,_,ρ,.ty "tuple",.inl {(u),r,e},_,ρ,?_}
  refine dE ?_
  refine {_,ρ,p,ρ,{_,bX.of j},λk a=>?_}
  let lm:(d.map V.int).length=d.length:=g7 ..
  refine {λi m q C=>m=d.length-i/\i<=d.length/\q=(List.replicate i true).map V.bl/\aJ H C/\C k=some (.lst q),{_,ρ,i9 _,ρ,aI a,aB},?_}
  rintro i m q C ⟨rfl,hi,rfl,l,x⟩
  refine {x,?_}
  by_cases f:i<d.length
  ·refine .inr {{_,_,bX.of (l _ _ j),e7 ∎},?_}
   rintro y O ⟨rfl,M⟩
   let I:=M _ (bX.of (l _ _ j))
   let T:y=V.int d[i]:=by
    rw [j1,e7 f] at I;exact(Option.some.inj I).symm
   subst T;refine {ρ,?_};refine gB ?_;refine dE ?_;refine {_,ρ,_,ρ,.kn (.int _),x,by rw [g7,D4];omega,_,?_,ρ,f,?_,λb o z=>?_,aB}
   ·omega
   ·rw [List.replicate_succ',u5];rfl
   ·rw [aC (aD z a)];exact l _ _ z
  ·refine .inl {{_,bX.of (l _ _ j),∎},?_};refine {k,_,ρ,cQ.of x,?_};let U:(List.replicate i true).all id=true:=by simp
   rw [U];exact t _ l
def Vd:aL ["self","first","behind"] ["self","first","behind"] (aG Ev):=2#0
def MP:(["low","high","behind","first"]:List Str).Nodup:=⋯
def any_map {α β:Type} (f:α->Bool) (l:List α):((l.map f).any id)=l.any f:=by
 induction l with
 | nil=>rfl
 | cons a l ih=>rw [x9,K4,K4,ih];rfl
def Pk (W:3#0):eA P w K mg base dI N.CS "holds_row" 1 (Up N.CS):=W.d40.of λF=>by
 refine F.ok Vd 11#0 (λa1 A T s H vs Q E hr h=>?_)
 ·let (p,Z,d,e,O,i,j,rfl,_):=h
  rfl
 ·intro X D
  let (p,Z,d,e,O,v,J,rfl,S,lw,t):=h
  refine {_,(aH (aW (bD (Rw rfl) 33#0 W.G.any Sa (aA (eK (NB:=["low","high","behind","first"]) (n:=2) (js:=[2,1]) (g:=Xh K 2 (sG (dF 0) (sG (dF 1) Xi))) (cl:=[("first",s.heap.objs.size+1),("behind",s.heap.objs.size+1+1)]) rfl ⋯ ⋯ rfl
    (gO.of rfl (all_cons rfl (all_cons rfl cI)) (all_cons 20#0 (all_cons 20#0 (all_cons 20#0 (all_cons (λ_=>rfl) (all_cons (λ_=>rfl) cI))))) rfl
     (λk j h=>match k,j,h with|0,_,rfl=>rfl|1,_,rfl=>rfl|k+2,_,h=>absurd h 9#0) (all_cons {.inl rfl,.inl rfl,ρ} (all_cons {.inl rfl,.inl rfl,ρ} cI)))
    (lQ 22#0) (λ_ s H fp pn=>fH (n:=2) rfl (aY (aP (i:=0) MP rfl 29#0 (.inr rfl)) (aY (aP (i:=1) MP rfl 29#0 (.inr rfl)) dR))) (λ_ s H fp pn=>eZ)
    (λ_ s H fp pn=>eR (dA jJ (pv 0) (pv 3) (aX _)) (fX (dA jJ (pv 2) (pv 1) (aX _))))) aF)))),?_}
  let sl:sizeLine=16777216:=sizeLine_eq
  let ((dx,h1),hw,hd):=id S
  let (f,I,x2):=id hw
  let lx:f.length=e.length:=x2.length
  refine {_,ρ,p,N.CS,dx,_,_,ρ,h1,W.S.cl,W.S.nW,uZ _ _,Z,ρ,{_,bX.of I},λC a=>?_}
  refine {λi m L U=>m=f.length-i/\i<=f.length/\L=((e.take i).map λq=>decide (q.1<=v) && decide (J<=q.2)).map V.bl/\aJ H U/\U C=some (.lst L),{_,ρ,i9 _,ρ,aI a,aB},?_}
  rintro i m L U ⟨rfl,hi,rfl,u,B⟩
  refine {B,?_}
  by_cases l:i<f.length
  ·refine .inr {{f,_,bX.of (u _ _ I),e7 l},?_}
   rintro y a0 ⟨rfl,hy⟩
   let ey:=hy f (bX.of (u _ _ I))
   let (q,hq,b',rfl,Y):=aM x2 ey
   let x:∀b:Bool,b=(decide (q.1<=v) && decide (J<=q.2))->((e.take i).map λq=>decide (q.1<=v) && decide (J<=q.2)).map V.bl++[V.bl b]=((e.take (i+1)).map λq=>decide (q.1<=v) && decide (J<=q.2)).map V.bl:=λb hb=>by
    rw [A5,hq,hb]
    simp
   refine {b',_,ρ,bX.of (u _ _ Y),ρ,_,_,ρ,_,_,ρ,ρ,ρ,?_}
   refine gB ?_
   refine dE ?_
   refine {_,ρ,_,ρ,_,_,ρ,ρ,_,ρ,?_}
   refine fT (λM=>?_) (λM=>?_)
   ·let r:q.1<=v:=by simpa using M
    refine {_,ρ,_,ρ,_,_,ρ,ρ,B,by rw [g7,g7,u6];omega,_,?_,ρ,l,x _ (by rw [decide_eq_true r];rfl),λb o z=>?_,aB}
    ·omega
    ·rw [aC (aD z a)]
     exact u _ _ z
   ·let r:¬ q.1<=v:=by simpa using M
    refine {B,by rw [g7,g7,u6];omega,_,?_,ρ,l,x _ (by rw [decide_eq_false r];rfl),λb o z=>?_,aB}
    ·omega
    ·rw [aC (aD z a)]
     exact u _ _ z
  ·refine .inl {{f,bX.of (u _ _ I),∎},?_}
   let ei:e.take i=e:=v6 ∎
   rw [ei] at B
   refine {C,_,ρ,cQ.of B,?_}
   rw [any_map (β:=Int)]
   exact t _ u
def yM (ns:List Int):Lm.Ps:=ns.map λn=>(n,n+1)
def Qb {ns:List Int} {x:Int}:Lm.mem (yM ns) x↔x ∈ ns:=by
 constructor
 ·rintro⟨p,e,b,d⟩;let (n,g,rfl):=v8.mp e;have:x=n:=by
   let a:n<=x:=b;let f:x<n+1:=d;omega
  rw [this];exact g
 ·intro h;exact {(x,x+1),v8.mpr {(x),h,ρ},j8 _,by show x<x+1;omega}
theorem Du:∀{ns:List Int},ns.Nodup->ns.Pairwise (·<=·)->Lm.Wk (yM ns)
 | [],_,_=>trivial
 | n::ns,nd,pw=>by
  let (g,e):=u7.mp pw
  let (b,f):=A0.mp nd
  refine {by show n<n+1;omega,λq d=>?_,Du f e}
  let (k,a,rfl):=v8.mp d
  have h:=g k a
  have i:n≠k:=λz=>b (by rw [z];exact a)
  show n+1<=k
  omega
def JX:(["place"]:List Str).Nodup:=⋯
def Bb (C:Addr):Sp:=λvs H Q _=>∃(p pw d:Addr) (ws:Lm.Ps) (kvs:List (bJ × V)) (ns:List Int),vs=[.ref p]/\cT C H p pw d ws kvs/\Lm.Sh ws/\ws.length<=64/\kvs.map (·.1)=ns.map Sum.inl/\ns.Nodup/\ns.length<128/\Ya H Q (ws.length+ns.length) λx=>Lm.mem ws x/\¬ x ∈ ns
def CF:aL ["self"] ["self"] (aG Mr):=2#0
def Fm (W:3#0):eA P w K mg base dI N.CS "laid_work" 6 (BM N.CS):=W.d41.of λF=>by
 refine F.ok CF 11#0 (λa4 A a0 s H vs Q E hr h=>?_)
 ·let (p,pw,d,ws,C,M,rfl,_):=h
  rfl
 ·intro X D
  let (p,pw,d,ws,C,M,rfl,S,hk,nd,a3,t):=h
  refine {_,(aH (aW (aU (Zy W) hr aN (aA (bS dP 33#0 W.G.tuple jE (aA (eK (NB:=["place"]) (n:=1) (js:=[]) (g:=dF 0) (cl:=[]) rfl ⋯ ⋯ rfl (pL.all 39#0).2.2.2.1
    (fA (bD (tO rfl) 33#0 W.G.sorted kF (aA 22#0 aF))) (λ_ s H fp pn=>aP (i:=0) JX rfl 29#0 (.inr rfl)) (λ_ s H fp pn=>eZ)
    (λ_ s H fp pn=>bY (aA (pv 0) (aA (bU eI (pv 0) aS) aF)))) aF)) aF)))),?_}
  let sl:sizeLine=16777216:=sizeLine_eq
  let ((dx,h1),hw,hd):=id S
  refine {_,ρ,p,N.CS,dx,_,_,ρ,h1,W.S.cl,W.S.nR,jZ _ _,d,C,M,ρ,hd,hk,∎,λl a hl T U=>?_}
  let s0:aJ H (upd H l (.lst (a.map V.int))):=aI hl
  let u:(upd H l (.lst (a.map V.int))) l=some (.lst (a.map V.int)):=aB
  generalize upd H l (.lst (a.map V.int))=H1 at s0 u ⊢
  let ln:a.length=M.length:=T.length_eq
  let lm:(a.map V.int).length=a.length:=g7 ..
  refine {l,ρ,{_,cQ.of u},λf e=>?_}
  let a1:l≠f:=aD u e
  refine {λi m k L=>m=a.length-i/\i<=a.length/\cU L k (yM (a.take i))/\aJ H1 L/\L f=some (.lst k),{_,ρ,i9 _,.nil,aI e,aB},?_}
  rintro i m k L ⟨rfl,hi,O,B,I⟩
  refine {I,?_}
  let ly:k.length=i:=by
   have:=O.length;unfold yM at this;rw [g7,u6] at this;omega
  by_cases j:i<a.length
  ·refine .inr {{_,_,cQ.of (B _ _ u),e7 ∎},?_};rintro y a2 ⟨rfl,hy⟩;let ey:=hy _ (cQ.of (B _ _ u));let ez:y=V.int a[i]:=by
    rw [j1,e7 j] at ey;exact(Option.some.inj ey).symm
   subst ez;refine {ρ,?_};refine gB ?_;refine dE ?_;refine {_,ρ,_,ρ,_,_,ρ,ρ,by show 2<=sizeLine;decide,λt' Y=>?_};let nt:f≠t':=aD I Y;refine {by rw [aC nt];exact I,∎,_,?_,ρ,j,?_,λb o z=>?_,aB}
   ·omega
   ·unfold yM;rw [A5,e7 j,u5];exact dB (aO (λv q ⟨b,z1,z2⟩=>{b,z1,by rw [aC (aK z2 I 1#0),aC (aD z2 Y)];exact z2}) O) {t',ρ,by rw [aC nt.symm];exact aB}
   ·rw [aC (aD z e),aC (aD (B _ _ z) Y)];exact B _ _ z
  ·refine .inl {{_,cQ.of (B _ _ u),∎},?_};let ei:a.take i=a:=v6 ∎;rw [ei] at O;refine {f,_,ρ,.inl {cQ.of I,λr J=>?_}};let lo:(yM a).length=M.length:=by unfold yM;rw [g7];exact ln
   let sA:aJ H (upd L r (.tup k)):=s0.trans (B.trans (aI J));refine {r,yM a,ρ,{k,aB,O.same (aI J)},Du (T.nodup_iff.mpr nd) U,∎,λr2 d2 H2 s2 Z sd md ld=>?_};exact t r2 d2 H2 (sA.trans s2) Z sd (λx=>(md x).trans (Qb.trans T.mem_iff)) ∎
def CA:aL ["self"] ["self"] (aG Mq):=2#0
def Wi (W:3#0):eA P w K mg base dI N.CS "left_work" 7 (Bb N.CS):=W.d39.of λF=>by
 refine F.ok CA (λL H Q E h=>?_) (λY A k s H L Q E o h=>?_)
 ·let (p,j,d,b,a,m,rfl,_):=h
  rfl
 ·intro X D
  let (p,j,d,b,a,m,rfl,S,I,lw,U,G,f,t):=h
  refine {_,(aH (aW (aU (Wr W) o aN (aA 22#0 (aA (bG (pv 0) W.S.cl (Fm W) o aN) aF))))),?_}
  let ((n,u),z,hd):=id S
  refine {_,ρ,p,N.CS,n,_,_,ρ,u,W.S.cl,W.S.nW,uZ _ _,_,ρ,p,n,_,ρ,u,gW _ _ ⋯ ⋯,p,j,d,b,a,m,ρ,S,U,G,f,λr y Z q g T C ld=>?_}
  refine {j,r,b,y,ρ,z.same q,g,I.wk,T.wk,∎,∎,λv J M B i l e O=>?_}
  exact t v J M (q.trans B) i l (λx=>(e x).trans (and_congr Iff.rfl (not_congr (C x)))) ∎
def row (vf:Int->Int) (l:Int) (n:Nat):List V:=((List.range n).map λ(i:Nat)=>vf (l+(i:Int))).map V.int
def Vh (vf:Int->Int) (l:Int) (n:Nat):(row vf l n).length=n:=by
 unfold row;rw [g7,g7,A4]
def Nq (vf:Int->Int) (l:Int) (n:Nat):row vf l (n+1)=row vf l n++[V.int (vf (l+(n:Int)))]:=by
 unfold row;rw [List.range_succ,u5,u5];rfl
theorem AI:∀(n:Nat) (l:Int) (ns:List Int),(∀i:Nat,i<n->l+(i:Int) ∈ ns)->n<=ns.length
 | 0,_,_,_=>i9 _
 | n+1,l,ns,h=>by
  have a:=h n ∎
  have b:=AI n l (ns.erase (l+(n:Int))) λi d=>(List.mem_erase_of_ne ∎).mpr (h i ∎)
  rw [List.length_erase_of_mem a] at b
  have:=List.length_pos_of_mem a
  omega
def Dp (vf:Int->Int) (H:Hp) (v:V) (q:Int × Int):Prop:=∃b c,v=.ref b/\H b=some (.tup [.int q.1,.ref c])/\H c=some (.tup (row vf q.1 (q.2-q.1).toNat))
structure Holds (vf:Int->Int) (kvs:List (bJ × V)) (ns:List Int):Prop where
 key:kvs.map (·.1)=ns.map Sum.inl
 nd:ns.Nodup
 len:ns.length<128
 val:∀x ∈ ns,cW kvs (Sum.inl x:bJ)=some (.int (vf x))
 lo:∀x ∈ ns,-(2 ^ 61)<=x/\x<2 ^ 61
inductive Dm (vf:Int->Int) (C:Addr) (vs:List V) (H:Hp) (Q:VK) (E0_:XK):Prop|mk (p pw d:Addr) (ws:Lm.Ps) (kvs:List (bJ × V)) (l h:Int) (_:vs=[.ref p,.int l,.int h]) (_:cT C H p pw d ws kvs) (_:(∀x,l<=x->x<h->cW kvs (Sum.inl x:bJ)=some (.int (vf x)))) (_:-(2 ^ 62)<=l) (_:l<h) (_:h<2 ^ 62) (_:h-l<=1000) (_:∀r H',aJ H H'->H' r=some (.tup (row vf l (h-l).toNat))->Q (.ref r) H')
def Hq (vf:Int->Int) (C:Addr):Sp:=Dm vf C
def Lk (vf:Int->Int) (C:Addr):Sp:=λvs H Q _=>∃(p pw d:Addr) (ws:Lm.Ps) (kvs:List (bJ × V)) (ns:List Int),vs=[.ref p]/\cT C H p pw d ws kvs/\Holds vf kvs ns /\
 ∀(r:Addr) (ds:Lm.Ps) (xs:List V) (H':Hp),aJ H H'->H r=none->H' r=some (.lst xs)->Paired (Dp vf H') xs ds->Lm.Sh ds->(∀x,Lm.mem ds x↔x ∈ ns)->ds.length<=ns.length->Q (.ref r) H'
def Hu:aL ["self","low","high"] ["self","low","high"] (aG uG):=2#0
def LF:(["place","self"]:List Str).Nodup:=⋯
def Cf (vf:Int->Int) (W:3#0):eA P w K mg base dI N.CS "numbers_between" 1 (Hq vf N.CS):=W.d42.of λF=>by
 refine F.ok Hu 11#0 (λa1 A L s H vs Q E hr h=>?_)
 ·let (p,pw,d,U,I,l,h,rfl,_):=h
  rfl
 ·intro X D
  let (p,pw,d,U,I,a,f,rfl,S,Z,b1,b2,b3,b4,t):=h
  let hu:=jK hr
  refine {_,(aH (aW (bS dP 33#0 W.G.tuple jE (aA (eK (NB:=["place","self"]) (n:=1) (js:=[0]) (g:=dF 0) (te:=Zh (Ud K (iU 1) "results") (iU 0)) (cl:=[("self",s.heap.objs.size+1)]) rfl ⋯ ⋯ rfl
    (gO.of rfl (all_cons rfl cI) (all_cons 20#0 (all_cons 20#0 (all_cons (λ_=>rfl) cI))) rfl
     (λk j h=>match k,j,h with|0,_,rfl=>rfl|k+1,_,h=>absurd h 9#0) (all_cons {.inl rfl,.inl rfl,ρ} cI))
    (oD rfl W.G.range (aA (pv 1) (aA (pv 2) aF))) (λ_ s H T O=>aP (i:=0) LF rfl 29#0 (.inr rfl)) (λ_ s H T O=>eZ)
    (λ_ s H T O=>mS (by exact hu) (cM (pv 1) rfl) (pv 0) 19#0)) aF)))),?_}
  let sl:sizeLine=16777216:=sizeLine_eq
  let ((Y,h1),hw,hd):=id S
  refine {_,ρ,_,ρ,a,f,ρ,{b1,∎,∎,b3},λu e=>?_}
  refine {λi m B M=>m=(f-a).toNat-i/\i<=(f-a).toNat/\B=row vf a i/\aJ H M/\M u=some (.lst B),{_,ρ,i9 _,ρ,aI e,aB},?_}
  rintro i m B M ⟨rfl,a0,rfl,x,v⟩
  refine {v,?_}
  by_cases q:i<(f-a).toNat
  ·refine .inr {q,?_}
   rintro y C ⟨rfl,rfl⟩
   refine nF ?_
   refine {ρ,?_}
   refine gB ?_
   refine dE ?_
   let ev:=Z (a+i) ∎ ∎
   let dg:fD C d (.int (a+i)) (some (.int (vf (a+i)))):=by
    have:=fD.k (k:=(Sum.inl (a+i):bJ)) (x _ _ hd);rw [ev] at this;exact this
   refine {_,ρ,p,N.CS,Y,_,_,ρ,x _ _ h1,W.S.cl,W.S.nR,jZ _ _,_,ρ,d,_,ρ,dg,v,by rw [Vh];omega,_,?_,ρ,q,?_,λb o z=>?_,aB}
   ·omega
   ·rw [Nq]
   ·rw [aC (aD z e)];exact x _ _ z
  ·refine .inl {by show (f-a).toNat<=i;omega,?_};let ei:i=(f-a).toNat:=∎;rw [ei] at v;refine {u,_,ρ,.inl {cQ.of v,λr J=>?_}};exact t r _ (x.trans (aI J)) aB
def HX:aL ["self"] ["self"] (aG Zn):=2#0
def IH:(["low","high","self"]:List Str).Nodup:=⋯
def DQ (vf:Int->Int) (W:3#0):eA P w K mg base dI N.CS "all_results" 7 (Lk vf N.CS):=W.d38.of λF=>by
 refine F.ok HX 11#0 (λa7 A a3 s H vs Q E hr h=>?_)
 ·let (p,pw,d,ws,J,ns,rfl,_):=h
  rfl
 ·intro X D
  let (p,pw,d,ws,J,ns,rfl,S,O,t):=h
  let a2:Room 1 _:=hr.mono 8#0
  refine {_,(aH (aW (eK (NB:=["low","high","self"]) (n:=2) (js:=[0]) (g:=Xh K 2 (sG (dF 0) (sG (dF 1) Xi))) (cl:=[("self",s.heap.objs.size+1)]) rfl ⋯ ⋯ rfl
    (gO.of rfl (all_cons rfl cI) (all_cons 20#0 (all_cons 20#0 (all_cons 20#0 (all_cons (λ_=>rfl) cI)))) rfl
     (λk j h=>match k,j,h with|0,_,rfl=>rfl|k+1,_,h=>absurd h 9#0) (all_cons {.inl rfl,.inl rfl,ρ} cI))
    (lQ (bG (pv 0) W.S.cl (Fm W) hr aN)) (λ_ s H fp pn=>fH (n:=2) rfl (aY (aP (i:=0) IH rfl 29#0 (.inr rfl)) (aY (aP (i:=1) IH rfl 29#0 (.inr rfl)) dR))) (λ_ s H fp pn=>eZ)
    (λ_ s H fp pn=>bY (aA (pv 0) (aA (bK (pv 2) W.S.cl (Cf vf W) a2 aN (aA (pv 0) (aA (pv 1) aF))) aF)))))),?_}
  let sl:sizeLine=16777216:=sizeLine_eq
  let ((dx,h1),hw,hd):=id S
  refine {_,ρ,p,dx,_,ρ,h1,gW _ _ ⋯ ⋯,p,pw,d,ws,J,ns,ρ,S,O.key,O.nd,O.len,λr T H1 s1 a1 sd md ld=>?_}
  let (I,x1,x2):=id a1
  let a5:=O.len
  let lx:I.length=T.length:=x2.length
  refine {r,ρ,{_,bX.of x1},λa f=>?_}
  let M:H a=none:=s1.free f
  refine {λi m G H'=>m=I.length-i/\i<=I.length/\Paired (Dp vf H') G (T.take i)/\aJ H1 H'/\H' a=some (.lst G),{_,ρ,i9 _,.nil,aI f,aB},?_}
  rintro i m G H' ⟨rfl,hi,hP,C,hA⟩
  refine {hA,?_}
  let ly:G.length=i:=by
   have:=hP.length;rw [u6] at this;omega
  by_cases a0:i<I.length
  ·refine .inr {{I,_,bX.of (C _ _ x1),e7 a0},?_};rintro y a6 ⟨rfl,hy⟩;let ey:=hy I (bX.of (C _ _ x1));let (q,hq,b',rfl,a4):=aM x2 ey;let Y:q ∈ T:=i5 hq;let U:q.1<q.2:=sd.lt q Y;let u:∀x,q.1<=x->x<q.2->x ∈ ns:=λx Z z2=>(md x).mp {(q),Y,Z,z2};let cv:=AI (q.2-q.1).toNat q.1 ns λi hi=>u _ ∎ ∎;let q1:=O.lo _ (u q.1 ∎ U);let q2:=O.lo _ (u (q.2-1) ∎ ∎);refine {b',_,ρ,bX.of (C _ _ a4),ρ,_,_,ρ,_,_,ρ,ρ,ρ,?_};refine gB ?_;refine dE ?_;let S':=S.same (s1.trans C);refine {_,ρ,_,ρ,p,dx,_,ρ,C _ _ (s1 _ _ h1),gW _ _ ⋯ ⋯,_,ρ,_,ρ,p,pw,d,ws,J,q.1,q.2,ρ,S',λx Z z2=>O.val x (u x Z z2),∎,U,∎,∎,λc H2 s2 hc=>?_};refine {by show 2<=sizeLine;decide,λt' ht=>?_};let B:H2 a=some (.lst G):=s2 _ _ hA;let nt:a≠t':=aD B ht;let nc:c≠a:=aK hc B 1#0;let st:aJ H2 (upd H2 t' (.tup [.int q.1,.ref c])):=aI ht;let l:∀b L,H2 b=some (.tup L)->(upd (upd H2 t' (.tup [.int q.1,.ref c])) a (.lst (G++[.ref t']))) b=some (.tup L):=λb L e=>by
    rw [aC (aK e B 1#0)];exact st _ _ e
   refine {by rw [aC nt];exact B,∎,_,?_,ρ,a0,?_,λb o z=>?_,aB}
   ·omega
   ·rw [A5,hq];exact dB (aO (λv q ⟨b,c,Z,z2,z3⟩=>{b,c,Z,l _ _ (s2 _ _ z2),l _ _ (s2 _ _ z3)}) hP) {t',c,ρ,by rw [aC nt.symm];exact aB,l _ _ hc}
   ·rw [aC (aD z f),aC (aD (s2 _ _ (C _ _ z)) ht)];exact s2 _ _ (C _ _ z)
  ·refine .inl {{I,bX.of (C _ _ x1),∎},?_};let ei:T.take i=T:=v6 ∎;rw [ei] at hP;exact t a T G H' (s1.trans C) M hA hP sd md ld
end
end
end Ls
namespace L2
open PySem PySem.Spec PyProof.Rows
end L2
namespace Ls
open PySem L2 PySem.W
section
variable {H H':Hp} {ps:List Addr} {cs:List Pc} {C f d p b sh:Addr} {a sp nn nt mo e:Int}
def kE (l:Int) (ns:List Int) (i:Nat):List (bJ × V):=(List.range i).map λ(k:Nat)=>((Sum.inl (l+(k:Int)):bJ),V.int (ns.getD k 0))
def Rk (l:Int) (ns:List Int) (i:Nat):(kE l ns i).length=i:=by
 unfold kE;rw [g7,A4]
def vA (l:Int) (ns:List Int) (i:Nat):kE l ns (i+1)=kE l ns i++[(Sum.inl (l+(i:Int)),V.int (ns.getD i 0))]:=by
 unfold kE;rw [List.range_succ,u5];rfl
def iC {kvs:List (bJ × V)} {k:bJ}:cW kvs k=none↔∀e ∈ kvs,e.1≠k:=by
 unfold cW;rw [Option.map_eq_none_iff,List.find?_eq_none];constructor
 ·intro h e a z;exact h e a (by rw [z];simp)
 ·intro h e a z;exact h e a (of_decide_eq_true z)
def zQ {kvs:List (bJ × V)} {l:Int} {ns:List Int} {i:Nat} (h:cW kvs (Sum.inl (l+(i:Int)):bJ)=none):cW (kvs++kE l ns i) (Sum.inl (l+(i:Int)):bJ)=none:=by
 rw [iC] at h ⊢;intro e a;rcases j6.mp a with z|z
 ·exact h e z
 ·let (k,b,rfl):=v8.mp z;intro z;have:=Sum.inl.inj z;have:=E1.mp b;omega
inductive FE (C CT:Addr) (vs:List V) (H:Hp) (Q:VK) (E:XK):Prop|mk (p pw d t:Addr) (ws:Lm.Ps) (kvs:List (bJ × V)) (l:Int) (ns:List Int) (_:vs=[.ref p,.int l,.ref t]) (_:cT C H p pw d ws kvs) (_:H t=some (.tup 32#0)) (_:ws.length<=1000) (_:ns.length<=1000) (_:kvs.length<=1000) (_:-(2 ^ 61)<=l) (_:l+ns.length<=2 ^ 61) (_:(∃q ∈ ws,q.1<=l/\l+ns.length<=q.2)) (_:((∀i:Nat,i<ns.length->cW kvs (Sum.inl (l+(i:Int)):bJ)=none)->∀H',H' d=some (.dK (kvs++kE l ns ns.length))->(∀b o,H b=some o->b≠d->H' b=some o)->Q .non H')) (_:((∃i:Nat,i<ns.length/\cW kvs (Sum.inl (l+(i:Int)):bJ)≠none)->∀H',aJ H H'->E (.ref CT) none H'))
def HN (C CT:Addr):Sp:=FE C CT
def Gm {d:Int} (a:-(2 ^ 61)<=d) (h2:d<=2 ^ 61):Builtin.SmallTypes.fitsIndex d=true:=by
 unfold Builtin.SmallTypes.fitsIndex;rw [A8];exact {decide_eq_true ∎,decide_eq_true ∎}
section
variable {P:Program} {w:World} {K:Frag} {mg:Str->Option Value} {base:Heap} {N:Cn} {c:Nat->Addr}
def Em:aL ["self","place","numbers","at","number"] ["self","place","numbers"] (aG Eu):=2#0
def DN (W:3#0):eA P w K mg base 50#0 N.CS "lay" 3 (HN N.CS (c 9)):=W.d36.of λ{f _} F=>by
 refine F.okE Em 11#0 (λad A M s H vs Q E hr h=>?_)
 ·let (p,pw,d,t,ws,r,l,m,rfl,_):=h
  rfl
 ·intro X D
  let (p,pw,d,t,ws,r,l,m,rfl,S,Z,lw,ln,lk,b1,b2,(q,hq,q1,q2),aa,no):=h
  let hu:=jK hr
  let a5:Room 1 _:=hr.mono 8#0
  let sl:sizeLine=16777216:=sizeLine_eq
  let lm:(m.map V.int).length=m.length:=g7 ..
  let k:∀H2,aJ H H2->Wp (hX 50#0 P w K mg base ["self","place","numbers","at","number"] "Sheet.lay" (aG Eu) f ad A M s H E) ((bQ Eu).drop 2) {λ_ H'=>Q .non H',Q,λ_ _=>False,λ_ _=>False} [some 49#0,some (.int l),some (.ref t),none,none] H2:=λH2 a2=>by
   let gt:=a2 _ _ Z
   refine {_,aE (eG P7 rfl (oD rfl W.G.range (aA (pv 1) (aA (bU eI (pv 1) (bD cC 33#0 W.G.len PySem.boot_len (aA (pv 2) aF))) aF))) (aP (i:=3) Em.nd rfl 29#0) aQ) aQ,?_}
   refine {_,ρ,_,ρ,_,ρ,t,_,ρ,.inr (bX.of gt),_,_,ρ,ρ,l,_,ρ,{ ∎,∎,by rw [lm];omega,by rw [lm];omega},kY (lo:=l) (n:=(l+(((m.map V.int).length:Nat):Int)-l).toNat)
    (λi σ H3=>aJ H H3/\(∃v,σ=[some 49#0,some (.int l),some (.ref t),v,none])/\∀j:Nat,j<i->cW r (Sum.inl (l+(j:Int)):bJ)=none) {a2,{_,ρ},λj hj=>absurd hj (L1 _)} ?_ ?_}
   ·rintro i σ H3 hi ⟨U,⟨v,rfl⟩,g⟩
    rw [lm] at hi
    let ((a1,g1),gw,gd):=S.same U
    refine {_,aH (bP (Br (DI hu (pv 3) 22#0)) (aH (dS rfl W.T.ex rfl W.T.mT cV (aA bE aF))) aZ),?_}
    refine {_,ρ,_,ρ,p,N.CS,a1,_,_,ρ,g1,W.S.cl,W.S.nR,jZ _ _,d,_,ρ,fD.k (k:=Sum.inl (l+(i:Int))) gd,_,ρ,?_}
    cases e:cW r (Sum.inl (l+(i:Int)):bJ) with
    | some v=>
     refine dE ?_
     exact {by show 1<=sizeLine;decide,no {i,∎,by rw [e];simp} _ U}
    | none=>
     refine cS ?_
     refine {U,{_,ρ},λj hj=>?_}
     by_cases a6:j<i
     ·exact g j a6
     ·have:j=i:=∎
      rw [this]
      exact e
   ·rintro σ H3 ⟨U,⟨v,rfl⟩,g⟩
    rw [lm] at g
    let y:∀j:Nat,j<m.length->cW r (Sum.inl (l+(j:Int)):bJ)=none:=λj hj=>g j ∎
    let ((a1,g1),gw,gd):=S.same U
    let a0:=S.dc
    let (a8,J):=S.ob
    let ac:t≠d:=aK Z a0 1#0
    let a4:p≠d:=aK J a0 1#0
    refine {_,aH (eG P7 rfl (Fj 33#0 W.G.enum vB (aA (pv 2) aF) (pP (pv 1) wH)) (fH (n:=2) rfl (aY (aP (i:=3) Em.nd rfl 29#0) (aY (aP (i:=4) Em.nd rfl 29#0) dR))) aQ),?_}
    refine {_,ρ,_,ρ,t,l,ρ,ρ,Gm b1 ∎,{_,bX.of (U _ _ Z)},zG (K:=K) (a:=t) (d:=l) (xs:=m.map V.int)
     (λi σ Y=>(∃u v,σ=[some 49#0,some (.int l),some (.ref t),u,v])/\Y d=some (.dK (r++kE l m i))/\∀b o,H b=some o->b≠d->Y b=some o)
     {{_,_,ρ},by rw [gd];simp [kE],λb o e hb=>U _ _ e} (λi σ Y _ ⟨_,_,I⟩=>bX.of (I _ _ Z ac)) ?_ ?_}
    ·rintro i x σ Y t' hi ⟨⟨u,v',rfl⟩,B,I⟩ O
     let L:i<m.length:=by
      have:=(e8.mp hi).1;omega
     let ex:x=V.int (m.getD i 0):=by
      rw [j1,e7 L] at hi;rw [<- Option.some.inj hi,A9,e7 L];rfl
     subst ex;let a9:d≠t':=aD B O;let a7:p≠t':=aD (I _ _ J a4) O;refine {t',_,ρ,bX.of aB,ρ,_,_,ρ,_,_,ρ,ρ,?_};refine {_,aH (mO hu 22#0 (pv 3) (pv 4) rfl),?_};refine {_,ρ,_,ρ,p,N.CS,a8,_,_,ρ,(by rw [aC a7];exact I _ _ J a4),W.S.cl,W.S.nR,jZ _ _,_,ρ,d,_,ρ,tQ.k (k:=Sum.inl (l+(i:Int))) (by rw [aC a9];exact B) (by rw [j5,Rk];omega),?_};refine {{_,_,ρ},?_,λb o e hb=>?_}
     ·rw [aB,yD _ (zQ (y i L)),w5,<- vA]
     ·rw [aC hb,aC (aD (I b o e hb) O)];exact I b o e hb
    ·rintro σ Y ⟨_,B,I⟩;rw [lm] at B;exact aa y Y B I
  refine Wp.ex {_,aE (bP (PW.pt (fF (cL (cK (aU (dN W) a5 aN (aA (pv 1) aF)))) (eF (cL (cK (aU (rO W) hr aN (aA (pv 2) aF))))))) (aH rF) aZ) aQ,?_};refine {_,ρ,_,ρ,.kn (.int _),_,ρ,cS ?_};refine {_,ρ,t,m,ρ,Z,ln,λH1 s1=>{_,ρ,cS ?_}};let S1:=S.same s1;let ((dx,h1),hw,hd):=id S1;let a3:H1 t=some (.tup (m.map V.int)):=s1 _ _ Z;refine {_,aE (bP (PW.pt (fW (jU (pv 2) (λ_=>rfl)) (eY (cL (cK (bK (pv 0) W.S.cl (Pk W) a5 aN (aA (pv 1) (aA (bU eI (pv 1) (bD cC 33#0 W.G.len PySem.boot_len (aA (pv 2) aF))) aF)))))))) (aH rF) aZ) aQ,?_};refine {_,ρ,!(m.map V.int).isEmpty,.inr (.inl {_,bX.of a3,ρ}),?_};let C:(ws.any λq=>decide (q.1<=l) && decide (l+(((m.map V.int).length:Nat):Int)<=q.2))=true:=List.any_eq_true.mpr {q,hq,by rw [decide_eq_true q1,decide_eq_true (by rw [lm];exact q2)];rfl};refine fT (λhc=>?_) (λhc=>cS (k H1 s1));refine {_,ρ,p,dx,_,ρ,h1,gW _ _ ⋯ ⋯,_,ρ,_,ρ,_,ρ,t,_,ρ,.inr (bX.of a3),_,_,ρ,ρ,p,pw,d,ws,r,l,_,ρ,S1,lw,λH2 s2=>{_,ρ,?_}};rw [C];exact cS (k H2 (s1.trans s2))
inductive FB (C:Addr) (vs:List V) (H:Hp) (Q:VK) (E0_:XK):Prop|mk (p pw d:Addr) (ws:Lm.Ps) (kvs:List (bJ × V)) (x:V) (_:vs=[.ref p,x]) (_:cT C H p pw d ws kvs) (_:nQ H x) (_:(eW x=false->Q .non H)) (_:(∀i,x=.int i->Q ((cW kvs (Sum.inl i:bJ)).getD .non) H))
def HK (C:Addr):Sp:=FB C
def HS:aL ["self","place"] ["self","place"] (aG Zm):=2#0
def DL (W:3#0):eA P w K mg base dI N.CS "result_at" 2 (HK N.CS):=W.d37.of λF=>by
 refine F.ok HS (λt H Q E h=>?_) (λu A e s H t Q E g h=>?_)
 ·let (p,r,d,l,a,x,rfl,_):=h
  rfl
 ·intro X D
  let (p,r,d,l,a,x,rfl,S,j,n,b):=h
  let q:=jK g
  refine {_,aE (bP (cL (cK (aU (dN W) g aN (aA (pv 1) aF)))) (aH (aW eH)) aZ) (aH (aW (Oh q 22#0 (pv 1) (by constructor <;> rfl)))),?_}
  let ((m,o),v,f):=id S
  refine {_,ρ,_,ρ,j,_,ρ,?_}
  cases hx:eW x with
  | false=>exact dE (n hx)
  | true=>
   refine cS ?_
   obtain⟨i,rfl⟩:∃i,x=.int i:=by
    cases x <;> first|exact {_,ρ} | cases hx
   exact {_,ρ,p,N.CS,m,_,_,ρ,o,W.S.cl,W.S.nR,jZ _ _,d,ρ,.inl {a,.inl f},_,ρ,_,fD.k (k:=Sum.inl i) f,b i rfl}
abbrev pf (n l h m:Int) (lv:V):List (Str × V):=[("number",.int n),("low",.int l),("high",.int h),("mark",.int m),("lending",lv)]
def sY (C:Addr) (H:Hp) (p:Addr) (n l h m:Int) (lv:V):Prop:=∃dx,H p=some (.ins C dx (pf n l h m lv))
def jO (H:Hp):V->Option (Int × Str × Int)->Prop
 | .non,none=>True
 | .ref q,some (t,x,u)=>H q=some (.tup [.int t,.str x,.int u])
 | _,_=>False
theorem jO.non {H:Hp} {a:V} {o:Option (Int × Str × Int)} (h:jO H a o):decide (a=.non)=o.isNone:=by
 cases a <;> cases o <;> first|rfl|exact h.elim
def Vu {n l h m:Int} {b:V}:cZ "mark" (.int a) (pf n l h m b)=pf n l h a b:=by
 simp only [cZ];rw [if_neg ⋯,if_neg ⋯,if_neg ⋯,if_pos trivial]
def pR {n l h m:Int} {b a:V}:cZ "lending" a (pf n l h m b)=pf n l h m a:=by
 simp only [cZ];rw [if_neg ⋯,if_neg ⋯,if_neg ⋯,if_neg ⋯,if_pos trivial]
def Fk {n l h h' m:Int} {a:V}:cZ "high" (.int h') (pf n l h m a)=pf n l h' m a:=by
 simp only [cZ];rw [if_neg ⋯,if_neg ⋯,if_pos trivial]
def DF {n l h m:Int} {a:V}:cZ "lending" a (cZ "mark" (.int m) (cZ "high" (.int h) (cZ "low" (.int l) (cZ "number" (.int n) []))))=pf n l h m a:=rfl
inductive Ss (C:Addr) (vs:List V) (H:Hp) (Q:VK) (E0_:XK):Prop|mk (p dx:Addr) (n l h:Int) (_:vs=[.ref p,.int n,.int l,.int h]) (_:H p=some (.ins C dx [])) (_:Q .non (upd H p (.ins C dx (pf n l h l .non))))
def Uk (C:Addr):Sp:=Ss C
inductive Yd (C:Addr) (vs:List V) (H:Hp) (Q:VK) (E0_:XK):Prop|mk (p:Addr) (n l h m:Int) (lv:V) (_:vs=[.ref p]) (_:sY C H p n l h m lv) (_:Q (.int (h-m)) H)
def Lb (C:Addr):Sp:=Yd C
inductive Yr (C:Addr) (vs:List V) (H:Hp) (Q:VK) (E0_:XK):Prop|mk (p:Addr) (n l h m:Int) (lv:V) (_:vs=[.ref p]) (_:sY C H p n l h m lv) (_:Q (.bl (decide (m=h))) H)
def BR (C:Addr):Sp:=Yr C
inductive Yi (C:Addr) (vs:List V) (H:Hp) (Q:VK) (E0_:XK):Prop|mk (p:Addr) (n l h m:Int) (lv:V) (_:vs=[.ref p]) (_:sY C H p n l h m lv) (_:Q (.bl (!decide (lv=.non))) H)
def BK (C:Addr):Sp:=Yi C
inductive Yq (C:Addr) (vs:List V) (H:Hp) (Q:VK) (E0_:XK):Prop|mk (p:Addr) (n l h m:Int) (lv:V) (_:vs=[.ref p]) (_:sY C H p n l h m lv) (_:Q (.bl (decide (lv=.non) && !decide (m=h))) H)
def BQ (C:Addr):Sp:=Yq C
inductive Yj (C:Addr) (vs:List V) (H:Hp) (Q:VK) (E0_:XK):Prop|mk (p:Addr) (n l h m i:Int) (lv:V) (o:Option (Int × Str × Int)) (_:vs=[.ref p,.int i]) (_:sY C H p n l h m lv) (_:jO H lv o) (_:Q (.bl (o.any λt=>decide (t.2.2<i))) H)
def BL (C:Addr):Sp:=Yj C
inductive Yo (C:Addr) (vs:List V) (H:Hp) (Q:VK) (E0_:XK):Prop|mk (p:Addr) (n l h m i:Int) (lv:V) (o:Option (Int × Str × Int)) (_:vs=[.ref p,.int i]) (_:sY C H p n l h m lv) (_:jO H lv o) (_:Q (.bl (o.any λt=>decide (t.1=i))) H)
def BO (C:Addr):Sp:=Yo C
inductive Sn (C:Addr) (vs:List V) (H:Hp) (Q:VK) (E0_:XK):Prop|mk (p:Addr) (n l h m:Int) (lv:V) (_:vs=[.ref p]) (_:sY C H p n l h m lv) (_:∀r,H r=none->Q (.ref r) (upd H r (.tup [.int n,.int l,.int h,.int m,lv])))
def Ui (C:Addr):Sp:=Sn C
def Vb:aL ["self","number","low","high"] ["self","number","low","high"] (aG Mx):=2#0
def Pa (W:3#0):eA P w K mg base dI N.CP "__init__" 1 (Uk N.CP):=W.d26.of λF=>by
 refine F.ok Vb (λf H Q E h=>?_) (λg A b s H f Q E i h=>?_)
 ·let (p,a,n,l,d,rfl,_):=h
  rfl
 ·intro X D
  let (p,a,n,l,d,rfl,e,t):=h
  refine {_,aE (cY (pv 0) (pv 1) rfl) (aE (cY (pv 0) (pv 2) rfl) (aE (cY (pv 0) (pv 3) rfl) (aE (cY (pv 0) (pv 2) rfl) (aH (cY (pv 0) eH rfl))))),?_}
  refine {_,ρ,_,ρ,p,N.CP,a,_,ρ,e,W.P.cl,W.P.nN,(by show 0<1000;decide),?_}
  refine {_,ρ,_,ρ,p,N.CP,a,_,ρ,aB,W.P.cl,W.P.nL,(by show 1<1000;decide),?_}
  refine {_,ρ,_,ρ,p,N.CP,a,_,ρ,aB,W.P.cl,W.P.nH,(by show 2<1000;decide),?_}
  refine {_,ρ,_,ρ,p,N.CP,a,_,ρ,aB,W.P.cl,W.P.nM,(by show 3<1000;decide),?_}
  refine {_,ρ,p,N.CP,a,_,ρ,aB,W.P.cl,W.P.nD,(by show 4<1000;decide),?_}
  rw [eM,eM,eM,eM,DF]
  exact t
def BX:aL ["self"] ["self"] (aG Mu):=2#0
def wJ (W:3#0):eA P w K mg base dI N.CP "rest" 1 (Lb N.CP):=W.d27.of λF=>by
 refine F.ok BX (λf H Q E h=>?_) (λi A a s H f Q E j h=>?_)
 ·let (p,n,l,e,m,g,rfl,_):=h
  rfl
 ·intro X D
  let (p,n,l,e,m,g,rfl,(b,d),t):=h
  refine {_,aH (aW (bU oE 22#0 22#0)),?_}
  exact {_,ρ,p,N.CP,b,_,_,ρ,d,W.P.cl,W.P.nH,ρ,_,ρ,p,N.CP,b,_,_,ρ,d,W.P.cl,W.P.nM,ρ,_,_,ρ,ρ,t}
def CQ:aL ["self"] ["self"] (aG Mz):=2#0
def Fs (W:3#0):eA P w K mg base dI N.CP "is_done" 1 (BR N.CP):=W.d28.of λF=>by
 refine F.ok CQ (λg H Q E h=>?_) (λj A b s H g Q E k h=>?_)
 ·let (p,n,l,a,m,i,rfl,_):=h
  rfl
 ·intro X D
  let (p,n,l,a,m,i,rfl,(d,f),t):=h
  refine {_,aH (aW (dA eT 22#0 22#0 (aX _))),?_}
  refine {_,ρ,p,N.CP,d,_,_,ρ,f,W.P.cl,W.P.nM,ρ,_,ρ,p,N.CP,d,_,_,ρ,f,W.P.cl,W.P.nH,ρ,ρ,?_}
  let e:decide (V.int m=V.int a)=decide (m=a):=by rw [pZ,E3];simp
  rw [e]
  exact t
def BZ:aL ["self"] ["self"] (aG Mv):=2#0
def mZ (W:3#0):eA P w K mg base dI N.CP "is_lent" 1 (BK N.CP):=W.d29.of λF=>by
 refine F.ok BZ (λf H Q E h=>?_) (λi A a s H f Q E j h=>?_)
 ·let (p,n,l,b,m,g,rfl,_):=h
  rfl
 ·intro X D
  let (p,n,l,b,m,g,rfl,(d,e),t):=h
  refine {_,aH (aW (dA mY 22#0 eH (aX _))),?_}
  exact {_,ρ,p,N.CP,d,_,_,ρ,e,W.P.cl,W.P.nD,ρ,ρ,t}
def CK:aL ["self"] ["self"] (aG My):=2#0
def Fq (W:3#0):eA P w K mg base dI N.CP "is_free" 2 (BQ N.CP):=W.d30.of λF=>by
 refine F.ok CK (λk H Q E h=>?_) (λo A i s H k Q E j h=>?_)
 ·let (p,n,l,f,m,a,rfl,_):=h
  rfl
 ·intro X D
  let (p,n,l,f,m,a,rfl,(b,d),t):=h
  refine {_,aH (aW (eR (Bu (bG (pv 0) W.P.cl (mZ W) j aN)) (fX (Bu (bG (pv 0) W.P.cl (Fs W) j aN))))),?_}
  refine {_,ρ,p,b,_,ρ,d,ρ,p,n,l,f,m,a,ρ,{(b),d},_,ρ,_,ρ,?_}
  refine fT (λg=>?_) (λg=>?_)
  ·let e:decide (a=.non)=true:=by simpa using g
   rw [e] at t
   exact {_,ρ,p,b,_,ρ,d,ρ,p,n,l,f,m,a,ρ,{(b),d},_,ρ,t}
  ·let e:decide (a=.non)=false:=by simpa using g
   rw [e] at t
   exact t
def CD:aL ["self","moment"] ["self","moment"] (aG Mw):=2#0
def Wj (W:3#0):eA P w K mg base dI N.CP "is_late" 2 (BL N.CP):=W.d31.of λF=>by
 refine F.ok CD (λy H Q E h=>?_) (λr A e s H y Q E v h=>?_)
 ·let (p,n,l,k,m,i,f,o,rfl,_):=h
  rfl
 ·intro X D
  let (p,n,l,k,m,i,f,o,rfl,(b,d),g,t):=h
  refine {_,aH (aW (eR (bG (pv 0) W.P.cl (mZ W) v aN) (fX (dA Os (pv 1) (bZ bT 22#0 aS 19#0) (aX _))))),?_}
  refine {_,ρ,p,b,_,ρ,d,ρ,p,n,l,k,m,f,ρ,{(b),d},_,ρ,?_}
  rw [g.non]
  cases o with
  | none=>exact cS t
  | some z=>
   let (a,x,u):=z
   refine dE ?_
   cases f with
   | ref q=>exact {_,ρ,_,ρ,p,N.CP,b,_,_,ρ,d,W.P.cl,W.P.nD,ρ,q,_,_,_,ρ,ρ,bX.of g,bH (j:=2) rfl,_,_,ρ,ρ,t}
   | _=>exact g.elim
def CI:aL ["self","token"] ["self","token"] (aG Zo):=2#0
def Wq (W:3#0):eA P w K mg base dI N.CP "has_token" 2 (BO N.CP):=W.d33.of λF=>by
 refine F.ok CI (λB H Q E h=>?_) (λv A f s H B Q E y h=>?_)
 ·let (p,n,l,r,m,i,g,o,rfl,_):=h
  rfl
 ·intro X D
  let (p,n,l,r,m,i,g,o,rfl,(b,d),k,t):=h
  refine {_,aH (aW (eR (bG (pv 0) W.P.cl (mZ W) y aN) (fX (dA eT (bZ bT 22#0 aS 19#0) (pv 1) (aX _))))),?_}
  refine {_,ρ,p,b,_,ρ,d,ρ,p,n,l,r,m,g,ρ,{(b),d},_,ρ,?_}
  rw [k.non]
  cases o with
  | none=>exact cS t
  | some z=>
   let (a,x,u):=z
   refine dE ?_
   cases g with
   | ref q=>
    refine {_,ρ,p,N.CP,b,_,_,ρ,d,W.P.cl,W.P.nD,ρ,q,_,_,_,ρ,ρ,bX.of k,bH (j:=0) rfl,_,ρ,ρ,?_}
    let e:decide (V.int a=V.int i)=decide (a=i):=by rw [pZ,E3];simp
    rw [e]
    exact t
   | _=>exact k.elim
def Uz:aL ["self"] ["self"] (aG Ez):=2#0
def Oy (W:3#0):eA P w K mg base dI N.CP "shown" 1 (Ui N.CP):=W.d34.of λF=>by
 refine F.ok Uz (λf H Q E h=>?_) (λi A d s H f Q E j h=>?_)
 ·let (p,n,l,e,m,g,rfl,_):=h
  rfl
 ·intro X D
  let (p,n,l,e,m,g,rfl,(a,b),t):=h
  refine {_,aH (aW (bY (aA 22#0 (aA 22#0 (aA 22#0 (aA 22#0 (aA 22#0 aF))))))),?_}
  exact {_,ρ,p,N.CP,a,_,_,ρ,b,W.P.cl,W.P.nN,ρ,_,ρ,p,N.CP,a,_,_,ρ,b,W.P.cl,W.P.nL,ρ,_,ρ,p,N.CP,a,_,_,ρ,b,W.P.cl,W.P.nH,ρ,_,ρ,p,N.CP,a,_,_,ρ,b,W.P.cl,W.P.nM,ρ,_,ρ,p,N.CP,a,_,_,ρ,b,W.P.cl,W.P.nD,ρ,by show 5<=sizeLine;decide,t}
def _root_.L2.Room.u1 {k:Nat} {A:Around} (a:Room k A):A.in1.units<cLine:=by have:=a.un;show A.units+1<_;omega
def Rz:bootBuiltins "min"=some (.builtin "min"):=⋯
structure Pc where
 n:Int
 l:Int
 h:Int
 m:Int
 o:Option (Int × Str × Int)
def fU (C:Addr) (H:Hp) (p:Addr) (c:Pc):Prop:=∃lv,sY C H p c.n c.l c.h c.m lv/\jO H lv c.o
def sY.sameT {n l h m:Int} {a:V} (e:eL H H') (x:sY C H p n l h m a):sY C H' p n l h m a:=by
 let (b,q):=x;exact {b,e.at q}
def jO.sameT {a:V} {o:Option (Int × Str × Int)} (e:eL H H') (x:jO H a o):jO H' a o:=by
 cases a <;> cases o <;> first|exact x|exact e.at x
theorem fU.sameT {C:Addr} {H H':Hp} {p:Addr} {c:Pc} (e:eL H H') (x:fU C H p c):fU C H' p c:=by
 let (d,a,b):=x;exact {d,a.sameT e,b.sameT e}
def Pc.k (c:Pc):Int × Int:=(-(c.h-c.m),c.l)
def pH:Pos:=match bQ oB with
 | [.Return (some (.Call _ _ [⟨_,e,_⟩] _)) _]=>e.pos
 | _=>⟨0,0,0,0⟩
abbrev iQ:Str:="greatest.<locals>.<lambda>"
inductive Tb (C T:Addr) (vs:List V) (H:Hp) (Q:VK) (E0_:XK):Prop|mk (l:Addr) (ps:List Addr) (cs:List Pc) (_:vs=[.ref l]) (_:H l=some (.lst (ps.map V.ref))) (_:Paired (fU C H) ps cs) (_:ps≠[]) (_:lY H T pH iQ) (_:∀(i:Nat) (p:Addr) (c:Pc) (H':Hp),dC T H H'->lY H' T pH iQ->ps[i]?=some p->cs[i]?=some c->(∀j c',cs[j]?=some c'->¬ lH c'.k c.k/\(j<i->lH c.k c'.k))->Q 49#0 H')
def Uq (C T:Addr):Sp:=Tb C T
def Bk:aL ["pieces"] ["pieces"] (aG oB):=2#0
def DU:(["piece"]:List Str).Nodup:=⋯
def gT (W:3#0):jP P w K mg base dI "greatest" 4 (Uq N.CP N.T1):=W.d12.of λF hT=>by
 let (_,_,_,GR,bR,mR):=(wJ W).up 1
 refine F.ok Bk 11#0 (λA outer s H vs Q E hr h=>?_)
 ·let (l,ps,cs,rfl,_):=h
  rfl
 ·intro X D
  let (l,ps,cs,rfl,hl,pr,ne,tb,t):=h
  refine {_,aH (aW (Vv rfl hr.u1 33#0 W.G.min Rz (aA (pv 0) aF) (pP (Of (q:=iQ) (clos:=[]) rfl hT W.M rfl rfl rfl trivial) wH))),?_}
  refine {_,ρ,tb,λg c' ctv H1 kt nf tb1 hc1 hf1=>?_}
  let s1:eL H H1:=by
   let (qs,e,_):=tb;exact kt.toT e
  let hl1:=s1.at hl;refine {l,g,ps,λi=>((cs[i]?).map Pc.k).getD (0,0),λH'=>aJ H1 H',ρ,ρ,aJ.refl _,λH' j=>j _ _ hl1,ne,λi p hp=>?_,λi p H' (j:aJ H1 H') hp best=>?_}
  ·let (pc,hpc,lv,hat,hld):=aM pr hp;let (dx,hdx):=hat.sameT s1;let ek:((cs[i]?).map Pc.k).getD (0,0)=pc.k:=by rw [hpc];rfl
   refine Gc (k:=1) (N:=["piece"]) (p:="piece") (J:=λH'=>aJ H1 H') (tb:=AY (iE (ML (rU λi=>.int (-i)) (qW N.CP "rest" (Lb N.CP) [] E0 (iU 0) mG)) (iE (Ud K (iU 0) "low") mG))) (λH' j=>j _ _ hf1) (λH' j=>j _ _ hc1) id hr.in1 ?S ?B ?body ?J
   case S=>exact 2#0
   case B=>exact λu=>rfl
   case body=>exact λs' H' hr'=>bY (aA (Zw Ks (yH (pv 0) W.P.cl mR GR hr' bR .nil aN)) (aA 22#0 aF))
   intro H' (j:aJ H1 H');let hp':=j _ _ hdx;refine {_,ρ,p,dx,_,ρ,hp',ρ,p,_,_,_,_,lv,ρ,{(dx),hp'},_,ρ,_,ρ,p,N.CP,dx,_,_,ρ,hp',W.P.cl,W.P.nL,ρ,by show 2<=sizeLine;decide,λr nr=>{{{r,ρ,?_},λb xs e=>?_},j.trans (aI nr)}}
   ·rw [aB];show some (HO.tup [V.int (-(pc.h-pc.m)),V.int pc.l])=some (HO.tup [V.int (((cs[i]?).map Pc.k).getD (0,0)).1,V.int (((cs[i]?).map Pc.k).getD (0,0)).2]);rw [ek];rfl
   ·exact aI nr _ _ e
  ·let (pc,hpc,_):=aM pr hp;refine t i p pc H' (kt.same j) (tb1.same j) hp hpc λj' c'' hj=>?_;let lj:j'<ps.length:=by
    have:=pr.length;have:=(e8.mp hj).1;omega
   let b:¬ lH (((cs[j']?).map Pc.k).getD (0,0)) (((cs[i]?).map Pc.k).getD (0,0))/\(j'<i->lH (((cs[i]?).map Pc.k).getD (0,0)) (((cs[j']?).map Pc.k).getD (0,0))):=best j' lj;rw [hj,hpc] at b;exact b
abbrev bf (pw sh d:Addr) (sp ev le nn nt mo:Int):List (Str × V):=[("work",.ref pw),("span",.int sp),("every",.int ev),("least",.int le),("sheet",.ref sh),("by_number",.ref d),("next_number",.int nn),("next_token",.int nt),("moment",.int mo)]
def fK (ps:List Addr) (cs:List Pc):List (bJ × V):=(cs.zip ps).map λx=>((Sum.inl x.1.n:bJ),V.ref x.2)
structure jI (CB CP:Addr) (H:Hp) (b pw sh d:Addr) (sp ev le nn nt mo:Int) (ps:List Addr) (cs:List Pc):Prop where
 ob:∃dx,H b=some (.ins CB dx (bf pw sh d sp ev le nn nt mo))
 dc:H d=some (.dK (fK ps cs))
 pc:Paired (fU CP H) ps cs
def cR (e:eL H H') (h:Paired (fU C H) ps cs):Paired (fU C H') ps cs:=aO (λ_ _ x=>x.sameT e) h
def jI.sameT {g:Addr} {pw:Addr} {i:Int} (e:eL H H') (h:jI f g H b pw sh d sp a i nn nt mo ps cs):jI f g H' b pw sh d sp a i nn nt mo ps cs:=by
 let ((j,k),l,m):=h;exact {{j,e.at k},e.at l,cR e m}
def Ro (h:Paired (fU C H) ps cs):(fK ps cs).map (·.2)=ps.map V.ref:=by
 unfold fK;rw [C2];let e:(cs.zip ps).map (·.2)=ps:=F9 (D6 h.length)
 conv=>rhs;rw [<- e]
 rw [C2];rfl
def jB (h:Paired (fU C H) ps cs):(fK ps cs).length=cs.length:=by
 unfold fK;rw [g7,A1,h.length];omega
def lU {i:Nat} {e:bJ × V} (h:(fK ps cs)[i]?=some e):∃c p,cs[i]?=some c/\ps[i]?=some p/\e=(Sum.inl c.n,.ref p):=by
 unfold fK at h;rw [j1] at h;cases hz:(cs.zip ps)[i]? with
 | none=>rw [hz] at h;cases h
 | some x=>
  rw [hz] at h;cases h;let (b,a):=A2.mp hz;exact {_,_,b,a,ρ}
def cH {α β:Type} {F:α->β->Prop} {xs:List α} {a:List β} (p:Paired F xs a) (z:β × α) (b:z ∈ a.zip xs):F z.2 z.1:=by
 induction p with
 | nil=>cases b
 | cons r _ t=>
  cases b with
  | head=>exact r
  | tail _ h=>exact t h
theorem gE {α β:Type} {F:α->β->Prop}:∀{L:List (β × α)},(∀z ∈ L,F z.2 z.1)->Paired F (L.map (·.2)) (L.map (·.1))
 | [],_=>.nil
 | z::L,h=>.cons (h z (i4 ..)) (gE λq a=>h q (g6 _ a))
def JF {f:List V} (h:Paired (fU C H) ps cs) (b:Tk (cs.map Pc.l) (ps.map V.ref) f):∃(a:List Addr) (cs':List Pc),f=a.map V.ref/\cs'.Perm cs/\cs'.Pairwise (λx y=>x.l<=y.l)/\∀d,Paired (fU C d) ps cs->Paired (fU C d) a cs':=by
 let (L,i,rfl,e):=b;let j:(cs.map Pc.l).zip (ps.map V.ref)=(cs.zip ps).map λx=>(x.1.l,V.ref x.2):=by
  rw [List.zip_map];rfl
 rw [j] at i;let (M,g,rfl):=rG _ i;refine {M.map (·.2),M.map (·.1),by rw [C2,C2];rfl,?_,?_,λd k=>gE λz m=>cH k z (g.mem_iff.mp m)}
 ·have:=g.map (·.1);rwa [List.map_fst_zip (D6 h.length.symm)] at this
 ·rw [List.pairwise_map] at e ⊢;exact e
def LD:Expr:=match bQ mL with
 | [.Return (some (.ListComp _ [⟨_,.Call _ _ [⟨_,e,_⟩] _,_,_⟩] _ _)) _]=>e
 | _=>.Constant .none 0 ⟨0,0,0,0⟩
def yL:Pos:=LD.pos
abbrev mX:Str:="Book.pieces.<locals>.<lambda>"
def eB (H:Hp) (v:V) (c:Pc):Prop:=∃t lv,v=.ref t/\H t=some (.tup [.int c.n,.int c.l,.int c.h,.int c.m,lv])/\jO H lv c.o
def jO.move {a:V} {o:Option (Int × Str × Int)} (f:∀q b,H q=some (.tup b)->H' q=some (.tup b)) (x:jO H a o):jO H' a o:=by
 cases a <;> cases o <;> first|exact x|exact f _ _ x
def eB.same {v:V} {c:Pc} (e:aJ H H') (h:eB H v c):eB H' v c:=by
 let (t,b,d,a,f):=h;exact {t,b,d,e _ _ a,f.sameT (aJ.toT e)}
def eL.free (e:eL H H') {a:Addr} (h:H' a=none) (d:∀b,H a≠some (.tbl b)):H a=none:=by
 cases q:H a with
 | none=>rfl
 | some o=>
  rcases e a o q with ⟨b,rfl⟩|z
  ·exact absurd q (d b)
  ·rw [h] at z;cases z
inductive Jt (CB CP T:Addr) (vs:List V) (H:Hp) (Q:VK) (E0_:XK):Prop|mk (b pw sh d:Addr) (sp ev le nn nt mo:Int) (ps:List Addr) (cs:List Pc) (_:vs=[.ref b]) (_:6#0) (_:cs.length<64) (_:lY H T yL mX) (_:∀(r:Addr) (H':Hp) (rs:List V) (cs':List Pc),dC T H H'->H r=none->lY H' T yL mX->H' r=some (.lst rs)->cs'.Perm cs->cs'.Pairwise (λx y=>x.l<=y.l)->Paired (eB H') rs cs'->Q (.ref r) H')
def Ld (CB CP T:Addr):Sp:=Jt CB CP T
def Lz:aL ["self"] ["self"] (aG mL):=2#0
def gF (W:3#0):eA P w K mg base dI N.CB "pieces" 4 (Ld N.CB N.CP N.T2):=W.d50.of λ{f _ c} F hT=>by
 refine F.ok Lz 11#0 (λA outer s H vs Q E hr h=>?_)
 ·let (b,pw,sh,d,sp,ev,le,nn,nt,mo,ps,cs,rfl,_):=h
  rfl
 ·intro X D
  let (b,pw,sh,d,sp,ev,le,nn,nt,mo,ps,cs,rfl,hb,lc,tb,t):=h
  let hr1:Room 1 (A.deeper (PyProof.Rows.envOfC "Book.pieces" (aG mL) s.heap.objs.size f (.ref c))):=hr.mono 8#0
  refine {_,aH (aW (eK (NB:=["piece"]) (n:=1) (js:=[]) (g:=dF 0) (cl:=[]) rfl ⋯ ⋯ rfl (pL.all 39#0).2.2.2.1
   (fA (Oe rfl 33#0 W.G.sorted kF (aA (mQ 22#0) aF) (pP (Of (q:=mX) (clos:=[]) rfl hT W.M rfl rfl rfl trivial) wH)))
   (λ_ s H fp pn=>aP (i:=0) DU rfl 29#0 (.inr rfl)) (λ_ s H fp pn=>eZ) (λ_ s H fp pn=>bG (pv 0) W.P.cl (Oy W) hr1 aN))),?_}
  let sl:sizeLine=16777216:=sizeLine_eq
  let ((dx,hbo),hdc,hpc):=id hb
  refine {_,ρ,b,N.CB,dx,_,_,ρ,hbo,W.B.cl,W.B.nB,ρ,.inr (.inr (.inl {ρ,.inl {_,hdc}})),d,_,ρ,ρ,hdc,λv nv=>?_}
  let s1:aJ H (upd H v (dQ v d)):=aI nv
  let e1:(upd H v (dQ v d)) v=some (dQ v d):=aB
  generalize upd H v (dQ v d)=H1 at s1 e1 ⊢
  let tb1:=tb.same s1
  refine {tb1,λg c' ctv H2 kt nf tb2 hc2 hf2=>?_}
  let s2:eL H1 H2:=by
   let (qs,e,_):=tb1;exact kt.toT e
  let t2:eL H H2:=(aJ.toT s1).trans s2;let nT:∀a,H2 a=none->H a=none:=λa h=>by
   refine eL.free t2 h λqs z=>?_;let (rs,e,_):=tb2;by_cases y:a=N.T2
   ·rw [y,e] at h;cases h
   ·have:=kt _ _ y (s1 _ _ z);rw [h] at this;cases this
  let hp2:=cR t2 hpc;refine {v,d,g,fK ps cs,cs.map Pc.l,λH'=>aJ H2 H',ρ,ρ,s2.at e1,s2.at (s1 _ _ hdc),aJ.refl _,by rw [jB hpc,g7],by rw [jB hpc];exact lc,λi e k he hk=>?_,λl ys H3 (j:aJ H2 H3) nl bk=>?_}
  ·let (pc,p,h1,h2,rfl):=lU he;let (pc',h1',lv,(dp,hat),hld):=aM hp2 h2;rw [h1] at h1';cases h1';rw [j1,h1] at hk;cases hk;refine Gc (k:=0) (N:=["piece"]) (p:="piece") (J:=λH'=>aJ H2 H') (tb:=Ud K (iU 0) "low") (λH' j=>j _ _ hf2) (λH' j=>j _ _ hc2) id (hr.in1).in1 ?S ?B ?body ?J
   case S=>exact 2#0
   case B=>exact λu=>rfl
   case body=>exact λs' H' hr'=>cM (pv 0) rfl
   intro H' (j:aJ H2 H');exact {_,ρ,p,N.CP,dp,_,_,ρ,j _ _ hat,W.P.cl,W.P.nL,ρ,ρ,j}
  ·rw [Ro hpc] at bk;let (ps',cs',rfl,pm,so,mv):=JF hpc bk;let lp:ps'.length=cs'.length:=(mv H hpc).length;let lc':cs'.length=cs.length:=pm.length_eq;refine {l,ρ,{_,cQ.of aB},λacc hacc=>?_};let s4:aJ H3 (upd H3 l (.lst (ps'.map V.ref))):=aI nl;let e4:(upd H3 l (.lst (ps'.map V.ref))) l=some (.lst (ps'.map V.ref)):=aB;generalize upd H3 l (.lst (ps'.map V.ref))=H4 at s4 e4 hacc ⊢;let j4:aJ H2 H4:=j.trans s4;let hp4:=mv H4 (cR (t2.trans (aJ.toT j4)) hpc);refine {λi m zs H'=>m=ps'.length-i/\i<=ps'.length/\aJ H4 H'/\H' acc=some (.lst zs)/\Paired (eB H') zs (cs'.take i),{_,ρ,i9 _,aI hacc,aB,.nil},?_};rintro i m zs H' ⟨rfl,hi,sm,hA,rows⟩;refine {hA,?_};by_cases hlt:i<ps'.length
   ·refine .inr {{_,_,cQ.of (sm _ _ e4),e7 (by rw [g7];exact hlt)},?_};rintro y H'' ⟨rfl,hy⟩;let ey:=hy _ (cQ.of (sm _ _ e4));rw [j1,e7 hlt] at ey;cases ey;let (pc,hpc',lv,(dp,hat),hld):=aM hp4 (e7 hlt);refine {ρ,?_};refine gB ?_;refine dE ?_;refine {_,ρ,_,dp,_,ρ,sm _ _ hat,ρ,_,_,_,_,_,lv,ρ,{dp,sm _ _ hat},λq nq=>?_};let s5:aJ H'' (upd H'' q (.tup [.int pc.n,.int pc.l,.int pc.h,.int pc.m,lv])):=aI nq;let e5:(upd H'' q (.tup [.int pc.n,.int pc.l,.int pc.h,.int pc.m,lv])) q=some (.tup [.int pc.n,.int pc.l,.int pc.h,.int pc.m,lv]):=aB;generalize upd H'' q (.tup [.int pc.n,.int pc.l,.int pc.h,.int pc.m,lv])=H5 at s5 e5 ⊢;let hA5:=s5 _ _ hA;let lz:zs.length=i:=by
     have:=rows.length;rw [u6] at this;omega
    refine {hA5,∎,_,?_,ρ,hlt,?_,aB,?_}
    ·omega
    ·intro b o z;rw [aC (aD z hacc)];exact s5 _ _ (sm _ _ z)
    ·let kp:∀v c,eB H'' v c->eB (upd H5 acc (.lst (zs++[.ref q]))) v c:=λv c ⟨t',lv',h1,h2,h3⟩=>by
      let nt:t'≠acc:=aK (s5 _ _ h2) hA5 1#0;exact {t',lv',h1,by rw [aC nt];exact s5 _ _ h2,h3.move λq' ys h=>by rw [aC (aK (s5 _ _ h) hA5 1#0)];exact s5 _ _ h}
     rw [A5,hpc'];refine dB (aO (λv c=>kp v c) rows) ?_;let nq':q≠acc:=aK e5 hA5 1#0;exact {q,lv,ρ,by rw [aC nq'];exact e5,hld.move λq' ys h=>by rw [aC (aD h hacc)];exact s5 _ _ (sm _ _ h)}
   ·refine .inl {{_,cQ.of (sm _ _ e4),by rw [g7];omega},?_};let ei:cs'.take i=cs':=v6 ∎;rw [ei] at rows;refine t acc H' zs cs' ((dC.pre s1 kt).same (j4.trans sm)) (nT _ (j4.free hacc)) (tb2.same (j4.trans sm)) hA pm so rows
inductive Af (vs:List V) (H:Hp) (Q:VK) (E0_:XK):Prop|mk (a b c:Int) (_:vs=[.int a,.int b,.int c]) (_:1<=a) (_:1<=b) (_:1<=c) (_:b<=c) (_:∀H',aJ H H'->Q .non H')
def Bf:Sp:=Af
def Xv {pw:Addr} {b:Int}:cZ "next_number" (.int a) (bf pw sh d sp b e nn nt mo)=bf pw sh d sp b e a nt mo:=rfl
def Rp {c:Pc} (h:Paired (fU C H) ps cs):fK (ps++[p]) (cs++[c])=fK ps cs++[(Sum.inl c.n,.ref p)]:=by
 unfold fK;rw [List.zip_append h.length.symm,u5];rfl
inductive FD (CB CP:Addr) (vs:List V) (H:Hp) (Q:VK) (E0_:XK):Prop|mk (b pw sh d:Addr) (sp ev le nn nt mo l h:Int) (ps:List Addr) (cs:List Pc) (_:vs=[.ref b,.int l,.int h]) (_:6#0) (_:(∀c ∈ cs,c.n<nn)) (_:cs.length<1000) (_:∀(p:Addr) (H':Hp),(∀a o,H a=some o->a≠b->a≠d->H' a=some o)->H p=none->jI CB CP H' b pw sh d sp ev le (nn+1) nt mo (ps++[p]) (cs++[⟨nn,l,h,l,none⟩])->Q 49#0 H')
def HM (CB CP:Addr):Sp:=FD CB CP
def xP:aL ["span","every","least","bound"] ["span","every","least"] (aG Fc):=2#0
def yU (W:3#0):jP P w K mg base dI "check_bounds" 2 Bf:=W.d9.of λF=>by
 refine F.ok xP (λq H Q E h=>?_) (λB A f s H q Q E o h=>?_)
 ·let (a,b,c,rfl,_):=h
  rfl
 ·intro X D
  let (a,b,c,rfl,k,l,x,I,t):=h
  refine {_,aE (eG z5 rfl (lQ (bY (aA (pv 0) (aA (pv 1) (aA (pv 2) aF))))) (aP (i:=3) xP.nd rfl 29#0)
   (aH (bP (PW.pt (fF (cL (cK (aU (dN W) o aN (aA (pv 3) aF)))) (eF (bB gR (pv 3) aS (aX _))))) cX aZ)))
   (aH (bP (bB gR (pv 2) (pv 1) (aX _)) cX aZ)),?_}
  refine {_,ρ,_,ρ,_,ρ,by show 3<=sizeLine;decide,λr m=>?_}
  have g:aJ H (upd H r (.tup [.int a,.int b,.int c])):=aI m
  have d:(upd H r (.tup [.int a,.int b,.int c])) r=some (.tup [.int a,.int b,.int c]):=aB
  generalize upd H r (.tup [.int a,.int b,.int c])=j at g d ⊢
  have p:∀v ∈ [V.int a,.int b,.int c],∃i,v=.int i/\1<=i:=all_cons {_,ρ,k} (all_cons {_,ρ,l} (all_cons {_,ρ,x} cI))
  refine {r,ρ,{_,bX.of d},nG (K:=K) (a:=r) (xs:=[V.int a,.int b,.int c]) (λi σ G=>G=j/\∃u,σ=[some (.int a),some (.int b),some (.int c),u]) {ρ,_,ρ} (λi σ G _ h=>by rw [h.1];exact bX.of d) ?_ ?_}
  ·rintro i y σ G n ⟨rfl,u,rfl⟩
   let (z,rfl,C):=p y (i5 n)
   refine nF ?_
   refine {_,ρ,_,ρ,.kn (.int z),_,ρ,cS ?_}
   refine {_,ρ,_,_,ρ,ρ,_,ρ,?_}
   exact fT (λe=>absurd e (by simp;omega)) λ_=>{ρ,_,ρ}
  ·rintro σ G ⟨rfl,u,rfl⟩
   refine {_,ρ,_,ρ,_,_,ρ,ρ,_,ρ,?_}
   exact fT (λe=>absurd e (by simp;omega)) λ_=>t _ g
def Zj:aL ["self","low","high","piece"] ["self","low","high"] (aG Nc):=2#0
def Pb (W:3#0):eA P w K mg base dI N.CB "new_piece" 3 (HM N.CB N.CP):=W.d61.of λ{f _} F=>by
 let (_,_,_,GI,bI,MK):=(Pa W).mk' W.iP 1
 refine F.ok Zj 11#0 (λL A S s H vs Q E hr h=>?_)
 ·let (b,pw,sh,d,sp,ev,le,j,nt,mo,l,G,ps,cs,rfl,_):=h
  rfl
 ·intro X D
  let (b,pw,sh,d,sp,ev,le,j,nt,mo,l,G,ps,cs,rfl,hb,lt,ln,t):=h
  let hu:(A.deeper (PyProof.Rows.envOfC "Book.new_piece" (aG Nc) s.heap.objs.size f L)).units+1<cLine:=by have:=hr.un;omega
  refine {_,aE (cG (i:=3) Zj.nd rfl 29#0 (pU MK GI hr rfl W.P.mgC bI .nil aN (aA 22#0 (aA (pv 1) (aA (pv 2) aF)))))
   (aE (mO hu 22#0 (cM (pv 3) rfl) (pv 3) rfl)
   (aE (uK (pv 0) aS Qr) (aH (aW (pv 3))))),?_}
  let sl:sizeLine=16777216:=sizeLine_eq
  let ((C,g),m,v):=id hb
  refine {_,ρ,b,N.CB,C,_,_,ρ,g,W.B.cl,W.B.nN,ρ,_,ρ,_,ρ,λx r I ny ne=>{x,r,j,l,G,ρ,aB,ρ,?_}}
  rw [eM]
  let u:∀a o,H a=some o->(upd (upd H r (.own x)) x (.ins N.CP r (pf j l G l .non))) a=some o:=λa o e=>by
   rw [aC (aD e I),aC (aD e ny)]
   exact e
  let Y:(upd (upd H r (.own x)) x (.ins N.CP r (pf j l G l .non))) x=some (.ins N.CP r (pf j l G l .non)):=aB
  generalize upd (upd H r (.own x)) x (.ins N.CP r (pf j l G l .non))=H2 at u Y ⊢
  refine {_,ρ,_,ρ,b,N.CB,C,_,_,ρ,u _ _ g,W.B.cl,W.B.nB,ρ,_,ρ,x,N.CP,r,_,_,ρ,Y,W.P.cl,W.P.nN,ρ,d,_,ρ,tQ.k (k:=(Sum.inl j:bJ)) (u _ _ m) (by rw [jB v];omega),?_}
  rw [yD _ (iC.mpr λe he=>?_)]
  rotate_left
  ·let (i,hi):=l7.mp he
   let (c,p,h1,_,rfl):=lU hi
   have:=lt c (i5 h1)
   intro z
   let z:(Sum.inl c.n:bJ)=Sum.inl j:=z
   cases z
   omega
  let y:b≠d:=aK g m 1#0
  let U:b≠x:=aD g I
  let O:d≠x:=aD m I
  refine {_,ρ,b,N.CB,C,_,_,ρ,(by rw [aC y];exact u _ _ g),W.B.cl,W.B.nN,ρ,_,_,ρ,ρ,C,_,(by rw [aC y];exact u _ _ g),(by show 9<1000;decide),?_}
  let J:∀a o,H2 a=some o->a≠b->a≠d->(upd (upd H2 d (.dK (fK ps cs++[((Sum.inl j:bJ),V.ref x)]))) b (.ins N.CB C (cZ "next_number" (.int (j+1)) (bf pw sh d sp ev le j nt mo)))) a=some o:=λa o e T Z=>by
   rw [aC T,aC Z]
   exact e
  refine {_,ρ,t x _ (λa o e T Z=>J a o (u a o e) T Z) I {{C,by rw [aB,Xv]},by rw [aC y.symm,aB,Rp v],?_}}
  refine dB (aO (λp c ⟨lv,⟨dp,ha⟩,hl⟩=>?_) v) {.non,{r,J _ _ Y U.symm O.symm},trivial}
  let M:p≠b:=λz=>by
   subst z
   rw [g] at ha
   have:=Option.some.inj ha
   injection this with _ _ e
   exact absurd e (by intro z;cases z)
  exact {lv,{dp,J _ _ (u _ _ ha) M (aK ha m 1#0)},hl.move λq ys h=>J _ _ (u _ _ h) (aK h g 1#0) (aK h m 1#0)}
def pcs:Nat->Lm.Ps->List Pc
 | _,[]=>[]
 | k,q::t=>⟨k,q.1,q.2,q.1,none⟩::pcs (k+1) t
theorem yI:∀(t:Lm.Ps) (k:Nat) (q:Int × Int),pcs k (t++[q])=pcs k t++[{((k+t.length:Nat):Int),q.1,q.2,q.1,none}]
 | [],k,q=>rfl
 | p::t,k,q=>by
  show _::pcs (k+1) (t++[q])=_::(pcs (k+1) t++_)
  rw [yI t (k+1) q]
  let e:k+1+t.length=k+(p::t).length:=by rw [p8];omega
  rw [e]
theorem mU:∀(t:Lm.Ps) (k:Nat),(pcs k t).length=t.length
 | [],_=>rfl
 | p::t,k=>by
  show (pcs (k+1) t).length+1=t.length+1
  rw [mU t]
theorem On:∀(t:Lm.Ps) (k:Nat),∀c ∈ pcs k t,c.n<((k+t.length:Nat):Int)
 | [],_,c,hc=>absurd hc (by simp [pcs])
 | p::t,k,c,hc=>by
  rcases i3.mp hc with rfl|hc
  ·show (k:Int)<_
   rw [p8]
   omega
  ·have:=On t (k+1) c hc
   rw [p8]
   omega
inductive Sy (CB CS CP:Addr) (vs:List V) (H:Hp) (Q:VK) (E0_:XK):Prop|mk (p dx q:Addr) (a:Lm.Ps) (sp ev le:Int) (_:vs=[.ref p,.ref q,.int sp,.int ev,.int le]) (_:H p=some (.ins CB dx [])) (_:cE H q a) (_:Lm.Wk a) (_:a.length<=900) (_:1<=sp) (_:1<=ev) (_:1<=le) (_:ev<=le) (_:∀(sh spw sd d:Addr) (ws:Lm.Ps) (ps:List Addr) (H':Hp),(∀b o,H b=some o->b≠p->H' b=some o)->H d=none->H sd=none->sd≠d->cT CS H' sh spw sd ws []->Lm.Sh ws->(∀x,Lm.mem ws x↔Lm.mem a x)->ws.length<=a.length ->
  (∀r ∈ ps,H r=none)->jI CB CP H' p q sh d sp ev le a.length 0 0 ps (pcs 0 a)->Q .non H')
def Uo (CB CS CP:Addr):Sp:=Sy CB CS CP
abbrev w4 (q:Addr) (sp ev le:Int):List (Str × V):=[("work",.ref q),("span",.int sp),("every",.int ev),("least",.int le)]
def f4 {q:Addr} {b:Int}:cZ "least" (.int b) (cZ "every" (.int a) (cZ "span" (.int sp) (cZ "work" (.ref q) [])))=(w4 q sp a b):=rfl
def f9 {q:Addr} {b:Int}:cZ "moment" (.int 0) (cZ "next_token" (.int 0) (cZ "next_number" (.int 0) (cZ "by_number" (.ref d) (cZ "sheet" (.ref sh) (w4 q sp a b)))))=bf q sh d sp a b 0 0 0:=rfl
def vW:aL ["self","work","span","every","least","low","high"] ["self","work","span","every","least"] (aG rD):=2#0
def Pj (W:3#0):eA P w K mg base dI N.CB "__init__" 8 (Uo N.CB N.CS N.CP):=W.d43.of λ{f _} F=>by
 let (_,_,_,GI,bI,MK):=(Wo W).mk' W.iS 6
 refine F.ok vW 11#0 (λU A ad s H vs Q E hr h=>?_)
 ·let (p,g,q,a,j,l,k,rfl,_):=h
  rfl
 ·intro X D
  let (p,g,q,a,j,l,k,rfl,hp,hw,wa,la,b1,b2,b3,b4,t):=h
  let ae:Room 2 (A.deeper (PyProof.Rows.envOfC "Book.__init__" (aG rD) s.heap.objs.size f U)):=hr.mono 8#0
  let ac:Room 3 (A.deeper (PyProof.Rows.envOfC "Book.__init__" (aG rD) s.heap.objs.size f U)):=hr.mono 8#0
  let ah:Room 4 (A.deeper (PyProof.Rows.envOfC "Book.__init__" (aG rD) s.heap.objs.size f U)):=hr.mono 8#0
  refine {_,aE (dY (aU (yT W) ah aN (aA (pv 1) aF)))
   (aE (dY (aU (yU W) ae aN (aA (pv 2) (aA (pv 3) (aA (pv 4) aF)))))
   (aE (cY (pv 0) (pv 1) rfl) (aE (cY (pv 0) (pv 2) rfl) (aE (cY (pv 0) (pv 3) rfl) (aE (cY (pv 0) (pv 4) rfl)
   (aE (cY (pv 0) (pU MK GI hr rfl W.S.mgC bI .nil aN (aA (pv 1) aF)) rfl)
   (aE (cY (pv 0) rJ rfl) (aE (cY (pv 0) aS rfl) (aE (cY (pv 0) aS rfl) (aE (cY (pv 0) aS rfl)
   (aH (eG z5 rfl (lQ (pv 1)) (fH (n:=2) rfl (aY (aP (i:=5) vW.nd rfl 29#0) (aY (aP (i:=6) vW.nd rfl 29#0) dR)))
    (aH (dY (bK (pv 0) W.B.cl (Pb W) ac aN (aA (pv 5) (aA (pv 6) aF))))))))))))))))),?_}
  let sl:sizeLine=16777216:=sizeLine_eq
  refine {_,ρ,q,a,ρ,hw,wa,∎,?_}
  refine {_,ρ,_,ρ,_,ρ,j,l,k,ρ,b1,b2,b3,b4,λH1 s1=>?_}
  refine {_,ρ,_,ρ,p,N.CB,g,_,ρ,s1 _ _ hp,W.B.cl,W.B.nW,(by show 0<1000;decide),?_}
  refine {_,ρ,_,ρ,p,N.CB,g,_,ρ,aB,W.B.cl,W.B.nS,(by show 1<1000;decide),?_}
  refine {_,ρ,_,ρ,p,N.CB,g,_,ρ,aB,W.B.cl,W.B.nE,(by show 2<1000;decide),?_}
  refine {_,ρ,_,ρ,p,N.CB,g,_,ρ,aB,W.B.cl,W.B.nL,(by show 3<1000;decide),?_}
  rw [eM,eM,eM,f4]
  let k2:∀b o,H b=some o->b≠p->(upd H1 p (.ins N.CB g (w4 q j l k))) b=some o:=λb o e n=>by rw [aC n];exact s1 _ _ e
  let e2:(upd H1 p (.ins N.CB g (w4 q j l k))) p=some (.ins N.CB g (w4 q j l k)):=aB
  let n2:∀b,(upd H1 p (.ins N.CB g (w4 q j l k))) b=none->H b=none:=λb e=>by
   cases z:H b with
   | none=>rfl
   | some o=>
    by_cases y:b=p
    ·rw [y,aB] at e
     cases e
    ·rw [k2 b o z y] at e
     cases e
  generalize upd H1 p (.ins N.CB g (w4 q j l k))=H2 at k2 e2 n2 ⊢
  let a5:cE H2 q a:=by
   let (xs,J,x2):=hw;refine {xs,k2 _ _ J (aK J hp 1#0),aO (λv r ⟨b,z1,z2⟩=>{b,z1,k2 _ _ z2 (aK z2 hp 1#0)}) x2}
  refine {_,ρ,λx dy nx ny ne=>{x,dy,q,a,ρ,aB,?_,wa,∎,λa2 sd ws L a8 S sh mm ll kp=>{ρ,?_}}}
  ·exact a5.same λb o e=>by rw [aC (aD e nx),aC (aD e ny)];exact e
  let k3:∀b o,H2 b=some o->L b=some o:=λb o e=>kp b o (by rw [aC (aD e nx),aC (aD e ny)];exact e) (aD e nx);let a6:H2 sd=none:=by
   cases z:H2 sd with
   | none=>rfl
   | some o=>
    rw [aC (aD z nx),aC (aD z ny),z] at a8;cases a8
  let a3:=a5.same k3;refine {_,ρ,p,N.CB,g,_,ρ,k3 _ _ e2,W.B.cl,W.B.nH,(by show 4<1000;decide),?_};intro d nd;let T:p≠d:=λz=>by
   rw [<- z,aB] at nd;cases nd
  let m:L d=none:=by rw [aC T.symm] at nd;exact nd
  let Z:H2 d=none:=by
   cases z:H2 d with
   | none=>rfl
   | some o=>rw [k3 _ _ z] at m;cases m
  refine {_,ρ,p,N.CB,g,_,ρ,(by rw [aC T];exact aB),W.B.cl,W.B.nB,(by show 5<1000;decide),?_};refine {_,ρ,p,N.CB,g,_,ρ,aB,W.B.cl,W.B.nN,(by show 6<1000;decide),?_};refine {_,ρ,p,N.CB,g,_,ρ,aB,W.B.cl,W.B.nT,(by show 7<1000;decide),?_};refine {_,ρ,p,N.CB,g,_,ρ,aB,W.B.cl,W.B.nM,(by show 8<1000;decide),?_};rw [eM,eM,eM,f9];let k5:∀b o,L b=some o->b≠p->48#0 b=some o:=λb o e n=>by
   rw [aC n,aC (aD e m),aC n];exact e
  let e5:48#0 p=some (.ins N.CB g (bf q x d j l k 0 0 0)):=aB;let d5:48#0 d=some (.dK []):=by rw [aC T.symm,aB]
  generalize upd (upd (upd L p (.ins N.CB g (cZ "sheet" (.ref x) (w4 q j l k)))) d (.dK [])) p (.ins N.CB g (bf q x d j l k 0 0 0))=H5 at k5 e5 d5 ⊢;let C:L p=some (.ins N.CB g (w4 q j l k)):=k3 _ _ e2;let O:sd≠d:=λz=>by
   have:=S.dc;rw [z,m] at this;cases this
  let mv:∀G:Hp,(∀b o,L b=some o->b≠p->b≠d->G b=some o)->cE G q a/\cT N.CS G x a2 sd ws []:=λG I=>by
   let wm:∀r Y,cE L r Y->cE G r Y:=λr Y ⟨xs,J,x2⟩=>{xs,I _ _ J (aK J C 1#0) (aD J m),aO (λv r ⟨b,z1,z2⟩=>{b,z1,I _ _ z2 (aK z2 C 1#0) (aD z2 m)}) x2};let ((dz,a1),aa,a4):=S;let ag:x≠p:=λz=>by
    rw [z,e2] at nx;cases nx
   exact {wm _ _ a3,{dz,I _ _ a1 ag (aD a1 m)},wm _ _ aa,I _ _ a4 (aK a4 C 1#0) O}
  let (xs,J,x2):=id a3;let lx:xs.length=a.length:=x2.length;refine {_,ρ,q,ρ,{_,bX.of (k5 _ _ J (aK J C 1#0))},nG (K:=K) (a:=q) (xs:=xs) (λi σ G=>(∃ps:List Addr,(∀r ∈ ps,H r=none)/\jI N.CB N.CP G p q x d j l k i 0 0 ps (pcs 0 (a.take i)))/\(∀b o,L b=some o->b≠p->b≠d->G b=some o)/\∃u v,σ=[some 49#0,some (.ref q),some (.int j),some (.int l),some (.int k),u,v])
   {{[],λ_ z=>(nomatch z),{(g),e5},d5,.nil},λb o e n _=>k5 b o e n,_,_,ρ} (λi σ G _ ⟨_,I,_⟩=>bX.of (I _ _ J (aK J C 1#0) (aD J m))) ?_ ?_}
  ·rintro i y σ G hi ⟨⟨ps,fp,hb⟩,I,u,v,rfl⟩;let (c,hc,r,rfl,a0):=aM x2 hi;let il:i<a.length:=(e8.mp hc).1;let lt:(a.take i).length=i:=by rw [u6];omega
   refine {r,_,ρ,bX.of (I _ _ a0 (aK a0 C 1#0) (aD a0 m)),ρ,_,_,ρ,_,_,ρ,ρ,?_};let (dz,a7):=hb.ob;refine {_,ρ,p,dz,_,ρ,a7,ρ,_,ρ,_,ρ,p,q,x,d,j,l,k,_,0,0,c.1,c.2,ps,_,ρ,hb,λc' af=>?_,?_,λp' G' kf M a9=>?_}
   ·have:=On _ _ c' af;rw [lt] at this;omega
   ·rw [mU,lt];omega
   ·let hn:H p'=none:=by
     cases e:H p' with
     | none=>rfl
     | some o=>
      by_cases z:p'=p
      ·rw [z,a7] at M;cases M
      ·rw [I _ _ (k3 _ _ (k2 _ _ e z)) z (aD e (n2 _ Z))] at M;cases M
    refine {{ps++[p'],λr hr=>(j6.mp hr).elim (fp r) λz=>by rw [v9.mp z];exact hn,?_},λb o e n1 n2=>kf b o (I b o e n1 n2) n1 n2,_,_,ρ};let e:pcs 0 (a.take (i+1))=pcs 0 (a.take i)++[{(i:Int),c.1,c.2,c.1,none}]:=by
     rw [A5,hc];show pcs 0 (a.take i++[c])=_;rw [yI,lt];simp
    rw [e];exact a9
  ·rintro σ G ⟨⟨ps,fp,hb⟩,I,u,v,rfl⟩;rw [lx,v6 (g9 _)] at hb;have:=mv G I;exact t x a2 sd d ws ps G (λb o e n=>I b o (k3 _ _ (k2 b o e n)) n (aD (k2 b o e n) Z)) (n2 _ Z) (n2 _ a6) O this.2 sh mm ll fp hb
def Jz (CB:Addr) (H:Hp) (b pw sh d:Addr) (sp ev le nn nt mo:Int):Prop:=∃dx,H b=some (.ins CB dx (bf pw sh d sp ev le nn nt mo))
inductive FC (CB:Addr) (vs:List V) (H:Hp) (Q:VK) (E0_:XK):Prop|mk (b pw sh d:Addr) (sp ev le nn nt mo:Int) (_:vs=[.ref b]) (_:Jz CB H b pw sh d sp ev le nn nt mo) (_:Q (.int mo) H)
def HL (CB:Addr):Sp:=FC CB
inductive EZ (CB CS:Addr) (sp':Sp) (vs:List V) (H:Hp) (Q:VK) (E:XK):Prop|mk (b pw sh d pw' d':Addr) (sp ev le nn nt mo:Int) (ws:Lm.Ps) (kvs:List (bJ × V)) (_:vs=[.ref b]) (_:Jz CB H b pw sh d sp ev le nn nt mo) (_:cT CS H sh pw' d' ws kvs) (_:sp' [.ref sh] H Q E)
def Ea (CB CS:Addr) (sp':Sp):Sp:=EZ CB CS sp'
inductive Su (CB:Addr) (vs:List V) (H:Hp) (Q:VK) (E0_:XK):Prop|mk (b pw sh d:Addr) (sp ev le nn nt mo i:Int) (_:vs=[.ref b,.int i]) (_:Jz CB H b pw sh d sp ev le nn nt mo) (_:mo<=i) (_:Q .non H)
def vQ (CB:Addr):Sp:=Su CB
def HU:aL ["self"] ["self"] (aG Zq):=2#0
def DM (W:3#0):eA P w K mg base dI N.CB "moment_now" 1 (HL N.CB):=W.d51.of λF=>by
 refine F.ok HU (λo H Q E h=>?_) (λg A a s H o Q E r h=>?_)
 ·let (b,n,k,d,i,f,p,q,l,j,rfl,_):=h
  rfl
 ·intro X D
  let (b,n,k,d,i,f,p,q,l,j,rfl,(e,m),t):=h
  exact {_,aH (aW 22#0),_,ρ,b,N.CB,e,_,_,ρ,m,W.B.cl,W.B.nM,ρ,t}
def CG:aL ["self"] ["self"] (aG Nk):=2#0
def Wm {j:FuncData} {sp':Sp} {k:Nat} (F:qG K "all_results" "Book.all_results" Nk f j) (z:eA P w K mg base dI N.CS "all_results" k (λa H Q _=>sp' a H Q E0)) (W:3#0):bN P w K mg base dI (k+1) f j ["self"] (Ea N.CB N.CS λa H Q _=>sp' a H Q E0):=by
 refine F.ok CG (λa H Q E h=>?_) (λM A i s H a Q E u h=>?_)
 ·let (b,y,l,d,e,L,I,r,p,q,G,C,m,g,rfl,_):=h;rfl
 ·intro X D;let (b,y,l,d,e,L,I,r,p,q,G,C,m,g,rfl,(n,x),v,t):=h;let (o,J):=v.ob;refine {_,aH (aW (bG 22#0 W.S.cl z u aN)),?_};exact {_,ρ,b,N.CB,n,_,_,ρ,x,W.B.cl,W.B.nH,ρ,l,o,_,ρ,J,gW _ _ ⋯ ⋯,t}
def Vc:aL ["self"] ["self"] (aG Nf):=2#0
def Pi {sp':Sp} {k:Nat} (x:eA P w K mg base dI N.CS "left_work" k (λa H Q _=>sp' a H Q E0)) (W:3#0):eA P w K mg base dI N.CB "left_work" (k+1) (Ea N.CB N.CS λa H Q _=>sp' a H Q E0):=W.d53.of λF=>by
 refine F.ok Vc (λa H Q E h=>?_) (λJ A g s H a Q E q h=>?_)
 ·let (b,v,i,d,e,I,C,p,n,o,z,y,j,f,rfl,_):=h
  rfl
 ·intro X D
  let (b,v,i,d,e,I,C,p,n,o,z,y,j,f,rfl,(l,u),r,t):=h
  let (m,G):=r.ob
  refine {_,aH (aW (bG 22#0 W.S.cl x q aN)),?_}
  exact {_,ρ,b,N.CB,l,_,_,ρ,u,W.B.cl,W.B.nH,ρ,i,m,_,ρ,G,gW _ _ ⋯ ⋯,t}
def HV:aL ["self","moment"] ["self","moment"] (aG xV):=2#0
section
variable (W:Wd P w K mg base N c)
include W
def uQ:eA P w K mg base dI N.CB "left_work" 8 (Ea N.CB N.CS λa H Q _=>Bb N.CS a H Q E0):=Pi (sp':=Bb N.CS) (Wi W) W
end
def nX {d:Hp} {a:Addr} {o:Obj} {u:HO} (e:H a=some u) (s:aJ (upd H a (.frz o u)) d):aJ H (upd d a u):=λb v h=>by
 by_cases z:b=a
 ·subst z
  rw [e] at h
  cases h
  exact aB
 ·rw [aC z]
  exact s b v (by rw [aC z];exact h)
def Qz {a:Addr} {u o:HO} (e:H a=some u) (n:(upd H a o) b=none):H b=none/\b≠a:=by
 let d:b≠a:=λz=>by
  rw [z,aB] at n;cases n
 rw [aC d] at n;exact {(n),d}
def Pc.free (c:Pc):Bool:=c.o.isNone && !decide (c.m=c.h)
def iJ:aL ["self","moment","piece","free","lent","late"] ["self","moment"] (aG iK):=2#0
def lF (x:Str):Prop:=1<=x.length/\x.length<=8/\x.cps.all (·<128)=true/\∀(i:Nat) c,x.cps[i]?=some c->(!decide ((⟨#[c]⟩:Str).cps.toList<("a":Str).cps.toList))=true/\(!decide (("z":Str).cps.toList<(⟨#[c]⟩:Str).cps.toList))=true
def Ay:Sp:=λvs H Q _=>∃x,vs=[.str x]/\lF x/\∀H',aJ H H'->Q (.bl true) H'
def Be:Sp:=λvs H Q _=>∃x,vs=[.str x]/\lF x/\∀H',aJ H H'->Q .non H'
def DT:(["sign"]:List Str).Nodup:=⋯
def Ry:bootBuiltins "str"=some (.type "str"):=⋯
def cN {b:Bool} {A B:Prop} (h:b=true) (x:A):if b=true then A else B:=by rw [if_pos h];exact x
def cO {b:Bool} {A B:Prop} (h:b=false) (x:B):if b=true then A else B:=by rw [if_neg (by rw [h];simp)];exact x
def Lx:aL ["thing"] ["thing"] (aG Et):=2#0
def yO (W:3#0):jP P w K mg base dI "is_worker" 1 Ay:=W.d10.of λF=>by
 refine F.ok Lx (λM H Q E h=>?_) (λB A l s H M Q E T h=>?_)
 ·let (x,rfl,_):=h
  rfl
 ·intro X D
  let (x,rfl,(U,w2,O,w4),t):=h
  refine {_,aE (bP (PW.pt (fF (cL (cK (bD dM 33#0 W.G.isi fC (aA (pv 0) (aA (kQ (v:=.ty "str") 33#0 W.z Ry rfl) aF))))) (eF (cL (gG jJ jJ aS (bD wS 33#0 W.G.len PySem.boot_len (aA (pv 0) aF)) aS))))) (aH (aW uN)) aZ)
   (aH (aW (bD (zV rfl) 33#0 W.G.all zW (aA (eK (NB:=["sign"]) (n:=1) (js:=[]) (g:=dF 0) (cl:=[]) rfl ⋯ ⋯ rfl (pL.all 39#0).2.2.2.1
     (DC (pv 0)) (λ_ s H r q=>aP (i:=0) DT rfl 29#0 (.inr rfl)) (λ_ s H r q=>eZ) (λ_ s H r q=>Oi uP uP bE (pv 0) bE)) aF)))),?_}
  let Y:sizeLine=16777216:=sizeLine_eq
  refine {_,ρ,_,_,_,true,ρ,.ty "str",.inl {_,.str x,ρ},_,ρ,?_}
  refine cS ?_
  refine {_,ρ,_,ρ,∎,_,_,ρ,ρ,_,ρ,cN (decide_eq_true ∎) {_,_,ρ,ρ,_,ρ,cO (by rw [decide_eq_true ∎];rfl) ?_}}
  refine {_,ρ,_,ρ,O,λe a=>?_}
  refine {λj p f m=>p=x.length-j/\j<=x.length/\f=(List.replicate j true).map V.bl/\aJ H m/\m e=some (.lst f),{_,ρ,i9 _,ρ,aI a,aB},?_}
  rintro j p f m ⟨rfl,Z,rfl,u,k⟩
  refine {k,?_}
  by_cases d:j<x.length
  ·refine .inr {d,?_}
   rintro y C ⟨rfl,c,J,rfl⟩
   let (I,S):=w4 j c J
   refine {ρ,?_}
   refine gB ?_
   refine dE ?_
   refine {_,ρ,_,_,ρ,ρ,_,ρ,cN I {_,_,ρ,ρ,k,by rw [g7,D4];omega,_,?_,ρ,d,?_,λb o z=>?_,aB}}
   ·omega
   ·rw [List.replicate_succ',u5,S]
    rfl
   ·rw [aC (aD z a)]
    exact u _ _ z
  ·refine .inl {by show _<=j;omega,?_}
   refine {e,_,ρ,cQ.of k,?_}
   let L:(List.replicate j true).all id=true:=by simp
   rw [L]
   exact t _ u
def Mi:aL ["worker"] ["worker"] (aG mM):=2#0
def yS (W:3#0):jP P w K mg base dI "check_worker" 2 Be:=W.d11.of λF=>by
 refine F.ok Mi (λd H Q E h=>?_) (λi A a s H d Q E e h=>?_)
 ·let (x,rfl,_):=h
  rfl
 ·intro X D
  let (x,rfl,b,t):=h
  refine {_,aH (bP (cL (cK (aU (yO W) e aN (aA (pv 0) aF)))) cX aZ),?_}
  exact {_,ρ,x,ρ,b,λf g=>{_,ρ,cS (t f g)}}
inductive Yb (CB CP:Addr) (vs:List V) (H:Hp) (Q:VK) (E0_:XK):Prop|mk (b pw sh d:Addr) (sp ev le nn nt mo:Int) (ps:List Addr) (cs:List Pc) (i:Nat) (p:Addr) (c:Pc) (_:vs=[.ref b,.int c.n]) (_:6#0) (_:ps[i]?=some p) (_:cs[i]?=some c) (_:(cs.map Pc.n).Nodup) (_:Q 49#0 H)
def BG (CB CP:Addr):Sp:=Yb CB CP
theorem pY:∀{ps:List Addr} {cs:List Pc} {i:Nat} {p:Addr} {c:Pc},ps[i]?=some p->cs[i]?=some c->(cs.map Pc.n).Nodup->cW (fK ps cs) (Sum.inl c.n:bJ)=some 49#0
 | [],_,_,_,_,h,_,_=>by simp at h
 | _::_,[],_,_,_,_,h,_=>by simp at h
 | p::ps,c::cs,0,_,_,h1,h2,_=>by
  cases h1
  cases h2
  exact fO rfl
 | q::ps,e::cs,i+1,p,c,h1,h2,nd=>by
  let (a,d):=A0.mp nd
  have b:c.n ∈ cs.map Pc.n:=List.mem_map_of_mem (i5 (by simpa using h2))
  show cW ((Sum.inl e.n,V.ref q)::fK ps cs) _=_
  rw [fP (λz=>a (by have z:e.n=c.n:=Sum.inl.inj z;rw [z];exact b))]
  exact pY (by simpa using h1) (by simpa using h2) d
def Ly:aL ["self","number"] ["self","number"] (aG vY):=2#0
def Wc (W:3#0):eA P w K mg base dI N.CB "piece_with" 2 (BG N.CB N.CP):=W.d59.of λ{f _} F=>by
 refine F.ok Ly (λS H Q E h=>?_) (λl A g s H S Q E o h=>?_)
 ·let (b,L,G,d,T,y,u,x,M,O,r,v,i,p,c,rfl,_):=h
  rfl
 ·intro X D
  let (b,L,G,d,T,y,u,x,M,O,r,v,i,p,c,rfl,I,J,z,C,t):=h
  let q:(A.deeper (PyProof.Rows.envOfC "Book.piece_with" (aG vY) s.heap.objs.size f l)).units+1<cLine:=by have:=o.un;omega
  let ((m,a),e,U):=id I
  refine {_,aE (bP (PW.pt (fF (cL (cK (aU (dN W) o aN (aA (pv 1) aF)))) (eF (Br (uO q (pv 1) 22#0))))) cX aZ) (aH (aW (mS q 22#0 (pv 1) 19#0))),?_}
  let j:=fD.k (k:=(Sum.inl c.n:bJ)) e
  rw [pY J z C] at j
  refine {_,ρ,_,ρ,.kn (.int _),_,ρ,cS ?_}
  refine {_,ρ,_,ρ,b,N.CB,m,_,_,ρ,a,W.B.cl,W.B.nB,ρ,d,_,ρ,j,_,ρ,cS ?_}
  exact {_,ρ,b,N.CB,m,_,_,ρ,a,W.B.cl,W.B.nB,ρ,_,ρ,d,_,ρ,j,t}
def Sb {nt':Int}:cZ "next_token" (.int nt') (bf f b d sp e a nn nt mo)=bf f b d sp e a nn nt' mo:=rfl
def oP {mo':Int}:cZ "moment" (.int mo') (bf f b d sp e a nn nt mo)=bf f b d sp e a nn nt mo':=rfl
def DH {c e:Pc} (f:fU C H p c) (h2:fU C H p e):c.n=e.n:=by
 let (i,(h,a),_):=f;let (d,(g,b),_):=h2;rw [a] at b;have:=Option.some.inj b;injection this with _ _ z;injection z with z _;injection z with _ z;injection z
def gK {k:Nat} {c c':Pc} (h:Paired (fU C H) ps cs) (o:(cs.map Pc.n).Nodup) (i:ps[k]?=some p) (l:cs[k]?=some c) (m:∀q e,q≠p->fU C H q e->fU C H' q e) (g:fU C H' p c'):Paired (fU C H') ps (cs.set k c'):=by
 refine hG (by rw [R4];exact h.length) λj q e f b=>?_;rw [P8] at b;by_cases z:k=j
 ·subst z;rw [if_pos rfl] at b;rw [i] at f;cases f;split at b
  ·cases b;exact g
  ·cases b
 ·rw [if_neg z] at b;let (D,d,x):=aM h f;rw [b] at d;cases d;refine m q e (λy=>z ?_) x;subst y;let (u,a,r):=aM h i;rw [l] at a;cases a;let t:=DH r x;let A:(cs.map Pc.n)[k]?=some c.n:=by rw [j1,l];rfl
  let B:(cs.map Pc.n)[j]?=some c.n:=by rw [j1,b,t];rfl
  let (E,s):=e8.mp A;let (F,v):=e8.mp B;exact(List.getElem_inj o).mp (s.trans v.symm)
def nO {k:Nat} {c c':Pc} (g:cs[k]?=some c) (h:c'.n=c.n):fK ps (cs.set k c')=fK ps cs:=by
 unfold fK;refine P9 λj=>?_;rw [j1,j1];by_cases z:k=j
 ·subst z;let l:=(e8.mp g).1;cases hp:ps[k]? with
  | none=>
   let d:((cs.set k c').zip ps)[k]?=none:=B7 (by rw [A1];have:=O4.mp hp;omega);let f:(cs.zip ps)[k]?=none:=B7 (by rw [A1];have:=O4.mp hp;omega);rw [d,f]
  | some p=>
   let d:((cs.set k c').zip ps)[k]?=some (c',p):=A2.mpr {by rw [P8,if_pos rfl,if_pos l],hp};let f:(cs.zip ps)[k]?=some (c,p):=A2.mpr {(g),hp};rw [d,f];show some ((Sum.inl c'.n:bJ),V.ref p)=some (Sum.inl c.n,V.ref p);rw [h]
 ·let e:((cs.set k c').zip ps)[j]?=(cs.zip ps)[j]?:=by
   let i:(cs.set k c')[j]?=cs[j]?:=by rw [P8,if_neg z]
   cases q:(cs.zip ps)[j]? with
   | none=>
    have:=O4.mp q;exact B7 (by rw [A1,R4] at *;exact this)
   | some x=>
    let (a,b):=A2.mp q;exact A2.mpr {i.trans a,b}
  rw [e]
def nZ:aL ["self","worker","moment","chosen","piece","token","until"] ["self","worker","moment"] (aG wC):=2#0
def Pc.has (c:Pc) (tk:Int):Bool:=c.o.any λt=>decide (t.1=tk)
inductive Yn (CB CP:Addr) (vs:List V) (H:Hp) (Q:VK) (E0_:XK):Prop|mk (b pw sh d:Addr) (sp ev le nn nt mo tk i:Int) (ps:List Addr) (cs:List Pc) (k:Nat) (p:Addr) (c:Pc) (_:vs=[.ref b,.int tk,.int i]) (_:6#0) (_:mo<=i) (_:0<=tk) (_:tk<nt) (_:ps[k]?=some p) (_:cs[k]?=some c) (_:c.has tk=true) (_:30#0) (_:∀H',aJ H H'->Q 49#0 H')
def Bc (CB CP:Addr):Sp:=Yn CB CP
def Mb:aL ["self","token","moment","piece"] ["self","token","moment"] (aG Ng):=2#0
inductive Jp (CB CS CP:Addr) (vs:List V) (H:Hp) (Q:VK) (E0_:XK):Prop|mk (b pw sh d pw' d' nr:Addr) (sp ev le nn nt mo tk i pl:Int) (ps:List Addr) (cs:List Pc) (k:Nat) (p:Addr) (c:Pc) (ws:Lm.Ps) (kvs:List (bJ × V)) (ns:List Int) (_:vs=[.ref b,.int tk,.int pl,.ref nr,.int i]) (_:6#0) (_:cT CS H sh pw' d' ws kvs) (_:mo<=i) (_:0<=tk) (_:tk<nt) (_:ps[k]?=some p) (_:cs[k]?=some c) (_:c.has tk=true) (_:30#0) (_:H nr=some (.tup 32#0)) (_:ns.length<=1000) (_:c.l<=pl) (_:pl<=c.m) (_:pl+ns.length<=c.m+ev) (_:-(2 ^ 61)<=pl) (_:pl<=2 ^ 61) (_:60#0) (_:∀H',aJ H H'->Q 49#0 H')
def xI (CB CS CP:Addr):Sp:=Jp CB CS CP
def iI:aL ["self","token","place","numbers","moment","piece","at","number"] 25#0 (aG rC):=2#0
def IE {P:Program} {w:World} {X:Cx}:eS 50#0 X E0:=λ_ _ _ _ _ _ _ h=>by
 let (_,_,_,_,_,_,_,_,_,z):=h
 exact z.elim
def hV (ns:List Int) (lo hi:Option Int):List Int:=(ns.drop (HT.sIx ns.length 0 lo)).take (HT.sIx ns.length ns.length hi-HT.sIx ns.length 0 lo)
def Rt (ns:List Int) (lo hi:Option Int):oN 32#0 lo hi=(hV ns lo hi).map V.int:=by
 unfold oN hV;rw [g7,List.map_take,List.map_drop]
def EH (ns:List Int) (lo hi:Option Int):(hV ns lo hi).length<=ns.length:=by
 unfold hV;rw [u6,D8];omega
def Pc.told (c:Pc) (n:Int) (u:Int):Pc:={ c with m:=c.m+n,o:=if c.m+n=c.h then none else c.o.map λt=>(t.1,t.2.1,u) }
inductive Yc (CB CS CP:Addr) (vs:List V) (H:Hp) (Q:VK) (E0_:XK):Prop|mk (b pw sh d pw' d' nr:Addr) (sp ev le nn nt mo tk i pl:Int) (ps:List Addr) (cs:List Pc) (k:Nat) (p:Addr) (c:Pc) (ws:Lm.Ps) (kvs:List (bJ × V)) (ns:List Int) (_:vs=[.ref b,.int tk,.int pl,.ref nr,.int i]) (_:6#0) (_:cT CS H sh pw' d' ws kvs) (_:mo<=i) (_:0<=tk) (_:tk<nt) (_:ps[k]?=some p) (_:cs[k]?=some c) (_:c.has tk=true) (_:30#0) (_:H nr=some (.tup 32#0)) (_:ns.length<=1000) (_:c.l<=pl) (_:pl<=c.m) (_:pl+ns.length<=c.m+ev) (_:-(2 ^ 61)<=pl) (_:pl<=2 ^ 61) (_:60#0) (_:(cs.map Pc.n).Nodup) (_:d≠d') (_:ws.length<=1000) (_:kvs.length<=1000) (_:(-(2 ^ 61)<=c.m/\c.m+(hV ns (some (c.m-pl)) (some (c.h-pl))).length<=2 ^ 61/\(∃q ∈ ws,q.1<=c.m/\c.m+(hV ns (some (c.m-pl)) (some (c.h-pl))).length<=q.2)/\∀j:Nat,j<(hV ns (some (c.m-pl)) (some (c.h-pl))).length->cW kvs (Sum.inl (c.m+(j:Int)):bJ)=none)) (_:∀(r:Addr) (H':Hp),(∀a o,H a=some o->a≠b->a≠p->a≠d'->H' a=some o)->jI CB CP H' b pw sh d sp ev le nn nt i ps (cs.set k (c.told (hV ns (some (c.m-pl)) (some (c.h-pl))).length (i+sp))) ->
  cT CS H' sh pw' d' ws (kvs++kE c.m (hV ns (some (c.m-pl)) (some (c.h-pl))) (hV ns (some (c.m-pl)) (some (c.h-pl))).length) ->
  H' r=some (.tup [.int (c.m+(hV ns (some (c.m-pl)) (some (c.h-pl))).length),.int c.h,if c.m+(hV ns (some (c.m-pl)) (some (c.h-pl))).length=c.h then .non else .int (i+sp)])->Q (.ref r) H')
def Az (CB CS CP:Addr):Sp:=Yc CB CS CP
def vV:aL ["self","token","place","numbers","moment","piece","fresh","until"] 25#0 (aG oA):=2#0
def We {fd:FuncData} (F:qG K "tell" "Book.tell" oA f fd) (GT:eA P w K mg base dI N.CB "piece_to_tell" 4 (xI N.CB N.CS N.CP)) (W:3#0):bN P w K mg base dI 5 f fd 25#0 (Az N.CB N.CS N.CP):=by
 refine F.ok vV 11#0 (λaw A ah s H vs Q E hr h=>?_)
 ·let (b,pw,J,d,a3,d',I,x,ev,le,nn,nt,mo,L,i,pl,ps,cs,k,p,c,ws,T,ns,rfl,_):=h;rfl
 ·intro X D;let (b,pw,J,d,a3,d',I,x,ev,le,nn,nt,mo,L,i,pl,ps,cs,k,p,c,ws,T,ns,rfl,hb,U,hi,t0,t1,hp,hc,ht,ai,hn,ln,p1,p2,p3,p4,p5,ok,nd,ak,lw,lk,(m1,m2,m3,m4),t):=h;let ae:=vV.nd;let cB:=W.B.cl;let cP:=W.P.cl;let nM:=W.P.nM;let nH:=W.P.nH;let nD:=W.P.nD;let nS:=W.B.nS;let av:=W.B.nH;let sl:sizeLine=16777216:=sizeLine_eq;let ((dx,u),O,aa):=id hb;let (c',af,lv,(y,g),a7):=aM aa hp;rw [hc] at af;cases af;refine Wp.ex (cF (n:=5) ae rfl (zN (vs:=[.int L,.int pl,.ref I,.int i]) 15#0 u W.B.cl GT hr aN 15#0 {b,pw,J,d,a3,d',I,x,ev,le,nn,nt,mo,L,i,pl,ps,cs,k,p,c,ws,T,ns,ρ,hb,U,hi,t0,t1,hp,hc,ht,ai,hn,ln,p1,p2,p3,p4,p5,ok,λH1 s1=>?_}));let au:=s1 _ _ g;refine cF (n:=6) ae rfl {_,rH BV (pv 3) (mP aR) (mP aR),{_,ρ,Vl.to (v:=.int (c.m-pl)) 15#0 _ {_,ρ,Vl.to (v:=.int (c.h-pl)) 15#0 _ {_,ρ,I,_,ρ,s1 _ _ hn,λq H2 s2 e2=>?_}}}};rw [Rt] at e2;let lf:=EH ns (some (c.m-pl)) (some (c.h-pl));generalize hV ns (some (c.m-pl)) (some (c.h-pl))=fr at e2 lf m2 m3 m4 t;let t2:=s1.trans s2;let a6:=U.same t2;let (dz,hz):=a6.ob;let aq:=t2 _ _ u;let ar:=t2 _ _ g;refine Tq (zN (vs:=[.int c.m,.ref q]) 15#0 hz W.S.cl (DN W) hr IE 15#0 {J,a3,d',q,ws,T,c.m,fr,ρ,a6,e2,lw,∎,lk,m1,m2,m3,λ_ H3 e3 k3=>?_,λ⟨j,hj,z⟩=>absurd (m4 j hj) z} (gW _ _ ⋯ ⋯));let C:p≠d':=aK g U.dc 1#0;let a2:b≠d':=aK u U.dc 1#0;let a4:p≠b:=aK g u 18#0;let a1:=k3 _ _ (t2 _ _ g) C;let ad:=k3 _ _ (t2 _ _ u) a2;let aj:H3 q=some (.tup (fr.map V.int)):=k3 _ _ e2 (aK e2 a6.dc 1#0);refine {_,aE (uK (pv 5) (bD cC 33#0 W.G.len PySem.boot_len (aA (pv 6) aF)) Qr) aQ,?_};refine {_,ρ,p,N.CP,y,_,_,ρ,a1,W.P.cl,W.P.nM,ρ,_,ρ,q,_,ρ,.inr (bX.of aj),_,_,ρ,ρ,y,_,a1,(by show 5<1000;decide),?_};rw [Vu,g7];refine Kj (p:=b) (v:=.int i) 15#0 15#0 (by rw [aC a4.symm];exact ad) W.B.cl W.B.nM (by show 9<1000;decide) ?_;rw [oP];generalize hM:c.m+(fr.length:Int)=M at *;let k5:∀a o,H3 a=some o->a≠p->a≠b->(upd (upd H3 p (.ins N.CP y (pf c.n c.l c.h M lv))) b (.ins N.CB dx (bf pw J d x ev le nn nt i))) a=some o:=λa o e n1 n2=>by
   rw [aC n2,aC n1];exact e
  let p5:(upd (upd H3 p (.ins N.CP y (pf c.n c.l c.h M lv))) b (.ins N.CB dx (bf pw J d x ev le nn nt i))) p=some (.ins N.CP y (pf c.n c.l c.h M lv)):=by rw [aC a4,aB]
  let b5:(upd (upd H3 p (.ins N.CP y (pf c.n c.l c.h M lv))) b (.ins N.CB dx (bf pw J d x ev le nn nt i))) b=some (.ins N.CB dx (bf pw J d x ev le nn nt i)):=aB;generalize upd (upd H3 p (.ins N.CP y (pf c.n c.l c.h M lv))) b (.ins N.CB dx (bf pw J d x ev le nn nt i))=H5 at k5 p5 b5 ⊢;let f5:∀a o,H a=some o->a≠b->a≠p->a≠d'->H5 a=some o:=λa o e n1 n2 n3=>k5 _ _ (k3 _ _ (t2 _ _ e) n3) n2 n1;let Z:∀a ys,H a=some (.tup ys)->H5 a=some (.tup ys):=λa ys e=>f5 _ _ e (aK e u 1#0) (aK e g 1#0) (aK e U.dc 1#0);let d5:H5 d'=some (.dK (T++kE c.m fr fr.length)):=k5 _ _ e3 C.symm a2.symm;let ac:∀(r:Addr) (H':Hp) (a0:V),(∀a o,H5 a=some o->a≠p->H' a=some o)->H' p=some (.ins N.CP y (pf c.n c.l c.h M a0))->jO H' a0 (if M=c.h then none else c.o.map λt=>(t.1,t.2.1,i+x))->H' r=some (.tup [.int M,.int c.h,if M=c.h then .non else .int (i+x)])->Q (.ref r) H':=λr H' a0 fk an ag ao=>by
   refine t r H' (λa o e n1 n2 n3=>fk _ _ (f5 a o e n1 n2 n3) n2) {{dx,fk _ _ b5 a4.symm},?_,?_} {?_,?_,?_} ao
   ·rw [nO (c':=c.told fr.length (i+x)) hc rfl];exact fk _ _ (f5 _ _ O (aK O u 1#0) (aK O g 1#0) ak) (aK O g 1#0)
   ·refine gK aa nd hp hc (λq' e' a8 ⟨ap,⟨dz2,ha'⟩,hl2⟩=>{ap,{dz2,fk _ _ (f5 _ _ ha' ?_ a8 (aK ha' U.dc 1#0)) a8},hl2.move λa ys e=>fk _ _ (Z a ys e) (aK e g 1#0)}) ?_
    ·exact aK ha' u 18#0
    ·unfold Pc.told fU;rw [hM];exact {a0,{(y),an},ag}
   ·let (dy,hy):=U.ob;let n1:J≠b:=aK hy u (by intro z;injection z with _ _ z;exact absurd (congrArg List.length z) (by show ¬ 2=9;decide));let n2:J≠p:=aK hy g (by intro z;injection z with _ _ z;exact absurd (congrArg List.length z) (by show ¬ 2=5;decide));exact {dy,fk _ _ (f5 _ _ hy n1 n2 (aK hy U.dc 1#0)) n2}
   ·let (xs,x1,x2):=U.wk;exact {xs,fk _ _ (Z _ _ x1) (aK x1 g 1#0),aO (λv r ⟨b',z1,z2⟩=>{b',z1,fk _ _ (Z _ _ z2) (aK z2 g 1#0)}) x2}
   ·exact fk _ _ d5 C.symm
  refine {_,aE (bP (cK aR) aQ aQ) aQ,fJ 15#0 p5 W.P.cl (Fs W) hr aN {p,_,_,_,_,lv,ρ,{(y),p5},_,ρ,?_}};refine fT (λY=>?_) (λY=>bV ?_)
  ·let Y:M=c.h:=by simpa using Y
   refine Kj (p:=p) (v:=.non) 15#0 Kr p5 W.P.cl W.P.nD (by show 5<1000;decide) ?_;rw [pR];let p6:(upd H5 p (.ins N.CP y (pf c.n c.l c.h M .non))) p=_:=aB;refine eC {_,bY fG,Av.to (vs:=[.int M,.int c.h,.non]) 15#0 _ {by show 3<=sizeLine;decide,λr I=>?_}};refine ac r _ .non (λa o e n=>aI I _ _ (by rw [aC n];exact e)) (aI I _ _ aB) ?_ ?_
   ·rw [if_pos Y];trivial
   ·rw [if_pos Y];exact aB
  ·let Y:¬ M=c.h:=by simpa using Y
   obtain⟨z,a5⟩:∃z,c.o=some z:=by
    cases q':c.o with
    | none=>unfold Pc.has at ht;rw [q'] at ht;cases ht
    | some z=>exact {(z),ρ}
   let am:z.1=L:=by
    unfold Pc.has at ht;rw [a5] at ht;simpa using ht
   rw [a5] at a7;obtain⟨lq,rfl⟩:∃lq,lv=.ref lq:=by
    cases lv with
    | ref lq=>exact {(lq),ρ}
    | _=>exact a7.elim
   let al:H lq=some (.tup [.int z.1,.str z.2.1,.int z.2.2]):=a7;let tl:=Z _ _ al;show 7;refine {_,aE (cY (pv 5) (bY fG) rfl) aQ,Av.to (vs:=[.int L,.str z.2.1,.int (i+x)]) 15#0 _ {by show 3<=sizeLine;decide,λq2 a9=>{_,ρ,p,N.CP,y,_,ρ,aI a9 _ _ p5,W.P.cl,W.P.nD,(by show 5<1000;decide),?_}}};rw [pR];let s6:aJ H5 (upd H5 q2 (.tup [.int L,.str z.2.1,.int (i+x)])):=aI a9;let e6:(upd H5 q2 (.tup [.int L,.str z.2.1,.int (i+x)])) q2=some (.tup [.int L,.str z.2.1,.int (i+x)]):=aB;generalize upd H5 q2 (.tup [.int L,.str z.2.1,.int (i+x)])=H6 at s6 e6 ⊢;let p6:(upd H6 p (.ins N.CP y (pf c.n c.l c.h M (.ref q2)))) p=_:=aB;refine eC {_,bY fG,Av.to (vs:=[.int M,.int c.h,.int (i+x)]) 15#0 _ {by show 3<=sizeLine;decide,λr I=>?_}};refine ac r _ (.ref q2) (λa o e n=>aI I _ _ (by rw [aC n];exact s6 _ _ e)) (aI I _ _ aB) ?_ ?_
   ·rw [if_neg Y,a5];rw [<- am] at e6;exact aI I _ _ (by rw [aC (aK e6 (s6 _ _ p5) 1#0)];exact e6)
   ·rw [if_neg Y];exact aB
end
end
end Ls
namespace L2
open PySem PySem.Spec PyProof.Rows PySem.W
def Gv (js:List Nat) (tc:TT) (σ:St) (Q:VK):It->Hp->Prop:=λJ H1=>∀acc,H1 acc=none ->
 ∃W:Nat->Nat->List V->Hp->Prop,(∃m,W 0 m [] (upd H1 acc (.lst [])))/\∀i m ys H,W i m ys H->H acc=some (.lst ys) /\
  ((J.stop i H/\Q (.ref acc) H)\/(J.go i H/\∀x H',J.yld i H x H'->dF 0 x (dG 1 js σ) H' λσ2 H2=>σ2.drop 1=(dG 1 js σ).drop 1/\tc σ2 H2 λb H3=>
   if b=true then iU 0 σ2 H3 λy H4=>H4 acc=some (.lst ys)/\ys.length<sizeLine/\∃m',m'<m/\W (i+1) m' (ys++[y]) (upd H4 acc (.lst (ys++[y])))
   else ∃m',m'<m/\W (i+1) m' ys H3))
def AH {α:Type} {js:List Nat} {σ:St} {tc:TT} {Q:VK} {J:It} {a:Hp} (xs:List α) (val:α->V) (pm:α->Bool) (B:xs.length<=4000)
  (y:∀G i,aJ a G->i<xs.length->J.go i G) (g:∀G,aJ a G->J.stop xs.length G) (r:∀G i x p,aJ a G->J.yld i G x p->p=G/\∃z,xs[i]?=some z/\x=val z)
  (t:∀G z q,aJ a G->z ∈ xs->q (pm z) G->tc (some (val z)::(js.map λj=>(σ[j]?).join)) G q)
  (l:∀k G,a k=none->aJ a G->G k=some (.lst ((xs.filter pm).map val))->Q (.ref k) G):Gv js tc σ Q J a:=by
 intro u h;let D:sizeLine=16777216:=sizeLine_eq;refine {λi m s G=>m=xs.length-i/\i<=xs.length/\s=((xs.take i).filter pm).map val/\aJ a G/\G u=some (.lst s),{_,ρ,i9 _,ρ,aI h,aB},?_};rintro i m s G ⟨rfl,E,rfl,c,f⟩;refine {f,?_};by_cases d:i<xs.length
 ·refine .inr {y G i c d,λx p A=>?_};let (rfl,z,w,rfl):=r _ _ _ _ c A;let v:xs.take (i+1)=xs.take i++[z]:=by rw [A5,w];rfl
  let C:(((xs.take i).filter pm).map val).length<=i:=by
   rw [g7];exact u8 (D5 _ _) (by rw [u6];omega)
  refine {ρ,t _ z _ c (i5 w) ?_};refine fT (λn=>?_) (λn=>?_)
  ·refine {_,ρ,f,∎,_,?_,ρ,d,?_,λb o e=>?_,aB}
   ·omega
   ·rw [v,G9,u5];simp [n]
   ·rw [aC (aD e h)];exact c _ _ e
  ·refine {xs.length-(i+1),∎,ρ,d,?_,c,f};rw [v,G9,u5];simp [n]
 let e:i=xs.length:=∎;subst e;rw [List.take_length] at f;exact .inl {g _ c,l _ _ h c f}
end L2
namespace Ls
open PySem L2 PySem.W
section
variable {cs:List Pc} {H:Hp} {zs:List (Pc × Addr)} {ps:List Addr} {js:List Nat} {σ:St} {tc:TT}
def Pc.lent (c:Pc):Bool:=c.o.isSome
def Pc.late (i:Int) (c:Pc):Bool:=c.o.any λt=>decide (t.2.2<i)
def nU (S:Pc->Bool) (cs:List Pc) (c:Pc):Prop:=c ∈ cs/\S c=true/\∀c' ∈ cs,S c'=true->¬ lH c'.k c.k
inductive KD (cs:List Pc) (le i:Int) (H:Hp):V->Prop where
 | pc {c:Pc} {r:Addr}:(nU Pc.free cs c\/(∀c ∈ cs,c.free=false)/\nU (Pc.late i) cs c)->H r=some (.tup [.str "piece",.int c.n])->KD cs le i H (.ref r)
 | cut {c:Pc} {r:Addr}:(∀c ∈ cs,c.free=false)->(∀c ∈ cs,c.late i=false)->nU Pc.lent cs c->2 * le<=c.h-c.m->H r=some (.tup [.str "cut",.int c.n,.int (c.h-(c.h-c.m) / 2)])->KD cs le i H (.ref r)
 | non:(∀c ∈ cs,c.free=false)->(∀c ∈ cs,c.late i=false)->(∀c,nU Pc.lent cs c->c.h-c.m<2 * le)->KD cs le i H .non
def dC.trans {T:Addr} {f d:Hp} (a:dC T H f) (b:dC T f d):dC T H d:=λc o n e=>b c o n (a c o n e)
def dC.t {T:Addr} {H H':Hp} {p:Pos} {q:Str} (tb:lY H T p q) (k:dC T H H'):eL H H':=by
 let (a,e,_):=tb;exact k.toT e
def vK {a:Addr} (b:H a=some (.lst (zs.map λx=>V.ref x.2))):H a=some (.lst ((zs.map (·.2)).map V.ref)):=by rw [b,C2];rfl
def Dq (h:(!zs.isEmpty)=true):zs.map (·.2)≠[]:=λz=>by rw [List.map_eq_nil_iff.mp z] at h;cases h
def iZ {i:Nat} {p:Addr} {c:Pc} (a:(zs.map (·.2))[i]?=some p) (d:(zs.map (·.1))[i]?=some c) (b:∀j f,(zs.map (·.1))[j]?=some f->¬ lH f.k c.k/\(j<i->lH c.k f.k)):
  (c,p) ∈ zs/\∀g ∈ zs,¬ lH g.1.k c.k:=by
 rw [j1] at a d;cases hz:zs[i]? with
 | none=>rw [hz] at a;cases a
 | some z=>
  rw [hz] at a d;cases a;cases d;refine {i5 hz,λg e=>?_};let (j,h):=l7.mp e;exact(b j g.1 (by rw [j1,h];rfl)).1
def Re {α:Type} {xs:List α} {p:α->Bool} (h:xs.filter p=[]):∀x ∈ xs,p x=false:=λx a=>by
 cases e:p x with
 | false=>rfl
 | true=>
  have:=v3.mpr {(a),e}
  rw [h] at this
  cases this
def pM (l:ps.length=cs.length) {c:Pc} (h:c ∈ cs):∃p,(c,p) ∈ cs.zip ps:=by
 let (k,a):=l7.mp h;let b:k<ps.length:=by have:=(e8.mp a).1;omega
 exact {ps[k],i5 (i:=k) (A2.mpr {a,e7 b})}
def qB {S:Pc->Bool} (l:ps.length=cs.length) {z:Pc × Addr} {zs:List (Pc × Addr)} (a:∀z,z ∈ zs↔z ∈ cs.zip ps/\S z.1=true) (g:z ∈ zs) (b:∀j ∈ zs,¬ lH j.1.k z.1.k):nU S cs z.1:=by
 let (e,h):=(a z).mp g;refine {(E4 e).1,h,λc d f=>?_};let (p,i):=pM l d;exact b (c,p) ((a _).mpr {(i),f})
def Gy {S:Pc->Bool} {c c':Pc} (a:nU S cs c) (b:nU S cs c'):c.h-c.m=c'.h-c'.m:=by
 let e:=a.2.2 _ b.1 b.2.1;let d:=b.2.2 _ a.1 a.2.1;unfold lH Pc.k at e d;simp only [not_or,not_and] at e d;omega
inductive Jv (CB CP T:Addr) (vs:List V) (H:Hp) (Q:VK) (E0_:XK):Prop|mk (b pw sh d:Addr) (sp ev le nn nt mo i:Int) (ps:List Addr) (cs:List Pc) (_:vs=[.ref b,.int i]) (_:6#0) (_:cs.length<=1000) (_:mo<=i) (_:lY H T pH iQ) (_:∀(v:V) (H':Hp),dC T H H'->lY H' T pH iQ->KD cs le i H' v->Q v H')
def xJ (CB CP T:Addr):Sp:=Jv CB CP T
def tX {C d:Addr} {k:Hp} {o:Obj} {Q:VK} (b:k d=some (.dK (fK ps cs))) (f:Paired (fU C k) ps cs) (W:cs.length<=1000) (pm:Pc->Bool)
  (A:∀(G:Hp) (c:Pc) (p t:Addr) (s:V) (q:Bool->Hp->Prop),G p=some (.ins C t (pf c.n c.l c.h c.m s))->jO G s c.o->q (pm c) G->tc (some 49#0::(js.map λj=>(σ[j]?).join)) G q)
  (v:∀r G,k r=none->G d=some (.frz o (.dK (fK ps cs)))->aJ k (upd G d (.dK (fK ps cs)))->(upd G d (.dK (fK ps cs))) r=some (.lst (((cs.zip ps).filter λx=>pm x.1).map λx=>V.ref x.2))->Q (.ref r) G):
  Gv js tc σ Q (FV d o (fK ps cs)) (upd k d (.frz o (.dK (fK ps cs)))):=by
 let U:ps.length=cs.length:=f.length;let T:(cs.zip ps).length=cs.length:=by rw [A1];omega
 refine AH (cs.zip ps) (λx=>V.ref x.2) (λx=>pm x.1) ∎ (λG i a X=>{a _ _ aB,by rw [jB f];omega}) (λG a=>{a _ _ aB,by rw [jB f];omega}) (λG i x O a D=>?_) (λG z q a M H=>?_) λr G F a I=>?_
 ·let (rfl,e,L,rfl):=D;let (c,p,E,J,rfl):=lU L;exact {ρ,(c,p),A2.mpr {(E),J},ρ}
 ·let (s,(t,g),B):=cH f z M;refine A G z.1 z.2 t s q (a _ _ (by rw [aC (aK g b 1#0)];exact g)) (B.move λq S e=>a _ _ (by rw [aC (aK e b 1#0)];exact e)) H
 ·let (y,u):=Qz b F;exact v r _ y (a _ _ aB) (nX b a) (by rw [aC u];exact I)
def xL {e:Hp} {d:TI} {ix:Nat} {r:TS} {D:dH} (h:d σ H (Gv js tc σ (λx f=>∃a o b,f a=some (.frz o (.dK b))/\(∀o v,e a≠some (.frz o v))/\r D (σ.set ix (some x)) (upd f a (.dK b))))):Ub (Zl e (Hm (vN 1 js d (dF 0) tc (iU 0)) (dF ix))) r D σ H:=h
def Lw {a:TI} {ix:Nat} {r:TS} {D:dH} (h:a σ H (Gv js tc σ (λx b=>r D (σ.set ix (some x)) b))):Ub (Hm (vN 1 js a (dF 0) tc (iU 0)) (dF ix)) r D σ H:=h
def As {K:Frag} {a:Addr} (e:H a=some (.lst (zs.map λx=>V.ref x.2))):EX K (.ref a) H (!zs.isEmpty):=.inl {_,cQ.of e,by cases zs <;> rfl}
def Ch (h:¬ (!zs.isEmpty)=true):zs=[]:=by
 cases zs with
 | nil=>rfl
 | cons a l=>exact absurd rfl h
section
variable {P:Program} {w:World} {K:Frag} {mg:Str->Option Value} {base:Heap} {N:Cn} {c:Nat->Addr}
def LG:(["piece","moment"]:List Str).Nodup:=⋯
def Ij {f:Addr} {fd:FuncData} (F:qG K "choice" "Book.choice" iK f fd) (GM:eA P w K mg base dI N.CB "check_moment" 2 (vQ N.CB)) (W:3#0):bN P w K mg base dI 5 f fd ["self","moment"] (xJ N.CB N.CP N.T1):=by
 refine F.ok iJ 11#0 (λah A ar s H vs Q E hr h=>?_)
 ·let (b,pw,sh,d,sp,ev,le,nn,nt,mo,i,L,y,rfl,_):=h;rfl
 ·intro X D;let (b,pw,sh,d,sp,ev,le,nn,nt,mo,i₀,L,y,rfl,hb,lc,av,tb,t):=h;let ad:Room 2 (A.deeper (PyProof.Rows.envOfC "Book.choice" (aG iK) s.heap.objs.size f ah)):=hr.mono 8#0;let ag:Room 1 (A.deeper (PyProof.Rows.envOfC "Book.choice" (aG iK) s.heap.objs.size f ah)):=hr.mono 8#0;refine {_,aE (dY (bK (pv 0) W.B.cl GM ad aN (aA (pv 1) aF)))
   (aE (Fg (iV (ix:=3) iJ.nd rfl 29#0 (NB:=["piece"]) (n:=1) (js:=[]) (g:=dF 0) (cl:=[]) rfl ⋯ ⋯ rfl
     (gO.of rfl cI (all_cons 20#0 (all_cons 20#0 cI)) rfl (λk j h=>absurd h 9#0) cI)
     (pQ (mQ 22#0)) (λ_ s H fp pn=>aP (i:=0) DU rfl 29#0 (.inr rfl)) (λ_ s H fp pn=>kO (cK (bG (pv 0) W.P.cl (Fq W) ad aN))) (λ_ s H fp pn=>pv 0)))
   (aE (bP (jU (pv 3) (λ_=>rfl)) (aH (aW (bY (aA bE (aA (cM (aU (gT W) hr aN (aA (pv 3) aF)) rfl) aF))))) aZ)
   (aE (Fg (iV (ix:=4) iJ.nd rfl 29#0 (NB:=["piece"]) (n:=1) (js:=[]) (g:=dF 0) (cl:=[]) rfl ⋯ ⋯ rfl
     (gO.of rfl cI (all_cons 20#0 (all_cons 20#0 cI)) rfl (λk j h=>absurd h 9#0) cI)
     (pQ (mQ 22#0)) (λ_ s H fp pn=>aP (i:=0) DU rfl 29#0 (.inr rfl)) (λ_ s H fp pn=>kO (cK (bG (pv 0) W.P.cl (mZ W) ag aN))) (λ_ s H fp pn=>pv 0)))
   (aE (iV (ix:=5) iJ.nd rfl 29#0 (NB:=["piece","moment"]) (n:=1) (js:=[1]) (g:=dF 0) (cl:=[("moment",s.heap.objs.size+1)]) rfl ⋯ ⋯ rfl
     (gO.of rfl (all_cons rfl cI) (all_cons 20#0 (all_cons 20#0 (all_cons (λ_=>rfl) cI))) rfl
      (λk j h=>match k,j,h with|0,_,rfl=>rfl|k+1,_,h=>absurd h 9#0) (all_cons {.inl rfl,.inl rfl,ρ} cI))
     (fA (pv 4)) (λ_ s H fp pn=>aP (i:=0) LG rfl 29#0 (.inr rfl)) (λ_ s H fp pn=>kO (cK (bK (pv 0) W.P.cl (Wj W) ad aN (aA (pv 1) aF)))) (λ_ s H fp pn=>pv 0))
   (aE (bP (jU (pv 5) (λ_=>rfl)) (aH (aW (bY (aA bE (aA (cM (aU (gT W) hr aN (aA (pv 5) aF)) rfl) aF))))) aZ)
   (aE (bP (PW.pt (fW (jU (pv 4) (λ_=>rfl)) (eY (bB Ot (bG (aU (gT W) hr aN (aA (pv 4) aF)) W.P.cl (wJ W) ag aN) (bU By aS 22#0) (aX _)))))
    (aE (cG (i:=2) iJ.nd rfl 29#0 (aU (gT W) hr aN (aA (pv 4) aF)))
    (aH (aW (bY (aA bE (aA (cM (pv 2) rfl) (aA (bU oE (cM (pv 2) rfl) (bU Vz (bG (pv 2) W.P.cl (wJ W) ag aN) aS)) aF))))))) aZ)
   (aH (aW eH)))))))),?_};let sl:sizeLine=16777216:=sizeLine_eq;let ((dx,U),C,a1):=id hb;let nf:∀{H:Hp},H d=some (.dK (fK L y))->∀(o:Obj) (v:HO),H d≠some (.frz o v):=λe o v z=>by rw [e] at z;cases z
  let lp:L.length=y.length:=a1.length;refine {_,ρ,b,dx,_,ρ,U,ρ,_,ρ,b,pw,sh,d,sp,ev,le,nn,nt,mo,i₀,ρ,{(dx),U},av,?_};dsimp only [Dz];refine xL ?_;refine {_,ρ,b,N.CB,dx,_,_,ρ,U,W.B.cl,W.B.nB,ρ,.inr (.inr (.inl {ρ,.inl {_,C}})),d,_,ρ,ρ,C,λv nv=>?_};let M:aJ H (upd H v (dQ v d)):=aI nv;let e1:(upd H v (dQ v d)) v=some (dQ v d):=aB;generalize upd H v (dQ v d)=H1 at M e1 ⊢;refine {v,d,fK L y,ρ,e1,M _ _ C,λo=>?_};refine tX (M _ _ C) (cR (aJ.toT M) a1) lc Pc.free (λG c p I lv q l hl Z=>?_) λla G0 na fz m hA=>?_
  ·refine {_,ρ,p,I,_,ρ,l,ρ,p,_,_,_,_,lv,ρ,{(I),l},_,ρ,?_};rw [hl.non];exact Z
  refine {d,o,_,fz,nf C,?_};generalize upd G0 d (.dK (fK L y))=G at m hA ⊢;let s2:=M.trans m;clear M m na e1 fz;let al:=s2 _ _ U;let a3:=s2 _ _ C;let a9:=cR (aJ.toT s2) a1;let af:=tb.same s2;let ae:∀z ∈ y.zip L,fU N.CP G z.2 z.1:=cH a9;refine {_,ρ,_,As hA,fT (λY=>?_) (λY=>?_)}
  ·refine {_,ρ,la,_,_,ρ,vK hA,gE λz a=>ae z (v3.mp a).1,Dq Y,af,λj p c H3 kt a0 l hc u=>?_};let (a,bz):=iZ l hc u;let (lv,(I,S),_):=(ae _ (v3.mp a).1).sameT (dC.t af kt);refine {p,N.CP,I,_,_,ρ,S,W.P.cl,W.P.nN,ρ,by show 2<=sizeLine;decide,λr nr=>?_};exact t _ _ ((dC.pre s2 kt).same (aI nr)) (a0.same (aI nr)) (.pc (.inl (qB lp (λz=>v3) a bz)) aB)
  let a5:∀c ∈ y,c.free=false:=λc hc=>by
   let (p,l):=pM lp hc;exact Re (Ch Y) _ l
  clear hA;dsimp only [Dz];refine xL ?_;refine {_,ρ,b,N.CB,dx,_,_,ρ,al,W.B.cl,W.B.nB,ρ,.inr (.inr (.inl {ρ,.inl {_,a3}})),d,_,ρ,ρ,a3,λv nv=>?_};let M:aJ G (upd G v (dQ v d)):=aI nv;let e1:(upd G v (dQ v d)) v=some (dQ v d):=aB;generalize upd G v (dQ v d)=H1 at M e1 ⊢;refine {v,d,fK L y,ρ,e1,M _ _ a3,λo=>?_};refine tX (M _ _ a3) (cR (aJ.toT M) a9) lc Pc.lent (λG c p I lv q l hl Z=>?_) λll G0 na fz m hL=>?_
  ·refine {_,ρ,p,I,_,ρ,l,ρ,p,_,_,_,_,lv,ρ,{(I),l},_,ρ,?_};rw [hl.non];let e:(!c.o.isNone)=c.lent:=by unfold Pc.lent;cases c.o <;> rfl
   rw [e];exact Z
  refine {d,o,_,fz,nf C,?_};generalize upd G0 d (.dK (fK L y))=H2 at m hL ⊢;let s3:=s2.trans (M.trans m);clear M m na e1 fz al a3 a9 af ae s2;let ap:=s3 _ _ U;let aj:=cR (aJ.toT s3) a1;let a0:=tb.same s3;let an:∀z ∈ y.zip L,fU N.CP H2 z.2 z.1:=cH aj;refine Lw ?_;refine {_,ρ,ll,ρ,{_,cQ.of hL},?_};refine AH ((y.zip L).filter λx=>Pc.lent x.1) (λx=>V.ref x.2) (λx=>Pc.late i₀ x.1) (u8 (D5 _ _) (by rw [A1];omega)) (λG i m hi=>?_) (λG m=>?_) (λG i x G' m hy=>?_) (λG z q m a Z=>?_) λlt G na m hT=>?_
  ·exact {_,_,cQ.of (m _ _ hL),by rw [j1,e7 hi];rfl}
  ·exact {_,cQ.of (m _ _ hL),by rw [g7];exact g9 _}
  ·let (rfl,hx):=hy;let hx:=hx _ (cQ.of (m _ _ hL));rw [j1] at hx;cases a:((y.zip L).filter λx=>Pc.lent x.1)[i]? with
   | none=>rw [a] at hx;cases hx
   | some z=>
    rw [a] at hx;cases hx;exact {(rfl),z,ρ,ρ}
  ·let (lv,(I,l),hl):=(an z (v3.mp a).1).sameT (aJ.toT m);exact {_,ρ,z.2,I,_,ρ,l,ρ,_,ρ,z.2,_,_,_,_,i₀,lv,_,ρ,{(I),l},hl,_,ρ,Z}
  let s4:=s3.trans m;let ac:=m _ _ hL;clear hL m na an a0 aj ap s3;let aq:=s4 _ _ U;let a4:=tb.same s4;let O:∀z ∈ y.zip L,fU N.CP G z.2 z.1:=cH (cR (aJ.toT s4) a1);let el:∀z,z ∈ ((y.zip L).filter λx=>Pc.lent x.1).filter (λx=>Pc.late i₀ x.1)↔z ∈ y.zip L/\Pc.late i₀ z.1=true:=λz=>by
   rw [v3,v3];refine {λh=>{(h.1.1),h.2},λh=>{{h.1,?_},h.2}};let h2:=h.2;unfold Pc.late at h2;unfold Pc.lent;cases e:z.1.o with
   | none=>rw [e] at h2;cases h2
   | some _=>rfl
  refine {_,ρ,_,As hT,fT (λY=>?_) (λY=>?_)}
  ·refine {_,ρ,lt,_,_,ρ,vK hT,gE λz a=>O z ((el z).mp a).1,Dq Y,a4,λj p c H3 kt a0 l hc u=>?_};let (a,bz):=iZ l hc u;let (lv,(I,S),_):=(O _ ((el _).mp a).1).sameT (dC.t a4 kt);refine {p,N.CP,I,_,_,ρ,S,W.P.cl,W.P.nN,ρ,by show 2<=sizeLine;decide,λr nr=>?_};exact t _ _ ((dC.pre s4 kt).same (aI nr)) (a0.same (aI nr)) (.pc (.inr {a5,qB lp el a bz}) aB)
  let a8:∀c ∈ y,c.late i₀=false:=λc hc=>by
   let (p,l):=pM lp hc;cases e:c.late i₀ with
   | false=>rfl
   | true=>have:=(el (c,p)).mpr {(l),e};rw [Ch Y] at this;cases this
  clear hT el;refine {_,ρ,_,As ac,fT (λY=>?_) (λY=>?_)}
  ·refine {_,ρ,ll,_,_,ρ,vK ac,gE λz a=>O z (v3.mp a).1,Dq Y,a4,λj p c H3 kt aa l hc u=>?_};let (a,bz):=iZ l hc u;let bc:=qB lp (λz=>v3) a bz;let a2:=dC.t a4 kt;let (lv,(I,S),_):=(O _ (v3.mp a).1).sameT a2;refine {p,I,_,ρ,S,ρ,p,_,_,_,_,lv,ρ,{(I),S},_,ρ,b,N.CB,dx,_,_,ρ,a2.at aq,W.B.cl,W.B.nL,ρ,_,_,ρ,ρ,.inl {by decide,by decide},_,_,ρ,ρ,?_};refine {_,ρ,fT (λZ=>?_) (λZ=>?_)}
   ·refine {_,ρ,ll,_,_,ρ,vK (a2.at ac),gE λz a=>(O z (v3.mp a).1).sameT a2,Dq Y,aa,λj' p' c' H6 ai au aw T a7=>?_};let (ak,ao):=iZ aw T a7;let am:=qB lp (λz=>v3) ak ao;let (ax,(a6,J),_):=((O _ (v3.mp ak).1).sameT a2).sameT (dC.t aa ai);refine {_,ρ,p',N.CP,a6,_,_,ρ,J,W.P.cl,W.P.nN,ρ,_,ρ,p',N.CP,a6,_,_,ρ,J,W.P.cl,W.P.nH,ρ,_,ρ,p',a6,_,ρ,J,ρ,p',_,_,_,_,ax,ρ,{(a6),J},_,_,ρ,ρ,{by decide,by decide},_,_,ρ,ρ,by show 3<=sizeLine;decide,λr nr=>?_};let Z:=of_decide_eq_true Z;have:=Gy bc am;exact t _ _ ((dC.trans (dC.pre s4 kt) ai).same (aI nr)) (au.same (aI nr)) (.cut a5 a8 am ∎ aB)
   ·refine t _ _ (dC.pre s4 kt) aa (.non a5 a8 λc' T=>?_);have:=Gy bc T;let Z:=of_decide_eq_false (F4.mpr Z);omega
  ·refine cS ?_;refine t _ _ (λb o _ e=>s4 _ _ e) a4 (.non a5 a8 λc' T=>?_);let (p,l):=pM lp T.1;have:=v3 (p:=λx:Pc × Addr=>Pc.lent x.1).mpr {(l),T.2.1};rw [Ch Y] at this;cases this
def Zb (cs:List Pc) (i:Int) (c:Pc):Prop:=nU Pc.free cs c\/(∀c ∈ cs,c.free=false)/\nU (Pc.late i) cs c
def Zb.mem {i:Int} {c:Pc} (h:Zb cs i c):c ∈ cs:=by
 rcases h with h|⟨_,h⟩
 ·exact h.1
 ·exact h.1
inductive Dk (CB CP:Addr) (vs:List V) (H:Hp) (Q:VK) (E0_:XK):Prop|mk (b pw sh d:Addr) (sp ev le nn nt mo pl:Int) (ps:List Addr) (cs:List Pc) (k:Nat) (p:Addr) (c:Pc) (_:vs=[.ref b,.ref p,.int pl]) (_:6#0) (_:ps[k]?=some p) (_:cs[k]?=some c) (_:(cs.map Pc.n).Nodup) (_:(∀c ∈ cs,c.n<nn)) (_:cs.length<1000) (_:∀(q:Addr) (H':Hp),H q=none->(∀a o,H a=some o->a≠b->a≠d->a≠p->H' a=some o)->jI CB CP H' b pw sh d sp ev le (nn+1) nt mo (ps++[q]) (cs.set k { c with h:=pl }++[⟨nn,pl,c.h,pl,none⟩])->Q (.ref q) H')
def Ho (CB CP:Addr):Sp:=Dk CB CP
def Ei:aL ["self","number","place","piece"] ["self","number","place"] (aG vZ):=2#0
def xO:aL ["self","piece","place","other"] ["self","piece","place"] (aG rE):=2#0
def rT (W:3#0):eA P w K mg base dI N.CB "cut_off" 4 (Ho N.CB N.CP):=W.d62.of λ{f _} F=>by
 refine F.ok xO 11#0 (λa9 A a5 s H vs Q E hr h=>?_)
 ·let (b,pw,sh,d,sp,ev,le,C,nt,mo,g,ps,y,k,p,c,rfl,_):=h
  rfl
 ·intro X D
  let (b,pw,sh,d,sp,ev,le,C,nt,mo,g,ps,y,k,p,c,rfl,hb,hp,hc,nd,lt,ln,t):=h
  let a4:Room 3 (A.deeper (PyProof.Rows.envOfC "Book.cut_off" (aG rE) s.heap.objs.size f a9)):=hr.mono 8#0
  refine {_,aE (cG (i:=3) xO.nd rfl 29#0 (bK (pv 0) W.B.cl (Pb W) a4 aN (aA (pv 2) (aA (cM (pv 1) rfl) aF))))
   (aE (cY (pv 1) (pv 2) rfl) (aH (aW (pv 3)))),?_}
  let ((dx,J),a3,a6):=id hb
  let (c',Z,lv,(G,r),aa):=aM a6 hp
  rw [hc] at Z
  cases Z
  refine {_,ρ,b,dx,_,ρ,J,ρ,_,ρ,_,ρ,p,N.CP,G,_,_,ρ,r,W.P.cl,W.P.nH,ρ,b,pw,sh,d,sp,ev,le,C,nt,mo,g,c.h,ps,y,ρ,hb,lt,ln,λq H1 k1 nq a1=>?_}
  let S:p≠b:=aK r J 18#0
  let U:p≠d:=aK r a3 1#0
  let j:=k1 _ _ r S U
  refine {_,ρ,_,ρ,p,N.CP,G,_,ρ,j,W.P.cl,W.P.nH,(by show 5<1000;decide),?_}
  rw [Fk]
  let ((a2,T),Y,u):=id a1
  let lk:=(e8.mp hc).1
  let FR:=(e8.mp hp).1
  let O:(ps++[q])[k]?=some p:=by rw [B1 FR];exact hp
  let x:(y++[{(C),g,c.h,g,none}])[k]?=some c:=by rw [B1 lk];exact hc
  let es:(y++[({(C),g,c.h,g,none}:Pc)]).set k { c with h:=g }=y.set k { c with h:=g }++[{(C),g,c.h,g,none}]:=List.set_append_left _ _ lk
  let a8:((y++[({(C),g,c.h,g,none}:Pc)]).map Pc.n).Nodup:=by
   rw [u5,L8];refine {nd,by simp,λa ha b hb z=>?_};let (e,he,rfl):=v8.mp ha;simp only [x9,O6,v9] at hb;have:=lt e he;omega
  let I:∀a o,a≠p->H1 a=some o->(upd H1 p (.ins N.CP G (pf c.n c.l g c.m lv))) a=some o:=λa o n e=>by rw [aC n];exact e
  let tp:∀a ys,H1 a=some (.tup ys)->(upd H1 p (.ins N.CP G (pf c.n c.l g c.m lv))) a=some (.tup ys):=λa ys e=>I _ _ (aK e j 1#0) e;let (c2,M,ad,(ac,v),L):=aM u O;rw [x] at M;cases M;rw [j] at v;cases v;let pn:=gK u a8 O x (c':={ c with h:=g }) (λq' e' a0 ⟨a7,⟨dz,ha'⟩,hl'⟩=>{a7,{dz,I _ _ a0 ha'},hl'.move tp}) {lv,{(G),aB},L.move tp};refine {_,ρ,t q _ nq (λa o e n1 n2 n3=>I _ _ n3 (k1 _ _ e n1 n2)) {{a2,I _ _ S.symm T},?_,es ▸ pn}};rw [<- es,nO (c':={ c with h:=g }) x rfl];exact I _ _ U.symm Y
def HW:aL ["self","number","place"] ["self","number","place"] (aG Ni):=2#0
def tF (p:Int->Prop) [DecidablePred p]:V->Bool
 | .int i=>decide (p i)
 | _=>false
def Fu {p:Int->Prop} [DecidablePred p] {v:V} (h:tF p v=true):∃i,v=.int i/\p i:=by
 cases v with
 | int i=>exact {i,ρ,of_decide_eq_true h}
 | _=>cases h
def iA {v:V} (h:eW v=true):∃i,v=.int i:=by
 cases v with
 | int i=>exact {(i),ρ}
 | _=>cases h
def Cg {p:Int->Prop} [DecidablePred p] {v:V} (h:eW v=false):tF p v=false:=by
 cases v with
 | int i=>cases h
 | _=>rfl
inductive Yg (CB CM:Addr) (vs:List V) (H:Hp) (Q:VK) (E:XK):Prop|mk (b pw sh d:Addr) (sp ev le nn nt mo:Int) (v:V) (_:vs=[.ref b,v]) (_:Jz CB H b pw sh d sp ev le nn nt mo) (_:nQ H v) (_:(tF (mo<=·) v=true->Q .non H)) (_:(tF (mo<=·) v=false->E (.ref CM) none H))
def Lf (CB CM:Addr):Sp:=Yg CB CM
inductive Sl (CB CP CN:Addr) (vs:List V) (H:Hp) (Q:VK) (E:XK):Prop|mk (b pw sh d:Addr) (sp ev le nn nt mo:Int) (ps:List Addr) (cs:List Pc) (v:V) (_:vs=[.ref b,v]) (_:6#0) (_:nQ H v) (_:(cs.map Pc.n).Nodup) (_:(∀(k:Nat) (p:Addr) (c:Pc),ps[k]?=some p->cs[k]?=some c->v=.int c.n->Q 49#0 H)) (_:((∀c ∈ cs,v≠.int c.n)->E (.ref CN) none H))
def Ug (CB CP CN:Addr):Sp:=Sl CB CP CN
inductive Jr (CB CP CN CC:Addr) (vs:List V) (H:Hp) (Q:VK) (E:XK):Prop|mk (b pw sh d:Addr) (sp ev le nn nt mo:Int) (ps:List Addr) (cs:List Pc) (v u:V) (_:vs=[.ref b,v,u]) (_:6#0) (_:nQ H v) (_:nQ H u) (_:(cs.map Pc.n).Nodup) (_:((∀c ∈ cs,v≠.int c.n)->E (.ref CN) none H)) (_:(∀(k:Nat) (p:Addr) (c:Pc),ps[k]?=some p->cs[k]?=some c->v=.int c.n->(tF (λx=>c.m<x/\x<c.h/\(c.lent=true->c.m+ev<=x)) u=true->Q 49#0 H)/\(tF (λx=>c.m<x/\x<c.h/\(c.lent=true->c.m+ev<=x)) u=false->E (.ref CC) none H)))
def La (CB CP CN CC:Addr):Sp:=Jr CB CP CN CC
def wK (W:3#0):eA P w K mg base 50#0 N.CB "check_moment" 2 (Lf N.CB (c 1)):=W.d54.of λF=>by
 refine F.okE HV (λx H Q E h=>?_) (λn A e s H x Q E t h=>?_)
 ·let (b,u,p,d,m,l,y,z,q,o,v,rfl,_):=h
  rfl
 ·intro X D
  let (b,u,p,d,m,l,y,z,q,o,v,rfl,(k,r),g,j,f):=h
  refine {_,aH (bP (PW.pt (fF (cL (cK (aU (dN W) t aN (aA (pv 1) aF)))) (eF (bB gR (pv 1) 22#0 (aX _))))) (aH (dS rfl W.x1.ex rfl W.x1.mB cV (aA bE aF))) aZ),?_}
  refine {_,ρ,_,ρ,g,_,ρ,?_}
  cases hv:eW v with
  | false=>exact dE (dE {by show 1<=sizeLine;decide,f (Cg hv)})
  | true=>
   let (i,rfl):=iA hv
   refine cS {_,ρ,_,ρ,b,N.CB,k,_,_,ρ,r,W.B.cl,W.B.nM,ρ,_,_,ρ,ρ,_,ρ,?_}
   refine fT (λa=>{by show 1<=sizeLine;decide,f (decide_eq_false ?_)}) λa=>j (decide_eq_true ?_)
   ·have:=of_decide_eq_true a
    omega
   ·have:=of_decide_eq_false (F4.mpr a)
    omega
def yP (W:3#0):eA P w K mg base 50#0 N.CB "piece_with" 2 (Ug N.CB N.CP (c 6)):=W.d59.of λ{f _} F=>by
 refine F.okE Ly 11#0 (λo A u s H vs Q E G h=>?_)
 ·let (b,pw,Z,d,sp,T,O,S,nt,mo,q,r,v,rfl,_):=h
  rfl
 ·intro X D
  let (b,pw,Z,d,sp,T,O,S,nt,mo,q,r,v,rfl,hb,M,Y,U,J):=h
  let L:(A.deeper (PyProof.Rows.envOfC "Book.piece_with" (aG vY) s.heap.objs.size f o)).units+1<cLine:=by have:=G.un;omega
  let ((m,a),l,x):=id hb
  refine {_,aE (bP (PW.pt (fF (cL (cK (aU (dN W) G aN (aA (pv 1) aF)))) (eF (Br (uO L (pv 1) 22#0))))) (aH (dS rfl W.x6.ex rfl W.x6.mB cV (aA bE aF))) aZ) (aH (aW (mS L 22#0 (pv 1) 19#0))),?_}
  refine {_,ρ,_,ρ,M,_,ρ,?_}
  cases hv:eW v with
  | false=>exact dE (dE {by show 1<=sizeLine;decide,J λc _ z=>by rw [z] at hv;cases hv})
  | true=>
   let (i,rfl):=iA hv
   refine cS ?_
   by_cases z:∃c ∈ r,c.n=i
   ·let (c,t,rfl):=z
    let (k,C):=l7.mp t
    obtain⟨p,I⟩:∃p,q[k]?=some p:={_,e7 (by have:=x.length;have:=(e8.mp C).1;omega)}
    let g:=fD.k (k:=(Sum.inl c.n:bJ)) l
    rw [pY I C Y] at g
    refine {_,ρ,_,ρ,b,N.CB,m,_,_,ρ,a,W.B.cl,W.B.nB,ρ,d,_,ρ,g,_,ρ,cS ?_}
    exact {_,ρ,b,N.CB,m,_,_,ρ,a,W.B.cl,W.B.nB,ρ,_,ρ,d,_,ρ,g,U k p c I C rfl}
   ·let g:=fD.k (k:=(Sum.inl i:bJ)) l
    let nv:cW (fK q r) (Sum.inl i:bJ)=none:=iC.mpr λe he y=>z (by
     let (j,hj):=l7.mp he
     let (c,p,h1,_,rfl):=lU hj
     let y:(Sum.inl c.n:bJ)=Sum.inl i:=y
     exact {c,i5 h1,Sum.inl.inj y})
    rw [nv] at g
    refine {_,ρ,_,ρ,b,N.CB,m,_,_,ρ,a,W.B.cl,W.B.nB,ρ,d,_,ρ,g,_,ρ,dE {by show 1<=sizeLine;decide,J λc t y=>z {c,t,?_}}}
    injection y with y
    exact y.symm
inductive Ta (CB CP CM CN CL:Addr) (vs:List V) (H:Hp) (Q:VK) (E:XK):Prop|mk (b pw sh d:Addr) (sp ev le nn nt mo:Int) (ps:List Addr) (cs:List Pc) (v u:V) (_:vs=[.ref b,v,u]) (_:6#0) (_:nQ H v) (_:nQ H u) (_:(tF (mo<=·) u=false->E (.ref CM) none H)) (_:(tF (mo<=·) u=true->tF (λx=>0<=x/\x<nt) v=false->E (.ref CN) none H)) (_:38#0) (_:(tF (mo<=·) u=true->∀tk,v=.int tk->0<=tk->tk<nt->∀(k:Nat) (p:Addr) (c:Pc),ps[k]?=some p->cs[k]?=some c->c.has tk=true->30#0->∀H',aJ H H'->Q 49#0 H'))
def Ed (CB CP CM CN CL:Addr):Sp:=Ta CB CP CM CN CL
theorem zJ {α:Type} (p:α->Bool):∀l:List α,(∀x ∈ l,p x=false)\/∃(k:Nat) (x:α),l[k]?=some x/\p x=true/\∀j e,l[j]?=some e->j<k->p e=false
 | []=>.inl λx h=>by cases h
 | a::l=>by
  cases e:p a with
  | true=>exact .inr {0,a,ρ,e,λj _ _ h=>absurd h (L1 _)}
  | false=>
   rcases zJ p l with h|⟨k,x,d,f,i⟩
   ·exact .inl λx g=>(i3.mp g).elim (λz=>by rw [z];exact e) (h x)
   ·refine .inr {k+1,x,d,f,λj y b m=>?_}
    cases j with
    | zero=>cases b;exact e
    | succ j=>exact i j y b ∎
def rQ (W:3#0):eA P w K mg base 50#0 N.CB "held_piece" 3 (Ed N.CB N.CP (c 1) (c 2) (c 3)):=W.d55.of λF=>by
 refine F.okE Mb 11#0 (λa6 A a3 s H vs Q E hr h=>?_)
 ·let (b,pw,sh,d,sp,ev,le,nn,nt,mo,y,l,v,u,rfl,_):=h
  rfl
 ·intro X D
  let (b,pw,sh,d,sp,ev,le,nn,nt,mo,y,l,v,u,rfl,hb,kv,ku,q1,q2,q3,q4):=h
  refine {_,aE (dY (bK (pv 0) W.B.cl (wK W) hr 54#0 (aA (pv 2) aF)))
   (aE (bP (PW.pt (fF (cL (cK (aU (dN W) hr aN (aA (pv 1) aF)))) (eF (cL (gG jJ gR aS (pv 1) 22#0))))) (aH (dS rfl W.x2.ex rfl W.x2.mB cV (aA bE aF))) aZ)
   (aE (yE (eG P7 rfl (pQ (mQ 22#0)) (aP (i:=3) Mb.nd rfl 29#0)
    (aH (bP (cK (bK (pv 3) W.P.cl (Wq W) hr aN (aA (pv 1) aF))) (aH (aW (pv 3))) aZ)))) (aH (dS rfl W.x3.ex rfl W.x3.mB cV (aA bE aF))))),?_}
  let ((dx,r),C,a0):=id hb
  let nf:∀(o:Obj) (v:HO),H d≠some (.frz o v):=λo v z=>by rw [C] at z;cases z
  refine {_,ρ,b,dx,_,ρ,r,ρ,_,ρ,b,pw,sh,d,sp,ev,le,nn,nt,mo,u,ρ,{(dx),r},ku,λhu=>?_,q1}
  refine {_,ρ,_,ρ,kv,_,ρ,?_}
  let f:1<=sizeLine:=by decide
  cases hv:eW v with
  | false=>exact dE (dE {f,q2 hu (Cg hv)})
  | true=>
  let (t,rfl):=iA hv
  refine cS ?_
  by_cases Z:0<=t
  rotate_left
  ·refine {_,ρ,_,_,ρ,ρ,_,ρ,cO (decide_eq_false Z) {_,ρ,dE {f,q2 hu (decide_eq_false λz=>Z z.1)}}}
  refine {_,ρ,_,_,ρ,ρ,_,ρ,cN (decide_eq_true Z) {_,ρ,b,N.CB,dx,_,_,ρ,r,W.B.cl,W.B.nT,ρ,_,_,ρ,ρ,_,ρ,?_}}
  by_cases t1:t<nt
  rotate_left
  ·rw [decide_eq_false t1]
   exact dE {f,q2 hu (decide_eq_false λz=>t1 z.2)}
  rw [decide_eq_true t1]
  refine cS ?_
  refine {_,ρ,b,N.CB,dx,_,_,ρ,r,W.B.cl,W.B.nB,ρ,.inr (.inr (.inl {ρ,.inl {_,C}})),d,_,ρ,ρ,C,λv nv=>?_}
  let s1:aJ H (upd H v (dQ v d)):=aI nv
  let e1:(upd H v (dQ v d)) v=some (dQ v d):=aB
  generalize upd H v (dQ v d)=U at s1 e1 ⊢
  let p:=s1 _ _ C
  let a2:=cR (aJ.toT s1) a0
  refine {v,d,fK y l,ρ,e1,p,λo=>?_}
  let fz:(upd U d (.frz o (.dK (fK y l)))) d=some (.frz o (.dK (fK y l))):=aB
  let kp:∀a u,U a=some u->a≠d->(upd U d (.frz o (.dK (fK y l)))) a=some u:=λa u e n=>by rw [aC n];exact e
  let bk:aJ H (upd (upd U d (.frz o (.dK (fK y l)))) d (.dK (fK y l))):=s1.trans (nX p (aJ.refl _))
  generalize upd U d (.frz o (.dK (fK y l)))=H2 at fz kp bk ⊢
  obtain⟨m,hm,g,Y⟩:∃m,m<=l.length/\(∀j e,l[j]?=some e->j<m->e.has t=false)/\∀c,l[m]?=some c->c.has t=true:=by
   rcases zJ (λc:Pc=>c.has t) l with h|⟨k,c,J,h2,h3⟩
   ·exact⟨l.length,g9 _,λj e he _=>h e (i5 he),λc M=>by have:=(e8.mp M).1;omega⟩
   ·exact {k,C5 (e8.mp J).1,h3,λL M=>by rw [J] at M;cases M;exact h2}
  refine zF (a:=d) (o:=o) (kvs:=fK y l) (λi σ G=>i<=m/\G=H2/\∃x,σ=[some (.ref b),some (.int t),some u,x]) {i9 _,ρ,_,ρ} (λi σ G _ h=>by rw [h.2.1];exact fz) ?_ ?_
  ·rintro i e σ G he ⟨a1,rfl,x,rfl⟩;let (L,p',J,h2,rfl):=lU he;let (a5,O,lv,(dp,S),a4):=aM a2 h2;rw [J] at O;cases O;let I:=kp _ _ S (aK S p 1#0);let T:jO G lv L.o:=a4.move λq ys h=>kp _ _ h (aK h p 1#0);refine nF ?_;refine {_,ρ,p',dp,_,ρ,I,ρ,_,ρ,p',_,_,_,_,t,lv,L.o,ρ,{(dp),I},T,_,ρ,?_};by_cases z:i=m
   ·subst z;exact cN (Y L J) {_,ρ,d,o,_,fz,nf,q4 hu t rfl Z t1 i p' L h2 J (Y L J) g _ bk}
   ·exact cO (g i L J ∎) { ∎,ρ,_,ρ}
  ·rintro σ G ⟨a1,rfl,x,rfl⟩;rw [jB a0] at a1;refine {d,o,_,fz,nf,f,q3 hu t rfl Z t1 (λc M=>?_) _ bk};let (j,hj):=l7.mp M;exact g j c hj (by have:=(e8.mp hj).1;omega)
def Qh {r s:Addr} {b pw sh d p t:Addr} {sp q j nn nt mo:Int} {k:Nat} {c:Pc} {E:V} {u:Addr} (h:jI r s H b pw sh d sp q j nn nt mo ps cs) (F:(cs.map Pc.n).Nodup) (G:ps[k]?=some p) (C:cs[k]?=some c)
  (g:H p=some (.ins s t (pf c.n c.l c.h c.m E))) (f:H b=some (.ins r u (bf pw sh d sp q j nn nt mo))) (i:Int):
  p≠b/\jI r s (upd (upd H p (.ins s t (pf c.n c.l c.h c.m .non))) b (.ins r u (bf pw sh d sp q j nn nt i))) b pw sh d sp q j nn nt i ps (cs.set k { c with o:=none }):=by
 let v:p≠b:=aK g f 18#0;refine {v,{(u),aB},?_,?_}
 ·rw [nO (c':={ c with o:=none }) C rfl,aC (aK h.dc f 1#0),aC (aK h.dc g 1#0)];exact h.dc
 ·let B:∀a o,H a=some o->a≠p->a≠b->(upd (upd H p (.ins s t (pf c.n c.l c.h c.m .non))) b (.ins r u (bf pw sh d sp q j nn nt i))) a=some o:=λa o e I J=>by rw [aC J,aC I];exact e
  let D:∀a x,H a=some (.tup x)->(upd (upd H p (.ins s t (pf c.n c.l c.h c.m .non))) b (.ins r u (bf pw sh d sp q j nn nt i))) a=some (.tup x):=λa x e=>B _ _ e (aK e g 1#0) (aK e f 1#0);refine gK h.pc F G C (λL M y ⟨A,⟨dz,ha'⟩,hl'⟩=>{A,{dz,B _ _ ha' y ?_},hl'.move D}) {.non,{t,by rw [aC v,aB]},trivial};exact aK ha' f 18#0
inductive Th (CB CP CM CN CL:Addr) (vs:List V) (H:Hp) (Q:VK) (E:XK):Prop|mk (b pw sh d:Addr) (sp ev le nn nt mo:Int) (ps:List Addr) (cs:List Pc) (v u:V) (_:vs=[.ref b,v,u]) (_:6#0) (_:nQ H v) (_:nQ H u) (_:(cs.map Pc.n).Nodup) (_:(tF (mo<=·) u=false->E (.ref CM) none H)) (_:(tF (mo<=·) u=true->tF (λx=>0<=x/\x<nt) v=false->E (.ref CN) none H)) (_:38#0) (_:(∀i tk,u=.int i->mo<=i->v=.int tk->0<=tk->tk<nt->∀(k:Nat) (p:Addr) (c:Pc),ps[k]?=some p->cs[k]?=some c->c.has tk=true->30#0 ->
  ∀H',(∀a o,H a=some o->a≠b->a≠p->H' a=some o)->jI CB CP H' b pw sh d sp ev le nn nt i ps (cs.set k { c with o:=none })->Q .non H'))
def Ee (CB CP CM CN CL:Addr):Sp:=Th CB CP CM CN CL
def Ml:aL ["self","token","moment","piece"] ["self","token","moment"] (aG Nj):=2#0
def Pu (W:3#0):eA P w K mg base 50#0 N.CB "give_back" 4 (Ee N.CB N.CP (c 1) (c 2) (c 3)):=W.d47.of λF=>by
 refine F.okE Ml 11#0 (λa0 A y s H vs Q E hr h=>?_)
 ·let (b,S,O,d,Y,M,I,L,T,U,G,J,v,u,rfl,_):=h
  rfl
 ·intro X D
  let (b,S,O,d,Y,M,I,L,T,U,G,J,v,u,rfl,t,Z,ku,nd,q1,q2,q3,q4):=h
  refine {_,aE (cG (i:=3) Ml.nd rfl 29#0 (bK (pv 0) W.B.cl (rQ W) hr 54#0 (aA (pv 1) (aA (pv 2) aF))))
   (aE (cY (pv 3) eH rfl) (aH (cY (pv 0) (pv 2) rfl))),?_}
  let (C,j):=t.ob
  refine {_,ρ,b,C,_,ρ,j,ρ,_,ρ,_,ρ,b,S,O,d,Y,M,I,L,T,U,G,J,v,u,ρ,t,Z,ku,q1,q2,q3,λhu tk hv t0 t1 k p c x q hh hf H1 r=>?_}
  let (i,rfl,hi):=Fu hu
  have l:=t.sameT (aJ.toT r)
  have f:=r _ _ j
  let (c',m,lv,(dp,g),_):=aM l.pc x
  rw [q] at m
  cases m
  let (n,bk):=Qh l nd x q g f i
  refine {_,ρ,p,N.CP,dp,_,ρ,g,W.P.cl,W.P.nD,(by show 5<1000;decide),?_}
  rw [pR]
  refine {_,ρ,_,ρ,b,N.CB,C,_,ρ,(by rw [aC n.symm];exact f),W.B.cl,W.B.nM,(by show 9<1000;decide),?_}
  rw [oP]
  exact q4 i tk rfl hi hv t0 t1 k p c x q hh hf _ (λa o e n1 n2=>by rw [aC n1,aC n2];exact r _ _ e) bk
def Ie (W:3#0):eA P w K mg base 50#0 N.CB "piece_to_cut" 3 (La N.CB N.CP (c 6) (c 7)):=W.d57.of λ{f _} F=>by
 refine F.okE Ei 11#0 (λO A G s H vs Q E hr h=>?_)
 ·let (b,pw,sh,d,sp,ev,Y,nn,nt,mo,T,Z,v,u,rfl,_):=h
  rfl
 ·intro X D
  let (b,pw,sh,d,sp,ev,Y,nn,nt,mo,T,Z,v,u,rfl,hb,kv,ku,nd,q1,q2):=h
  let q:Room 1 (A.deeper (PyProof.Rows.envOfC "Book.piece_to_cut" (aG vZ) s.heap.objs.size f O)):=hr.mono 8#0
  refine {_,aE (cG (i:=3) Ei.nd rfl 29#0 (bK (pv 0) W.B.cl (yP W) hr 54#0 (aA (pv 1) aF)))
   (aE (bP (PW.pt (fF (cL (cK (aU (dN W) q aN (aA (pv 2) aF)))) (eF (cL (gG gR gR (cM (pv 3) rfl) (pv 2) (cM (pv 3) rfl)))))) (aH (dS rfl W.x7.ex rfl W.x7.mB cV (aA bE aF))) aZ)
   (aE (bP (PW.pt (fW (cK (bG (pv 3) W.P.cl (mZ W) q aN)) (eY (bB gR (pv 2) (bU eI (cM (pv 3) rfl) 22#0) (aX _))))) (aH (dS rfl W.x7.ex rfl W.x7.mB cV (aA bE aF))) aZ)
   (aH (aW (pv 3))))),?_}
  let ((S,l),a0,L):=id hb
  let a:1<=sizeLine:=by decide
  refine {_,ρ,b,S,_,ρ,l,ρ,_,ρ,b,pw,sh,d,sp,ev,Y,nn,nt,mo,T,Z,v,ρ,hb,kv,nd,λk p c hp hc M=>?_,q1}
  let (qa,C):=q2 k p c hp hc M
  let (c',t,U,(j,g),I):=aM L hp
  rw [hc] at t
  cases t
  refine {_,ρ,_,ρ,ku,_,ρ,?_}
  cases hv:eW u with
  | false=>exact dE (dE {a,C (Cg hv)})
  | true=>
  let (x,rfl):=iA hv
  refine cS ?_
  by_cases r:c.m<x
  rotate_left
  ·exact {_,ρ,p,N.CP,j,_,_,ρ,g,W.P.cl,W.P.nM,ρ,_,ρ,_,_,ρ,ρ,_,ρ,cO (decide_eq_false r) {_,ρ,dE {a,C (decide_eq_false λz=>r z.1)}}}
  refine {_,ρ,p,N.CP,j,_,_,ρ,g,W.P.cl,W.P.nM,ρ,_,ρ,_,_,ρ,ρ,_,ρ,cN (decide_eq_true r) {_,ρ,p,N.CP,j,_,_,ρ,g,W.P.cl,W.P.nH,ρ,_,_,ρ,ρ,_,ρ,?_}}
  by_cases n:x<c.h
  rotate_left
  ·rw [decide_eq_false n]
   exact dE {a,C (decide_eq_false λz=>n z.2.1)}
  rw [decide_eq_true n]
  refine cS ?_
  refine {_,ρ,p,j,_,ρ,g,ρ,p,_,_,_,_,U,ρ,{(j),g},_,ρ,?_}
  let e:(!decide (U=.non))=c.lent:=by
   rw [I.non];unfold Pc.lent;cases c.o <;> rfl
  rw [e];refine fT (λJ=>?_) λJ=>cS {_,ρ,qa (decide_eq_true {r,n,λz=>absurd z J})};refine {_,ρ,_,ρ,p,N.CP,j,_,_,ρ,g,W.P.cl,W.P.nM,ρ,_,ρ,b,N.CB,S,_,_,ρ,l,W.B.cl,W.B.nE,ρ,_,_,ρ,ρ,_,_,ρ,ρ,_,ρ,?_};refine fT (λz=>{a,C (decide_eq_false λy=>?_)}) λz=>{_,ρ,qa (decide_eq_true {r,n,λ_=>?_})}
  ·have:=of_decide_eq_true z;have:=y.2.2 J;omega
  ·have:=of_decide_eq_false (F4.mpr z);omega
def Pc.unt (c:Pc):Bool:=c.free && decide (c.m=c.l)
inductive FA (C:Addr) (vs:List V) (H:Hp) (Q:VK) (E0_:XK):Prop|mk (p:Addr) (c:Pc) (_:vs=[.ref p]) (_:fU C H p c) (_:Q (.bl c.unt) H)
def HI (C:Addr):Sp:=FA C
inductive Yp (CB CP:Addr) (vs:List V) (H:Hp) (Q:VK) (E0_:XK):Prop|mk (b pw sh d:Addr) (sp ev le nn nt mo l:Int) (ps:List Addr) (cs:List Pc) (_:vs=[.ref b,.int l]) (_:6#0) (_:(∀(k:Nat) (p:Addr) (c:Pc),ps[k]?=some p->cs[k]?=some c->c.l=l->∀H',aJ H H'->Q 49#0 H')) (_:((∀c ∈ cs,c.l≠l)->∀H',aJ H H'->Q .non H'))
def BP (CB CP:Addr):Sp:=Yp CB CP
def HR:aL ["self"] ["self"] (aG oV):=2#0
def DK (W:3#0):eA P w K mg base dI N.CP "is_untouched" 3 (HI N.CP):=W.d32.of λF=>by
 refine F.ok HR (λk H Q E h=>?_) (λg A d s H k Q E i h=>?_)
 ·let (p,c,rfl,_):=h
  rfl
 ·intro X D
  let (p,c,rfl,(f,(a,b),j),q):=h
  refine {_,aH (aW (eR (bG (pv 0) W.P.cl (Fq W) i aN) (fX (dA eT 22#0 22#0 (aX _))))),?_}
  refine {_,ρ,p,a,_,ρ,b,ρ,p,_,_,_,_,f,ρ,{(a),b},_,ρ,?_}
  let e:(decide (f=.non) && !decide (c.m=c.h))=c.free:=by rw [j.non];rfl
  rw [e]
  unfold Pc.unt at q
  refine fT (λh=>?_) (λh=>?_)
  ·refine {_,ρ,p,N.CP,a,_,_,ρ,b,W.P.cl,W.P.nM,ρ,_,ρ,p,N.CP,a,_,_,ρ,b,W.P.cl,W.P.nL,ρ,ρ,?_}
   rw [h,Bool.true_and] at q
   let z:decide (V.int c.m=V.int c.l)=decide (c.m=c.l):=by
    by_cases y:c.m=c.l
    ·rw [y,decide_eq_true rfl,decide_eq_true rfl]
    ·rw [decide_eq_false y,decide_eq_false λx=>y (by injection x)]
   rw [z];exact q
  ·let h:=F4.mpr h;rw [h] at q;exact q
def Me:aL ["self","low","piece"] ["self","low"] (aG Nh):=2#0
def Fp (W:3#0):eA P w K mg base dI N.CB "piece_from" 1 (BP N.CB N.CP):=W.d60.of λF=>by
 refine F.ok Me 11#0 (λa2 A Z s H vs Q E hr h=>?_)
 ·let (b,pw,sh,d,sp,ev,le,nn,nt,mo,l,g,f,rfl,_):=h
  rfl
 ·intro X D
  let (b,pw,sh,d,sp,ev,le,nn,nt,mo,l,g,f,rfl,hb,q1,q2):=h
  refine {_,aE (yE (eG z5 rfl (pQ (mQ 22#0)) (aP (i:=2) Me.nd rfl 29#0)
    (aH (bP (bB eT (cM (pv 2) rfl) (pv 1) (aX _)) (aH (aW (pv 2))) aZ)))) (aH (aW eH)),?_}
  let ((dx,S),m,L):=id hb
  have nf:∀(o:Obj) (v:HO),H d≠some (.frz o v):=λo v z=>by rw [m] at z;cases z
  refine {_,ρ,b,N.CB,dx,_,_,ρ,S,W.B.cl,W.B.nB,ρ,.inr (.inr (.inl {ρ,.inl {_,m}})),d,_,ρ,ρ,m,λv nv=>?_}
  have M:aJ H (upd H v (dQ v d)):=aI nv
  have e1:(upd H v (dQ v d)) v=some (dQ v d):=aB
  generalize upd H v (dQ v d)=J at M e1 ⊢
  have p:=M _ _ m
  have T:=cR (aJ.toT M) L
  refine {v,d,fK g f,ρ,e1,p,λo=>?_}
  have O:(upd J d (.frz o (.dK (fK g f)))) d=some (.frz o (.dK (fK g f))):=aB
  have kp:∀a u,J a=some u->a≠d->(upd J d (.frz o (.dK (fK g f)))) a=some u:=λa u e n=>by rw [aC n];exact e
  have Y:aJ H (upd (upd J d (.frz o (.dK (fK g f)))) d (.dK (fK g f))):=M.trans (nX p (aJ.refl _))
  generalize upd J d (.frz o (.dK (fK g f)))=H2 at O kp Y ⊢
  refine zF (a:=d) (o:=o) (kvs:=fK g f) (λi σ G=>(∀j e,f[j]?=some e->j<i->e.l≠l)/\G=H2/\∃x,σ=[some (.ref b),some (.int l),x]) {λ_ _ _ h=>absurd h (L1 _),ρ,_,ρ} (λi σ G _ h=>by rw [h.2.1];exact O) ?_ ?_
  ·rintro i e σ G he ⟨r,rfl,x,rfl⟩
   let (c',p',h1,h2,rfl):=lU he
   let (a0,t,lv,(dp,C),a1):=aM T h2
   rw [h1] at t
   cases t
   have I:=kp _ _ C (aK C p 1#0)
   refine nF ?_
   refine {_,ρ,p',N.CP,dp,_,_,ρ,I,W.P.cl,W.P.nL,ρ,_,ρ,ρ,_,ρ,?_}
   refine fT (λk=>?_) (λk=>?_)
   ·have k:=of_decide_eq_true k
    injection k with k
    exact {_,ρ,d,o,_,O,nf,q1 i p' c' h2 h1 k _ Y}
   ·refine {λj e' q U=>?_,ρ,_,ρ}
    by_cases z:j=i
    ·subst z
     rw [h1] at q
     cases q
     exact λy=>k (decide_eq_true (by rw [y]))
    ·exact r j e' q ∎
  ·rintro σ G ⟨r,rfl,x,rfl⟩
   refine {d,o,_,O,nf,q2 (λc k=>?_) _ Y}
   let (j,U):=l7.mp k
   exact r j c U (by rw [jB L];exact(e8.mp U).1)
inductive Jq (CB CP CN CJ:Addr) (vs:List V) (H:Hp) (Q:VK) (E:XK):Prop|mk (b pw sh d:Addr) (sp ev le nn nt mo:Int) (ps:List Addr) (cs:List Pc) (v:V) (_:vs=[.ref b,v]) (_:6#0) (_:nQ H v) (_:(cs.map Pc.n).Nodup) (_:((∀c ∈ cs,v≠.int c.n)->E (.ref CN) none H)) (_:(∀(k:Nat) (p:Addr) (c:Pc),ps[k]?=some p->cs[k]?=some c->v=.int c.n->∀H',aJ H H' ->
  ((∀e ∈ cs,e.l≠c.h)->E (.ref CJ) none H')/\(∀(j:Nat) (e:Pc),cs[j]?=some e->e.l=c.h->(e.unt=true->Q 49#0 H')/\(e.unt=false->E (.ref CJ) none H'))))
def Kz (CB CP CN CJ:Addr):Sp:=Jq CB CP CN CJ
def rB:aL ["self","number","piece","other"] ["self","number"] (aG mK):=2#0
def Ic (W:3#0):eA P w K mg base 50#0 N.CB "piece_to_join" 4 (Kz N.CB N.CP (c 6) (c 8)):=W.d58.of λ{f _} F=>by
 refine F.okE rB 11#0 (λt A a0 s H vs Q E T h=>?_)
 ·let (b,pw,sh,d,sp,O,L,J,nt,mo,C,I,v,rfl,_):=h
  rfl
 ·intro X D
  let (b,pw,sh,d,sp,O,L,J,nt,mo,C,I,v,rfl,x,kv,nd,q1,q2):=h
  let Y:Room 2 (A.deeper (PyProof.Rows.envOfC "Book.piece_to_join" (aG mK) s.heap.objs.size f t)):=T.mono 8#0
  let U:Room 1 (A.deeper (PyProof.Rows.envOfC "Book.piece_to_join" (aG mK) s.heap.objs.size f t)):=T.mono 8#0
  refine {_,aE (cG (i:=2) rB.nd rfl 29#0 (bK (pv 0) W.B.cl (yP W) Y 54#0 (aA (pv 1) aF)))
   (aE (cG (i:=3) rB.nd rfl 29#0 (bK (pv 0) W.B.cl (Fp W) U aN (aA (cM (pv 2) rfl) aF)))
   (aE (bP (PW.pt (fF (bB Bz (pv 3) eH (aX _)) (eF (cL (cK (bG (pv 3) W.P.cl (DK W) T aN)))))) (aH (dS rfl W.x8.ex rfl W.x8.mB cV (aA bE aF))) aZ)
   (aH (aW (pv 2))))),?_}
  let ((dx,l),a2,a1):=id x
  let a:1<=sizeLine:=by decide
  refine {_,ρ,b,dx,_,ρ,l,ρ,_,ρ,b,pw,sh,d,sp,O,L,J,nt,mo,C,I,v,ρ,x,kv,nd,λk p c hp S r=>?_,q1}
  let (c',q,lv,(dp,y),a3):=aM a1 hp
  rw [S] at q
  cases q
  refine {_,ρ,b,dx,_,ρ,l,ρ,_,ρ,p,N.CP,dp,_,_,ρ,y,W.P.cl,W.P.nH,ρ,b,pw,sh,d,sp,O,L,J,nt,mo,c.h,C,I,ρ,x,λj o e ho he el M u=>?_,λno M u=>?_}
  ·let (qa,qb):=(q2 k p c hp S r M u).2 j e he el
   let G:=x.sameT (aJ.toT u)
   let (e',n,lo,(m,g),Z):=aM G.pc ho
   rw [he] at n
   cases n
   refine {_,ρ,ρ,_,ρ,cO rfl {_,ρ,o,m,_,ρ,g,ρ,o,e,ρ,{lo,{(m),g},Z},_,ρ,?_}}
   cases hu:e.unt with
   | false=>exact dE {a,qb hu}
   | true=>exact cS {_,ρ,qa hu}
  ·exact {_,ρ,ρ,_,ρ,dE (dE {a,(q2 k p c hp S r M u).1 no})}
def Ji {κ:Type} [DecidableEq κ] {kvs:List (κ × V)} {k:κ} (h:∀e ∈ kvs,e.1≠k):iR kvs k=kvs:=R7.mpr λe a=>decide_eq_true (h e a)
def Xr {e:bJ × V} (h:e ∈ fK ps cs):∃c ∈ cs,e.1=Sum.inl c.n:=by
 let (i,a):=l7.mp h;let (c,p,b,_,rfl):=lU a;exact {c,l7.mpr {(i),b},ρ}
theorem zR:∀{ps:List Addr} {cs:List Pc} {j:Nat} {p:Addr} {c:Pc},ps[j]?=some p->cs[j]?=some c->(cs.map Pc.n).Nodup->iR (fK ps cs) (Sum.inl c.n:bJ)=fK (ps.eraseIdx j) (cs.eraseIdx j)
 | [],_,_,_,_,h,_,_=>by simp at h
 | _::_,[],_,_,_,_,h,_=>by simp at h
 | p::ps,c::cs,0,_,_,h1,h2,nd=>by
  cases h1
  cases h2
  rw [x9,A0] at nd
  show iR ((Sum.inl c.n,V.ref p)::fK ps cs) _=fK ps cs
  unfold iR
  rw [F8,if_neg 9#0]
  exact Ji λe f z=>by
   let (g,a,y):=Xr f
   rw [y] at z
   injection z with z
   exact nd.1 (v8.mpr {(g),a,z})
 | p::ps,c::cs,j+1,q,e,h1,h2,nd=>by
  rw [x9,A0] at nd
  have d:c.n≠e.n:=λz=>nd.1 (v8.mpr {e,l7.mpr {(j),h2},z.symm})
  show iR ((Sum.inl c.n,V.ref p)::fK ps cs) _=(Sum.inl c.n,V.ref p)::fK (ps.eraseIdx j) (cs.eraseIdx j)
  have b:iR (fK ps cs) (Sum.inl e.n:bJ)=fK (ps.eraseIdx j) (cs.eraseIdx j):=zR (j:=j) (p:=q) h1 h2 nd.2
  rw [<- b]
  unfold iR
  rw [F8,if_pos (by simp [d])]
theorem mV {α β:Type} {F:α->β->Prop}:∀{xs:List α} {a:List β} (j:Nat),Paired F xs a->Paired F (xs.eraseIdx j) (a.eraseIdx j)
 | _,_,_,.nil=>.nil
 | _,_,0,.cons _ t=>t
 | _,_,j+1,.cons r t=>.cons r (mV j t)
inductive Yl (CB CP CN CJ:Addr) (vs:List V) (H:Hp) (Q:VK) (E:XK):Prop|mk (b pw sh d:Addr) (sp ev le nn nt mo:Int) (ps:List Addr) (cs:List Pc) (v:V) (_:vs=[.ref b,v]) (_:6#0) (_:nQ H v) (_:(cs.map Pc.n).Nodup) (_:(∀(i j:Nat) (x y:Pc),cs[i]?=some x->cs[j]?=some y->x.l=y.l->i=j)) (_:((∀c ∈ cs,v≠.int c.n)->E (.ref CN) none H)) (_:(∀(k:Nat) (p:Addr) (c:Pc),ps[k]?=some p->cs[k]?=some c->v=.int c.n ->
  ((∀e ∈ cs,e.l≠c.h)->∀H',aJ H H'->E (.ref CJ) none H')/\(∀(j:Nat) (e:Pc),cs[j]?=some e->e.l=c.h->(e.unt=false->∀H',aJ H H'->E (.ref CJ) none H') /\
   (e.unt=true->∀H',(∀a o,H a=some o->a≠d->a≠p->H' a=some o)->jI CB CP H' b pw sh d sp ev le nn nt mo (ps.eraseIdx j) ((cs.set k { c with h:=e.h }).eraseIdx j)->Q .non H'))))
def Lh (CB CP CN CJ:Addr):Sp:=Yl CB CP CN CJ
def Bj:aL ["self","number","piece","other"] ["self","number"] (aG Bm):=2#0
def Wn (W:3#0):eA P w K mg base 50#0 N.CB "join" 5 (Lh N.CB N.CP (c 6) (c 8)):=W.d49.of λ{f _} F=>by
 refine F.okE Bj 11#0 (λa6 A a7 s H vs Q E hr h=>?_)
 ·let (b,pw,sh,d,sp,ev,le,nn,nt,mo,ps,Y,v,rfl,_):=h
  rfl
 ·intro X D
  let (b,pw,sh,d,sp,ev,le,nn,nt,mo,ps,Y,v,rfl,hb,kv,nd,ul,q1,q2):=h
  let ac:Room 1 (A.deeper (PyProof.Rows.envOfC "Book.join" (aG Bm) s.heap.objs.size f a6)):=hr.mono 8#0
  refine {_,aE (cG (i:=2) Bj.nd rfl 29#0 (bK (pv 0) W.B.cl (Ic W) hr 54#0 (aA (pv 1) aF)))
   (aE (cG (i:=3) Bj.nd rfl 29#0 (bK (pv 0) W.B.cl (Fp W) ac aN (aA (cM (pv 2) rfl) aF)))
   (aE (cY (pv 2) (cM (pv 3) rfl) rfl)
   (aH (dY (Og 22#0 (cM (pv 3) rfl) 39#0))))),?_}
  let ((dx,a5),ag,ah):=id hb
  refine {_,ρ,b,dx,_,ρ,a5,ρ,_,ρ,b,pw,sh,d,sp,ev,le,nn,nt,mo,ps,Y,v,ρ,hb,kv,nd,q1,λk p c hp L a9 H1 s1=>?_}
  let (qa,qb):=q2 k p c hp L a9
  refine {λno=>qa no H1 s1,λj e C el=>{λhu=>?_,λhu=>(qb j e C el).1 hu H1 s1}}
  let q:=(qb j e C el).2 hu
  let T:=hb.sameT (aJ.toT s1)
  let G:=s1 _ _ a5
  let (c',a4,lv,(S,a1),ad):=aM T.pc hp
  rw [L] at a4
  cases a4
  refine {_,ρ,b,dx,_,ρ,G,ρ,_,ρ,p,N.CP,S,_,_,ρ,a1,W.P.cl,W.P.nH,ρ,b,pw,sh,d,sp,ev,le,nn,nt,mo,c.h,ps,Y,ρ,T,λj' o e' ho O aa H2 s2=>?_,λno=>absurd el (no e (l7.mpr {(j),C}))}
  cases ul j j' e e' C O (el.trans aa.symm)
  rw [C] at O
  cases O
  let U:=T.sameT (aJ.toT s2)
  let u:=s2 _ _ G
  let r:=s2 _ _ a1
  let t:=U.dc
  let (aj,J,lo,(Z,g),ai):=aM U.pc ho
  rw [C] at J
  cases J
  let a3:p≠b:=aK r u 18#0
  let ae:b≠d:=aK u t 1#0
  let a0:p≠d:=aK r t 1#0
  let a2:k≠j:=λz=>by
   subst z
   rw [L] at C
   cases C
   unfold Pc.unt Pc.free at hu
   simp at hu
   omega
  let a8:o≠p:=λz=>by
   subst z
   rw [r] at g
   injection g with g
   injection g with _ _ z
   unfold pf at z
   simp at z
   exact a2 (ul k j c e L C z.2.1)
  refine {_,ρ,o,N.CP,Z,_,_,ρ,g,W.P.cl,W.P.nH,ρ,_,ρ,p,N.CP,S,_,ρ,r,W.P.cl,W.P.nH,(by show 5<1000;decide),?_}
  rw [Fk]
  let up:(upd H2 p (.ins N.CP S (pf c.n c.l e.h c.m lv))) p=some (.ins N.CP S (pf c.n c.l e.h c.m lv)):=aB
  let I:∀a x,H2 a=some x->a≠p->(upd H2 p (.ins N.CP S (pf c.n c.l e.h c.m lv))) a=some x:=λa x z n=>by rw [aC n];exact z
  generalize upd H2 p (.ins N.CP S (pf c.n c.l e.h c.m lv))=H3 at up I ⊢
  let M:=I _ _ t a0.symm
  refine {_,ρ,b,N.CB,dx,_,_,ρ,I _ _ u a3.symm,W.B.cl,W.B.nB,ρ,d,ρ,?_,?_}
  ·exact .inl {_,.inl M}
  refine {_,ρ,o,N.CP,Z,_,_,ρ,I _ _ g a8,W.P.cl,W.P.nN,ρ,_,Sum.inl e.n,.ref o,M,ρ,pY ho C nd,?_}
  refine q _ (λa x z n1 n2=>by rw [aC n1];exact I _ _ (s2 _ _ (s1 _ _ z)) n2) {{dx,by rw [aC ae];exact I _ _ u a3.symm},?_,?_}
  ·rw [aB,<- zR (j:=j) (p:=o) (c:=e) ho ?_ ?_,nO (c':={ c with h:=e.h }) L rfl]
   ·rw [E9 a2]
    exact C
   ·let en:(Y.set k { c with h:=e.h }).map Pc.n=Y.map Pc.n:=by
     rw [List.map_set];refine P9 λi=>?_;by_cases z:k=i
     ·subst z;rw [E6 (by rw [g7];exact(e8.mp L).1),j1,L];rfl
     ·rw [E9 z]
    rw [en];exact nd
  ·let tp:∀a ys,H2 a=some (.tup ys)->(upd H3 d (.dK (iR (fK ps Y) (Sum.inl e.n)))) a=some (.tup ys):=λa ys z=>by
    rw [aC (aK z t (by intro y;cases y))];exact I _ _ z (aK z r (by intro y;cases y))
   refine mV j (gK U.pc nd hp L (λq' x nq ⟨af,⟨dz,ha'⟩,hl'⟩=>{af,{dz,?_},hl'.move tp}) {lv,{S,by rw [aC a0];exact up},ad.move λa ys z=>tp a ys (s2 _ _ z)});rw [aC (aK ha' t 1#0)];exact I _ _ ha' nq
inductive Yu (CB CP CN CC:Addr) (vs:List V) (H:Hp) (Q:VK) (E:XK):Prop|mk (b pw sh d:Addr) (sp ev le nn nt mo:Int) (ps:List Addr) (cs:List Pc) (v u:V) (_:vs=[.ref b,v,u]) (_:6#0) (_:nQ H v) (_:nQ H u) (_:(cs.map Pc.n).Nodup) (_:(∀c ∈ cs,c.n<nn)) (_:cs.length<1000) (_:((∀c ∈ cs,v≠.int c.n)->E (.ref CN) none H)) (_:(∀(k:Nat) (p:Addr) (c:Pc),ps[k]?=some p->cs[k]?=some c->v=.int c.n ->
  (∀pl,u=.int pl->c.m<pl->pl<c.h->(c.lent=true->c.m+ev<=pl)->∀(q:Addr) (H':Hp),H q=none->(∀a o,H a=some o->a≠b->a≠d->a≠p->H' a=some o)->jI CB CP H' b pw sh d sp ev le (nn+1) nt mo (ps++[q]) (cs.set k { c with h:=pl }++[⟨nn,pl,c.h,pl,none⟩])->Q .non H') /\
  (tF (λx=>c.m<x/\x<c.h/\(c.lent=true->c.m+ev<=x)) u=false->E (.ref CC) none H)))
def Lj (CB CP CN CC:Addr):Sp:=Yu CB CP CN CC
def Wt (W:3#0):eA P w K mg base 50#0 N.CB "cut" 5 (Lj N.CB N.CP (c 6) (c 7)):=W.d48.of λ{f _} F=>by
 refine F.okE HW 11#0 (λJ A y s H vs Q E O h=>?_)
 ·let (b,x,r,d,I,n,j,m,C,G,g,l,v,u,rfl,_):=h
  rfl
 ·intro X D
  let (b,x,r,d,I,n,j,m,C,G,g,l,v,u,rfl,t,Y,Z,T,lt,ln,q1,q2):=h
  have o:Room 3 (A.deeper (PyProof.Rows.envOfC "Book.cut" (aG Ni) s.heap.objs.size f J)):=O.mono 8#0
  refine {_,aH (dY (bK (pv 0) W.B.cl (rT W) O aN (aA (bK (pv 0) W.B.cl (Ie W) o 54#0 (aA (pv 1) (aA (pv 2) aF))) (aA (pv 2) aF)))),?_}
  let (L,a):=t.ob
  refine {_,ρ,b,L,_,ρ,a,ρ,_,ρ,b,L,_,ρ,a,ρ,_,ρ,_,ρ,b,x,r,d,I,n,j,m,C,G,g,l,v,u,ρ,t,Y,Z,T,q1,λk p c U M e=>?_}
  let (qa,qb):=q2 k p c U M e
  refine {λhu=>?_,qb}
  let (S,rfl,h1,h2,h3):=Fu hu
  exact {_,ρ,b,x,r,d,I,n,j,m,C,G,S,g,l,k,p,c,ρ,t,U,M,T,lt,ln,λq H' nq k1 i=>qa S rfl h1 h2 h3 q H' nq k1 i}
end
end
end Ls
namespace L2
open PySem PySem.W
section
variable {P:Program} {w:World} {K:Frag} {mg:Str->Option Value} {base:Heap} {N:Cn} {c:Nat->Addr} {CX:pE} {k:Nat} {f:Addr} {fd:FuncData} {ps:List Str} {sp sp':Sp}
def bN.lift (F:bN P w K mg base dI k f fd ps sp):bN P w K mg base CX k f fd ps sp:=
 ⟨F.len,λA a s H b d l Q E j g i r h=>G7 (F.run A a s H b d l Q E j g i r h) λx m q=>by
  cases x with
  | ok fl=>cases fl <;> exact q
  | error e=>exact q.elim⟩
def bN.both (a:bN P w K mg base CX k f fd ps sp) (b:bN P w K mg base CX k f fd ps sp'):bN P w K mg base CX k f fd ps (λg H Q E=>sp g H Q E\/sp' g H Q E):=
 {λg H Q E h=>h.elim (a.len g H Q E) (b.len g H Q E),λA d s H e i g Q E m j l r h=>h.elim (a.run A d s H e i g Q E m j l r) (b.run A d s H e i g Q E m j l r)}
end
end L2
namespace Ls
open PySem L2 PySem.W
section
variable {f:Addr} {H:Hp}
inductive Dl (CB CM:Addr) (vs:List V) (H:Hp) (Q0_:VK) (E:XK):Prop|mk (b pw sh d:Addr) (sp ev le nn nt mo:Int) (v:V) (_:vs=[.ref b,v]) (_:Jz CB H b pw sh d sp ev le nn nt mo) (_:nQ H v) (_:tF (mo<=·) v=false) (_:E (.ref CM) none H)
def uC (CB CM:Addr):Sp:=Dl CB CM
section
variable {P:Program} {w:World} {K:Frag} {mg:Str->Option Value} {base:Heap} {N:Cn} {c:Nat->Addr}
def Ce {fd:FuncData} (F:qG K "choice" "Book.choice" iK f fd) (W:3#0):bN P w K mg base 50#0 3 f fd ["self","moment"] (uC N.CB (c 1)):=by
 refine F.okE iJ (λC H Q E h=>?_) (λx A e s H C Q E y h=>?_)
 ·let (b,n,i,d,sp,g,o,p,j,m,v,rfl,_):=h;rfl
 ·intro X D;let (b,n,i,d,sp,g,o,p,j,m,v,rfl,l,r,t,q):=h;refine {_,aE (dY (bK (pv 0) W.B.cl (wK W) y 54#0 (aA (pv 1) aF))) cX,?_};let (u,a):=id l;exact {_,ρ,b,u,_,ρ,a,ρ,_,ρ,b,n,i,d,sp,g,o,p,j,m,v,ρ,l,r,λz=>absurd (t.symm.trans z) 8#0,λ_=>q}
def jR {H':Hp} {T:Addr} {pos:Pos} {q:Str} (t:lY H T pos q) (k1:∀b,H T=some (.tbl b)->H' T=some (.tbl b)) (k2:∀a f,H a=some (.ext f)->H' a=some (.ext f)):lY H' T pos q:=by
 let (b,e,d,h):=t;refine {b,k1 _ e,d,?_};rcases h with z|⟨i,z,g⟩
 ·exact .inl z
 ·exact .inr {i,z,k2 _ _ g}
def IQ (c:Nat):Bool:=(!decide ((⟨#[c]⟩:Str).cps.toList<("a":Str).cps.toList)) && !decide (("z":Str).cps.toList<(⟨#[c]⟩:Str).cps.toList)
def MI (x:Str):Bool:=decide (1<=x.length) && decide (x.length<=8) && x.cps.toList.all IQ
def FW {x:Str} (h:MI x=true) (a:x.cps.all (·<128)=true):lF x:=by
 unfold MI at h;simp only [A8,decide_eq_true_eq,K1] at h;refine {h.1.1,h.1.2,a,λi c b=>?_};let z:=h.2 c (by
  have:x.cps.toList[i]?=some c:=by simpa using b
  exact l7.mpr {(i),this});unfold IQ at z;rw [A8] at z;exact z
def JO (cs:List Pc) (le i:Int):Prop:=(∀c ∈ cs,c.free=false)/\(∀c ∈ cs,c.late i=false)/\∀c,nU Pc.lent cs c->c.h-c.m<2 * le
inductive Sx (CB CP CM T:Addr) (vs:List V) (H:Hp) (Q:VK) (E:XK):Prop|mk (b pw sh d:Addr) (sp ev le nn nt mo i:Int) (x:Str) (ps:List Addr) (cs:List Pc) (_:vs=[.ref b,.str x,.int i]) (_:6#0) (_:cs.length<1000) (_:(cs.map Pc.n).Nodup) (_:∀c ∈ cs,c.n<nn) (_:lF x) (_:lY H T pH iQ)
 (_:i<mo->∀H',aJ H H'->E (.ref CM) none H')
 (_:mo<=i->JO cs le i->∀H',dC T H H'->lY H' T pH iQ->Q .non H')
 (_:mo<=i->∀(k:Nat) (p:Addr) (c:Pc) (r:Addr) (H':Hp),ps[k]?=some p->cs[k]?=some c->Zb cs i c->(∀a o,H a=some o->a≠b->a≠p->a≠T->H' a=some o)->lY H' T pH iQ ->
   jI CB CP H' b pw sh d sp ev le nn (nt+1) i ps (cs.set k { c with o:=some (nt,x,i+sp) })->H' r=some (.tup [.int nt,.int c.n,.int c.m,.int c.h,.int (i+sp)])->Q (.ref r) H')
 (_:mo<=i->∀(k:Nat) (p:Addr) (c:Pc) (q r:Addr) (pl:Int) (H':Hp),(∀c ∈ cs,c.free=false)->(∀c ∈ cs,c.late i=false)->ps[k]?=some p->cs[k]?=some c->nU Pc.lent cs c->2 * le<=c.h-c.m->pl=c.h-(c.h-c.m) / 2->(∀a o,H a=some o->a≠b->a≠d->a≠p->a≠T->H' a=some o)->lY H' T pH iQ->H q=none ->
   jI CB CP H' b pw sh d sp ev le (nn+1) (nt+1) i (ps++[q]) (cs.set k { c with h:=pl }++[⟨nn,pl,c.h,pl,some (nt,x,i+sp)⟩])->H' r=some (.tup [.int nt,.int nn,.int pl,.int c.h,.int (i+sp)])->Q (.ref r) H')
def vR (CB CP CM T:Addr):Sp:=Sx CB CP CM T
def Wx {cs:List Pc} {k:Nat} {c:Pc} {pl:Int} (a:cs[k]?=some c):(cs.set k { c with h:=pl }).map Pc.n=cs.map Pc.n:=by
 rw [List.map_set];refine P9 λi=>?_;by_cases z:k=i
 ·subst z;rw [E6 (by rw [g7];exact(e8.mp a).1),j1,a];rfl
 ·rw [E9 z]
def Oc {n l h m:Int} {b:V} {pw sh d:Addr} {sp a e nn nt mo:Int}:¬ (pf n l h m b).length=(bf pw sh d sp a e nn nt mo).length:=by show ¬ 5=9;decide
def Ir {g j:Addr} {cdv:Value} {A:Around} {outer:List Env} {s:Shared} {E:XK} (L:Bl K mg g) (TP:Pl K mg j):
  ∃t,pB (hX 50#0 P w K mg base ["self","worker","moment","chosen","piece","token","until"] "Book.lend" (aG wC) f cdv A outer s H E) ((bQ wC).drop 5) t /\
   ∀(D:dH) (b pw sh d p:Addr) (sp I G nn nt mo i:Int) (x:Str) (ps:List Addr) (cs:List Pc) (k:Nat) (c:Pc) (o3 o5 o6:Option V) (B:Hp),jI g j B b pw sh d sp I G nn nt mo ps cs->ps[k]?=some p->cs[k]?=some c->(cs.map Pc.n).Nodup ->
    (∀r H',(∀a o,B a=some o->a≠b->a≠p->H' a=some o)->jI g j H' b pw sh d sp I G nn (nt+1) i ps (cs.set k { c with o:=some (nt,x,i+sp) })->H' r=some (.tup [.int nt,.int c.n,.int c.m,.int c.h,.int (i+sp)])->D.rt (.ref r) H') ->
    t D [some (.ref b),some (.str x),some (.int i),o3,some 49#0,o5,o6] B:=by
 refine {_,aE (cG (i:=5) nZ.nd rfl 29#0 22#0)
   (aE (cG (i:=6) nZ.nd rfl 29#0 (bU eI (pv 2) 22#0))
   (aE (cY (pv 4) (bY (aA (pv 5) (aA (pv 1) (aA (pv 6) aF)))) rfl)
   (aE (cY (pv 0) (bU eI (pv 5) aS) rfl)
   (aE (cY (pv 0) (pv 2) rfl)
   (aH (aW (bY (aA (pv 5) (aA (cM (pv 4) rfl) (aA (cM (pv 4) rfl) (aA (cM (pv 4) rfl) (aA (pv 6) aF)))))))))))),?_};intro D b pw sh d p sp I G nn nt mo i x ps cs k c o3 o5 o6 B hb W hk nd t;let ((y,u),Q,Y):=id hb;let (c',a0,lv,(v,M),a4):=aM Y W;rw [hk] at a0;cases a0;refine {_,ρ,b,g,y,_,_,ρ,u,L.cl,L.nT,ρ,_,ρ,_,ρ,b,g,y,_,_,ρ,u,L.cl,L.nS,ρ,_,_,ρ,ρ,_,ρ,_,ρ,_,ρ,by show 3<=sizeLine;decide,λq nq=>?_};let O:aJ B (upd B q (.tup [.int nt,.str x,.int (i+sp)])):=aI nq;let e3:(upd B q (.tup [.int nt,.str x,.int (i+sp)])) q=some (.tup [.int nt,.str x,.int (i+sp)]):=aB;generalize upd B q (.tup [.int nt,.str x,.int (i+sp)])=S at O e3 ⊢;let F:=O _ _ M;let J:=O _ _ u;let X:∀{p' c2 a2 n l h m} {lv:V},B p'=some (.ins c2 a2 (pf n l h m lv))->p'≠b:=λz=>aK z u (by intro z;injection z with _ _ z;exact absurd (congrArg List.length z) Oc);let C:=X M;refine {_,ρ,p,j,v,_,ρ,F,TP.cl,TP.nD,(by show 5<1000;decide),?_};rw [pR];refine {_,ρ,_,_,ρ,ρ,_,ρ,b,g,y,_,ρ,(by rw [aC C.symm];exact J),L.cl,L.nT,(by show 9<1000;decide),?_};rw [Sb];refine {_,ρ,_,ρ,b,g,y,_,ρ,aB,L.cl,L.nM,(by show 9<1000;decide),?_};rw [eM,oP];let k5:∀a o,S a=some o->a≠p->a≠b->58#0 a=some o:=λa o e Z n2=>by
  rw [aC n2,aC Z];exact e
 let T:58#0 p=some (.ins j v (pf c.n c.l c.h c.m (.ref q))):=by rw [aC C,aB]
 let b5:58#0 b=some (.ins g y (bf pw sh d sp I G nn (nt+1) i)):=aB;generalize upd (upd S p (.ins j v (pf c.n c.l c.h c.m (.ref q)))) b (.ins g y (bf pw sh d sp I G nn (nt+1) i))=H5 at k5 T b5 ⊢;refine {_,ρ,_,ρ,p,j,v,_,_,ρ,T,TP.cl,TP.nN,ρ,_,ρ,p,j,v,_,_,ρ,T,TP.cl,TP.nM,ρ,_,ρ,p,j,v,_,_,ρ,T,TP.cl,TP.nH,ρ,_,ρ,by show 5<=sizeLine;decide,λr nr=>?_};let s6:∀a o,S a=some o->a≠p->a≠b->(upd H5 r (.tup [.int nt,.int c.n,.int c.m,.int c.h,.int (i+sp)])) a=some o:=λa o e Z n2=>aI nr _ _ (k5 _ _ e Z n2);let tp:∀a U,S a=some (.tup U)->(upd H5 r (.tup [.int nt,.int c.n,.int c.m,.int c.h,.int (i+sp)])) a=some (.tup U):=λa U e=>s6 _ _ e (aK e F 1#0) (aK e J 1#0);refine t r _ (λa o e Z n2=>s6 _ _ (O _ _ e) n2 Z) {{y,aI nr _ _ b5},?_,?_} aB
 ·rw [nO (c':={ c with o:=some (nt,x,i+sp) }) hk rfl];exact s6 _ _ (O _ _ Q) (aK Q M 1#0) (aK Q u 1#0)
 ·exact gK Y nd W hk (λq' e' a1 ⟨a3,⟨dz,ha'⟩,hl'⟩=>{a3,{dz,s6 _ _ (O _ _ ha') a1 (X ha')},hl'.move λa U z=>tp a U (O _ _ z)}) {.ref q,{v,aI nr _ _ T},tp _ _ e3}
def Ph (GC:eA P w K mg base 50#0 N.CB "choice" 5 (λvs H Q E=>xJ N.CB N.CP N.T1 vs H Q E\/uC N.CB (c 1) vs H Q E)) (W:3#0):eA P w K mg base 50#0 N.CB "lend" 6 (vR N.CB N.CP (c 1) N.T1):=W.d45.of λ{f _} F=>by
 refine F.okE nZ 11#0 (λcdv A outer s H vs Q E hr h=>?_)
 ·let (b,Z,Y,d,sp,T,S,J,nt,M,i,x,I,G,rfl,_):=h
  rfl
 intro X D
 let (b,Z,Y,d,sp,T,S,J,nt,M,i,x,I,G,rfl,hb,lc,nd,lt,wx,tb,qM,qN,qP,qC):=h
 let (tT,pT,hT):=Ir (P:=P) (w:=w) (base:=base) (f:=f) (cdv:=cdv) (A:=A) (outer:=outer) (s:=s) (H:=H) (E:=E) W.B W.P
 refine {_,aE (dY (aU (yS W) hr aN (aA (pv 1) aF)))
   (aE (cG (i:=3) nZ.nd rfl 29#0 (bK (pv 0) W.B.cl GC hr 54#0 (aA (pv 2) aF)))
   (aE (bP (bB Bz (pv 3) eH (aX _)) (aH (aW eH)) aZ)
   (aE (cG (i:=4) nZ.nd rfl 29#0 (bK (pv 0) W.B.cl (Wc W) hr aN (aA (bZ bT (pv 3) aS 19#0) aF)))
   (aE (bP (bB eT (bZ bT (pv 3) aS 19#0) bE (aX _)) (aH (cG (i:=4) nZ.nd rfl 29#0 (bK (pv 0) W.B.cl (rT W) hr aN (aA (pv 4) (aA (bZ bT (pv 3) aS 19#0) aF))))) aZ)
   pT)))),?_}
 refine {_,ρ,x,ρ,wx,λH1 s1=>?_}
 let a1:=hb.sameT (aJ.toT s1)
 let (dx,U):=a1.ob
 refine {_,ρ,b,dx,_,ρ,U,ρ,_,ρ,?_}
 by_cases hi:M<=i
 rotate_left
 ·exact .inr {b,Z,Y,d,sp,T,S,J,nt,M,.int i,ρ,{(dx),U},.kn (.int _),decide_eq_false hi,qM ∎ _ s1}
 refine .inl {b,Z,Y,d,sp,T,S,J,nt,M,i,I,G,ρ,a1,∎,hi,tb.same s1,λv H2 kt L ch=>?_}
 let st:eL H1 H2:=by
  let (qs,e,_):=tb.same s1;exact kt.toT e
 let C:=a1.sameT st;let ((a2,t),a5,a4):=id C;let a6:∀c ∈ G,∃k p dp lv,G[k]?=some c/\I[k]?=some p/\H2 p=some (.ins N.CP dp (pf c.n c.l c.h c.m lv)):=λc hc=>by
  let (k,y):=l7.mp hc;let hl:k<I.length:=by have:=a4.length;have:=(e8.mp y).1;omega
  let (c',a7,lv,(dp,g),ac):=aM a4 (e7 hl);rw [y] at a7;cases a7;exact {k,_,dp,lv,y,e7 hl,g}
 let O:∀a o,H a=some o->a≠N.T1->H2 a=some o:=λa o e n=>kt _ _ n (s1 _ _ e);cases ch with
 | non h1 h2 h3=>exact {_,ρ,ρ,_,ρ,dE (qN hi {(h1),h2,h3} H2 (λa o n e=>O a o e n) L)}
 | @pc c r0 bc e2=>
  let bc:Zb G i c:=bc;let (k,p,dp,lv,y,u,g):=a6 c bc.mem;refine {_,ρ,ρ,_,ρ,cS {_,ρ,b,a2,_,ρ,t,ρ,_,ρ,r0,_,_,_,ρ,ρ,bX.of e2,bH (j:=1) rfl,b,Z,Y,d,sp,T,S,J,nt,M,I,G,k,p,c,ρ,C,u,y,nd,_,ρ,r0,_,_,_,ρ,ρ,bX.of e2,bH (j:=0) rfl,ρ,_,ρ,cO ⋯ ?_}};refine hT _ b Z Y d p sp T S J nt M i x I G k c _ _ _ H2 C u y nd λr H' kp bk a3=>qP hi k p c r H' u y bc (λa o e n1 n2 n3=>kp _ _ (O a o e n3) n1 n2) (jR L (λqs e=>kp _ _ e (aK e t 1#0) (aK e g 1#0)) λa f e=>kp _ _ e (aK e t 1#0) (aK e g 1#0)) bk a3
 | @cut c r0 h1 h2 bc hl e2=>
  let (k,p,dp,lv,y,u,g):=a6 c bc.1;refine {_,ρ,ρ,_,ρ,cS {_,ρ,b,a2,_,ρ,t,ρ,_,ρ,r0,_,_,_,ρ,ρ,bX.of e2,bH (j:=1) rfl,b,Z,Y,d,sp,T,S,J,nt,M,I,G,k,p,c,ρ,C,u,y,nd,_,ρ,r0,_,_,_,ρ,ρ,bX.of e2,bH (j:=0) rfl,ρ,_,ρ,cN ⋯ ?_}};refine {_,ρ,b,a2,_,ρ,t,ρ,_,ρ,_,ρ,r0,_,_,_,ρ,ρ,bX.of e2,bH (j:=2) rfl,b,Z,Y,d,sp,T,S,J,nt,M,_,I,G,k,p,c,ρ,C,u,y,nd,lt,lc,λq H3 nq kc a9=>?_};let lX:(G.set k { c with h:=c.h-(c.h-c.m) / 2 }).length=I.length:=by rw [R4];exact a4.length.symm
  let aa:((G.set k { c with h:=c.h-(c.h-c.m) / 2 }++[({J,c.h-(c.h-c.m) / 2,c.h,c.h-(c.h-c.m) / 2,none}:Pc)]).map Pc.n).Nodup:=by
   rw [u5,Wx y,L8];refine {nd,by simp,λa ha b hb z=>?_};let (e,he,rfl):=v8.mp ha;simp only [x9,O6,v9] at hb;have:=lt e he;omega
  refine hT _ b Z Y d q sp T S (J+1) nt M i x _ _ I.length {J,c.h-(c.h-c.m) / 2,c.h,c.h-(c.h-c.m) / 2,none} _ _ _ H3 a9 9#0 (by rw [<- lX];simp) aa λr H' kp bk a3=>?_;rw [List.set_append_right _ _ ∎,lX,Nat.sub_self] at bk;let a0:∀a o,H2 a=some o->a≠b->a≠d->a≠p->H' a=some o:=λa o e n1 n2 n3=>kp _ _ (kc _ _ e n1 n2 n3) n1 (λz=>by rw [z,nq] at e;cases e);let a8:H q=none:=by
   cases e:H q with
   | none=>rfl
   | some o=>
    by_cases z:q=N.T1
    ·let (_,e',_):=L;rw [<- z,nq] at e';cases e'
    ·rw [O _ _ e z] at nq;cases nq
  exact qC hi k p c q r _ H' h1 h2 u y bc hl rfl (λa o e n1 n2 n3 n4=>a0 _ _ (O a o e n4) n1 n2 n3) (jR L (λqs e=>a0 _ _ e (aK e t 1#0) (aK e a5 1#0) (aK e g 1#0)) λa f e=>a0 _ _ e (aK e t 1#0) (aK e a5 1#0) (aK e g 1#0)) a8 bk a3
inductive Dh (CB CP CM CN CL CT:Addr) (vs:List V) (H:Hp) (E:XK):Prop|mk (b pw sh d:Addr) (sp ev le nn nt mo:Int) (ps:List Addr) (cs:List Pc) (v pl ns u:V) (_:vs=[.ref b,v,pl,ns,u]) (_:6#0) (_:nQ H v) (_:nQ H u) (_:nQ H pl) (_:(tF (mo<=·) u=false->E (.ref CM) none H)) (_:(tF (mo<=·) u=true->tF (λx=>0<=x/\x<nt) v=false->E (.ref CN) none H)) (_:38#0) (_:(tF (mo<=·) u=true->∀tk,v=.int tk->0<=tk->tk<nt->∀(k:Nat) (p:Addr) (c:Pc),ps[k]?=some p->cs[k]?=some c->c.has tk=true->30#0->tF (λx=>c.l<=x/\x<=c.m) pl=false/\∀H',aJ H H'->E (.ref CT) none H'))
def kL (CB CP CM CN CL CT:Addr):Sp:=λvs H _ E=>Dh CB CP CM CN CL CT vs H E
def Cc (W:3#0):eA P w K mg base 50#0 N.CB "piece_to_tell" 4 (kL N.CB N.CP (c 1) (c 2) (c 3) (c 4)):=W.d56.of λ{f _} F=>by
 refine F.okE iI 11#0 (λI A C s H vs Q E Y h=>?_)
 ·let (b,pw,sh,d,sp,S,L,O,nt,mo,J,M,v,Z,ns,u,rfl,_):=h
  rfl
 ·intro X D
  let (b,pw,sh,d,sp,S,L,O,nt,mo,J,M,v,Z,ns,u,rfl,y,kv,ku,kp,q1,q2,q3,q4):=h
  let t:Room 1 (A.deeper (PyProof.Rows.envOfC "Book.piece_to_tell" (aG rC) s.heap.objs.size f I)):=Y.mono 8#0
  refine {_,aE (cG (i:=5) iI.nd rfl 29#0 (bK (pv 0) W.B.cl (rQ W) Y 54#0 (aA (pv 1) (aA (pv 4) aF))))
   (aE (bP (PW.pt (fF (cL (cK (aU (dN W) t aN (aA (pv 2) aF)))) (eF (cL (gG jJ jJ (cM (pv 5) rfl) (pv 2) (cM (pv 5) rfl)))))) (aH (dS rfl W.x4.ex rfl W.x4.mB cV (aA bE aF))) aZ) cX),?_}
  let (dx,n):=y.ob
  let a:1<=sizeLine:=by decide
  refine {_,ρ,b,dx,_,ρ,n,ρ,_,ρ,_,ρ,b,pw,sh,d,sp,S,L,O,nt,mo,J,M,v,u,ρ,y,kv,ku,q1,q2,q3,λhu tk hv t0 t1 k p c hp T hh hf H1 r=>?_}
  let (no,q):=q4 hu tk hv t0 t1 k p c hp T hh hf
  let q:=q H1 r
  let o:=y.sameT (aJ.toT r)
  let (c',g,lv,(j,e),a0):=aM o.pc hp
  rw [T] at g
  cases g
  refine {_,ρ,_,ρ,kp.same r,_,ρ,?_}
  cases hw:eW Z with
  | false=>exact dE (dE {(a),q})
  | true=>
  let (x,rfl):=iA hw
  refine cS ?_
  by_cases G:c.l<=x
  rotate_left
  ·exact {_,ρ,p,N.CP,j,_,_,ρ,e,W.P.cl,W.P.nL,ρ,_,ρ,_,_,ρ,ρ,_,ρ,cO (decide_eq_false G) {_,ρ,dE {(a),q}}}
  refine {_,ρ,p,N.CP,j,_,_,ρ,e,W.P.cl,W.P.nL,ρ,_,ρ,_,_,ρ,ρ,_,ρ,cN (decide_eq_true G) {_,ρ,p,N.CP,j,_,_,ρ,e,W.P.cl,W.P.nM,ρ,_,_,ρ,ρ,_,ρ,?_}}
  by_cases U:x<=c.m
  ·exact absurd (decide_eq_true (p:=c.l<=x/\x<=c.m) {(G),U}) (by have z:decide (c.l<=x/\x<=c.m)=false:=no;rw [z];decide)
  ·rw [decide_eq_false U]
   exact dE {(a),q}
def rM {m:FuncData} {sp:Sp} {n:Nat} (F:qG K "tell" "Book.tell" oA f m) (x:∀e H Q o E,sp e H Q E->sp e H o E) (a:∀e H Q E,sp e H Q E->∃(b pw sh d:Addr) (sp g l nn nt mo:Int) (v pl ns u:V),e=[.ref b,v,pl,ns,u]/\Jz N.CB H b pw sh d sp g l nn nt mo) (q:eA P w K mg base 50#0 N.CB "piece_to_tell" n sp) (W:3#0):bN P w K mg base 50#0 (n+1) f m 25#0 sp:=by
 refine F.okE vV (λe H Q E h=>?_) (λy A k s H e Q E r h=>?_)
 ·let (b,pw,sh,d,sp,g,l,nn,nt,mo,v,pl,ns,u,rfl,_):=a _ _ _ _ h;rfl
 ·intro X D;let (b,pw,sh,d,t,g,l,nn,nt,mo,v,pl,ns,u,rfl,(p,j)):=a _ _ _ _ h;refine {_,aE (cG (i:=5) vV.nd rfl 29#0 (bK (pv 0) W.B.cl q r 54#0 (aA (pv 1) (aA (pv 2) (aA (pv 3) (aA (pv 4) aF)))))) cX,?_};exact {_,ρ,b,p,_,ρ,j,ρ,_,ρ,_,ρ,_,ρ,_,ρ,x _ _ _ _ _ h}
def Ov {a:FuncData} (F:qG K "tell" "Book.tell" oA f a) (W:3#0):bN P w K mg base 50#0 5 f a 25#0 (kL N.CB N.CP (c 1) (c 2) (c 3) (c 4)):=
 rM F (λ_ _ _ _ _ h=>h) (λr H Q E h=>by
  let (b,n,k,d,i,g,p,q,l,j,t,s,v,o,e,u,rfl,m,_):=h
  exact {(b),n,k,d,i,g,p,q,l,j,v,o,e,u,ρ,m.ob}) (Cc W) W
inductive Di (CB CS CP CT CO:Addr) (vs:List V) (H:Hp) (Q:VK) (E:XK):Prop|mk (b pw sh d pw' d' nr:Addr) (sp ev le nn nt mo tk i pl:Int) (ps:List Addr) (cs:List Pc) (k:Nat) (p:Addr) (c:Pc) (ws:Lm.Ps) (kvs:List (bJ × V)) (ns:List Int) (_:vs=[.ref b,.int tk,.int pl,.ref nr,.int i]) (_:6#0) (_:cT CS H sh pw' d' ws kvs) (_:mo<=i) (_:0<=tk) (_:tk<nt) (_:ps[k]?=some p) (_:cs[k]?=some c) (_:c.has tk=true) (_:30#0) (_:H nr=some (.tup 32#0)) (_:ns.length<=1000) (_:c.l<=pl) (_:pl<=c.m) (_:-(2 ^ 61)<=pl) (_:pl<=2 ^ 61) (_:(∀(j:Nat) n,ns[j]?=some n->pl+(j:Int)<c.m->∃x,cW kvs (Sum.inl (pl+(j:Int)):bJ)=some (.int x))) (_:(c.m+ev<pl+ns.length->∀H',aJ H H'->E (.ref CT) none H')) (_:(pl+ns.length<=c.m+ev->(∃(j:Nat) (n x:Int),ns[j]?=some n/\pl+(j:Int)<c.m/\cW kvs (Sum.inl (pl+(j:Int)):bJ)=some (.int x)/\n≠x)->∀H',aJ H H'->E (.ref CO) none H')) (_:(pl+ns.length<=c.m+ev->60#0->∀H',aJ H H'->Q 49#0 H'))
def kM (CB CS CP CT CO:Addr):Sp:=Di CB CS CP CT CO
def rL (GH:eA P w K mg base dI N.CB "held_piece" 3 (Bc N.CB N.CP)) (W:3#0):eA P w K mg base 50#0 N.CB "piece_to_tell" 4 (kM N.CB N.CS N.CP (c 4) (c 5)):=W.d56.of λF=>by
 refine F.okE iI 11#0 (λa5 A a2 s H vs Q E hr h=>?_)
 ·let (b,pw,sh,d,Z,d',O,sp,ev,le,nn,nt,mo,tk,i,f,ps,cs,k,p,c,ws,o,t,rfl,_):=h
  rfl
 ·intro X D
  let (b,pw,sh,d,Z,d',O,sp,ev,le,nn,nt,mo,tk,i,f,ps,cs,k,p,c,ws,o,t,rfl,hb,hs,hi,t0,t1,hp,r,ht,a3,hn,ln,p1,p2,p4,p5,kn,qT,qO,qR):=h
  let sl:sizeLine=16777216:=sizeLine_eq
  let ((dx,M),a4,a1):=id hb
  let (c',a0,lv,(dp,J),a7):=aM a1 hp
  rw [r] at a0
  cases a0
  refine Wp.ex {_,aE (cG (i:=5) iI.nd rfl 29#0 (bK (pv 0) W.B.cl GH hr aN (aA (pv 1) (aA (pv 4) aF)))) aQ,?_}
  refine {_,ρ,b,dx,_,ρ,M,ρ,_,ρ,_,ρ,b,pw,sh,d,sp,ev,le,nn,nt,mo,tk,i,ps,cs,k,p,c,ρ,hb,hi,t0,t1,hp,r,ht,a3,λH1 s1=>?_}
  let I:=s1 _ _ J
  refine {_,aE (bP (PW.pt (fF (cL (cK (aU (dN W) hr aN (aA (pv 2) aF)))) (eF (cL (gG jJ jJ (cM (pv 5) rfl) (pv 2) (cM (pv 5) rfl)))))) cX aZ) aQ,?_}
  refine {_,ρ,_,ρ,.kn (.int _),_,ρ,cS ?_}
  refine {_,ρ,p,N.CP,dp,_,_,ρ,I,W.P.cl,W.P.nL,ρ,_,ρ,_,_,ρ,ρ,_,ρ,cN (decide_eq_true p1) {_,ρ,p,N.CP,dp,_,_,ρ,I,W.P.cl,W.P.nM,ρ,_,_,ρ,ρ,_,ρ,cO (by rw [decide_eq_true p2];rfl) ?_}}
  refine {_,aE (bP (cL (cK (aU (rO W) hr aN (aA (pv 3) aF)))) cX aZ) aQ,?_}
  refine {_,ρ,O,t,ρ,s1 _ _ hn,ln,λH2 s2=>{_,ρ,cS ?_}}
  let C:=s1.trans s2
  let Y:=C _ _ J
  let T:=C _ _ M
  refine {_,aE (bP (bB Os (bU eI (pv 2) (bD cC 33#0 W.G.len PySem.boot_len (aA (pv 3) aF))) (bU eI (cM (pv 5) rfl) 22#0) (aX _)) (aH (dS rfl W.x4.ex rfl W.x4.mB cV (aA bE aF))) aZ) aQ,?_}
  refine {_,ρ,_,ρ,O,_,ρ,.inr (bX.of (C _ _ hn)),_,_,ρ,ρ,_,ρ,p,N.CP,dp,_,_,ρ,Y,W.P.cl,W.P.nM,ρ,_,ρ,b,N.CB,dx,_,_,ρ,T,W.B.cl,W.B.nE,ρ,_,_,ρ,ρ,_,_,ρ,ρ,_,ρ,?_}
  rw [g7]
  refine fT (λr=>?_) λr=>?_
  ·let r:=of_decide_eq_true r
   exact {by show 1<=sizeLine;decide,qT ∎ _ C}
  let p3:f+t.length<=c.m+ev:=by
   have:¬ (c.m+ev<f+(t.length:Int)):=λz=>r (decide_eq_true z);omega
  refine {_,aE (eG P7 rfl (Fj 33#0 W.G.enum vB (aA (pv 3) aF) (pP (pv 2) wH)) (fH (n:=2) rfl (aY (aP (i:=6) iI.nd rfl 29#0) (aY (aP (i:=7) iI.nd rfl 29#0) dR))) aQ) aQ,?_};refine {_,ρ,_,ρ,O,f,ρ,ρ,Gm p4 p5,{_,bX.of (C _ _ hn)},zG (K:=K) (a:=O) (d:=f) (xs:=t.map V.int) (λj σ G=>aJ H2 G/\(∀(g:Nat) n,g<j->t[g]?=some n->f+(g:Int)<c.m->cW o (Sum.inl (f+(g:Int)):bJ)=some (.int n))/\∃u v,σ=[some (.ref b),some (.int tk),some (.int f),some (.ref O),some (.int i),some 49#0,u,v]) {aJ.refl _,λg n h=>absurd h (L1 _),_,_,ρ} (λj σ G _ h=>bX.of (h.1 _ _ (C _ _ hn))) ?_ ?_}
  ·rintro j y σ G q hj ⟨sg,al,u,v,rfl⟩ nq;let s3:aJ G (upd G q (.tup [.int (f+(j:Int)),y])):=aI nq;let e3:(upd G q (.tup [.int (f+(j:Int)),y])) q=some (.tup [.int (f+(j:Int)),y]):=aB;generalize upd G q (.tup [.int (f+(j:Int)),y])=G3 at s3 e3 ⊢;let t3:=C.trans (sg.trans s3);obtain⟨n,L,rfl⟩:∃n,t[j]?=some n/\y=.int n:=by
    rw [j1] at hj;cases z:t[j]? with
    | none=>rw [z] at hj;cases hj
    | some n=>rw [z] at hj;exact {n,ρ,(Option.some.inj hj).symm}
   let up:(f+(j:Int)<c.m->cW o (Sum.inl (f+(j:Int)):bJ)=some (.int n))->∀(g:Nat) n,g<j+1->t[g]?=some n->f+(g:Int)<c.m->cW o (Sum.inl (f+(g:Int)):bJ)=some (.int n):=λh g n' a6 e l=>by
    by_cases z:g<j
    ·exact al g n' z e l
    ·have:g=j:=∎;subst this;rw [L] at e;cases e;exact h l
   refine {q,_,ρ,bX.of e3,ρ,_,_,ρ,_,_,ρ,ρ,?_};refine {_,aH (bP (PW.pt (fW (bB gR (pv 6) (cM (pv 5) rfl) (aX _)) (eY (bB Zx (pv 7) (bK 22#0 W.S.cl (DL W) hr aN (aA (pv 6) aF)) (aX _))))) (aH (dS rfl W.x5.ex rfl W.x5.mB cV (aA bE aF))) aZ),?_};refine {_,ρ,_,ρ,p,N.CP,dp,_,_,ρ,t3 _ _ J,W.P.cl,W.P.nM,ρ,_,_,ρ,ρ,_,ρ,?_};refine fT (λr=>?_) λr=>cS {sg.trans s3,up λz=>absurd (decide_eq_true z) r,_,_,ρ};let U:f+(j:Int)<c.m:=by simpa using r
   let S3:=hs.same t3;let (dz,hz):=S3.ob;let (x,hx):=kn j n L U;refine {_,ρ,_,ρ,b,N.CB,dx,_,_,ρ,t3 _ _ M,W.B.cl,W.B.nH,ρ,sh,dz,_,ρ,hz,gW _ _ ⋯ ⋯,_,ρ,sh,Z,d',ws,o,.int (f+(j:Int)),ρ,S3,.kn (.int _),20#0,λi' e=>?_};cases e;rw [hx];refine {ρ,_,ρ,?_};by_cases z:n=x
   ·subst z;exact IT rfl {sg.trans s3,up λ_=>hx,_,_,ρ}
   ·refine cN ?_ {by show 1<=sizeLine;decide,qO p3 {(j),n,x,L,U,hx,z} _ t3};show (!decide (V.int n=V.int x))=true;rw [decide_eq_false λy=>z (V.int.inj y)];rfl
  ·rintro σ G ⟨sg,al,u,v,rfl⟩;refine {_,aH (aW (pv 5)),?_};exact {_,ρ,qR p3 (λj n e l=>al j n (by rw [g7];exact(e8.mp e).1) e l) _ (C.trans sg)}
inductive Dj (CB CS CP CT CO:Addr) (vs:List V) (H:Hp) (E:XK):Prop|mk (b pw sh d pw' d' nr:Addr) (sp ev le nn nt mo tk i pl:Int) (ps:List Addr) (cs:List Pc) (k:Nat) (p:Addr) (c:Pc) (ws:Lm.Ps) (kvs:List (bJ × V)) (ns:List Int) (_:vs=[.ref b,.int tk,.int pl,.ref nr,.int i]) (_:6#0) (_:cT CS H sh pw' d' ws kvs) (_:mo<=i) (_:0<=tk) (_:tk<nt) (_:ps[k]?=some p) (_:cs[k]?=some c) (_:c.has tk=true) (_:30#0) (_:H nr=some (.tup 32#0)) (_:ns.length<=1000) (_:c.l<=pl) (_:pl<=c.m) (_:-(2 ^ 61)<=pl) (_:pl<=2 ^ 61) (_:(∀(j:Nat) n,ns[j]?=some n->pl+(j:Int)<c.m->∃x,cW kvs (Sum.inl (pl+(j:Int)):bJ)=some (.int x))) (_:((c.m+ev<pl+ns.length/\∀H',aJ H H'->E (.ref CT) none H') \/
 (pl+ns.length<=c.m+ev/\(∃(j:Nat) (n x:Int),ns[j]?=some n/\pl+(j:Int)<c.m/\cW kvs (Sum.inl (pl+(j:Int)):bJ)=some (.int x)/\n≠x)/\∀H',aJ H H'->E (.ref CO) none H')))
def kN (CB CS CP CT CO:Addr):Sp:=λvs H _ E=>Dj CB CS CP CT CO vs H E
def Au {l s m r o:Addr} {vs:List V} {Q:VK} {E:XK} (h:kN l s m r o vs H Q E):kM l s m r o vs H Q E:=by
 let (b,pw,X,d,a,d',B,sp,O,G,J,nt,mo,C,i,T,D,I,k,p,c,t,f,v,rfl,Z,W,Y,t0,t1,hp,S,L,e,M,A,p1,p2,U,u,kn,q):=h;refine {b,pw,X,d,a,d',B,sp,O,G,J,nt,mo,C,i,T,D,I,k,p,c,t,f,v,ρ,Z,W,Y,t0,t1,hp,S,L,e,M,A,p1,p2,U,u,kn,?_,?_,?_}
 ·intro z;rcases q with ⟨_,q⟩|⟨y,_⟩
  ·exact q
  ·omega
 ·intro z _;rcases q with ⟨y,_⟩|⟨_,_,q⟩
  ·omega
  ·exact q
 ·intro z al;rcases q with ⟨y,_⟩|⟨_,⟨j,n,x,e1,e2,g,F⟩,_⟩
  ·omega
  ·rw [al j n e1 e2] at g;cases g;exact absurd rfl F
def pN (CB CS CP CM CN CL CT CO:Addr):Sp:=λvs H Q E=>(Az CB CS CP vs H Q E\/kL CB CP CM CN CL CT vs H Q E)\/kN CB CS CP CT CO vs H Q E
def Ox {a:FuncData} (F:qG K "tell" "Book.tell" oA f a) (v:eA P w K mg base 50#0 N.CB "piece_to_tell" 4 (kM N.CB N.CS N.CP (c 4) (c 5))) (W:3#0):bN P w K mg base 50#0 5 f a 25#0 (kN N.CB N.CS N.CP (c 4) (c 5)):=
 rM F (λ_ _ _ _ _ h=>h) (λr H Q E h=>by
  let (b,q,n,d,e,I,z,u,l,g,j,t,s,A,i,D,B,C,k,p,c,x,m,y,rfl,o,_):=h
  exact {b,q,n,d,u,l,g,j,t,s,_,_,_,_,ρ,o.ob}) (v.to λG=>G.imp λr H Q E h=>Au h) W
def Ow {a e b l j k g i:Addr} {d:FuncData} (n:bN P w K mg base dI 5 f d 25#0 (Az a e b))
  (m:bN P w K mg base 50#0 5 f d 25#0 (kL a b l j k g)) (o:bN P w K mg base 50#0 5 f d 25#0 (kN a e b g i)):
  bN P w K mg base 50#0 5 f d 25#0 (pN a e b l j k g i):=
 (((n.lift).both m).both o).imp λp H Q E h=>h
end
end
end Ls
namespace L2
open PySem PySem.W
def bN.calm {P:Program} {w:World} {K:Frag} {mg:Str->Option Value} {base:Heap} {k:Nat} {f:Addr} {fd:FuncData} {ps:List Str} {sp:Sp} (F:bN P w K mg base 50#0 k f fd ps sp):bN P w K mg base dI k f fd ps (λd H Q _=>sp d H Q E0):=
 ⟨λd H Q E h=>F.len d H Q E0 h,λA a s H b i d Q E l j g r h=>G7 (F.run A a s H b i d Q E0 l j g r h) λx m q=>by
  cases x with
  | ok fl=>cases fl <;> exact q
  | error e=>
   let (_,_,_,_,_,_,_,_,_,z):=q
   exact z.elim⟩
end L2
namespace Ls
open PySem L2 PySem.W
section
variable {H H':Hp} {k j n:Nat} {v p g x m y z:V} {d' a:Addr} {i h:Int} {o:Option (Int × Str × Int)} {A:Ad}
section
variable {P:Program} {w:World} {K:Frag} {mg:Str->Option Value} {base:Heap} {N:Cn} {c:Nat->Addr} {f CB CS CP CM CN CL CT CO:Addr} {fd:FuncData} {k:Nat} {xs:List Str}
def wL {p:Int->Prop} [DecidablePred p] {i:Int} {A:Prop} (h:p i) (z:tF p (.int i)=false):A:=absurd h (of_decide_eq_false z)
def Py (G:bN P w K mg base 50#0 k f fd xs (Lf CB CM)):bN P w K mg base dI k f fd xs (vQ CB):=G.calm.imp λs H Q E h=>by
 let (b,n,e,d,r,g,a,m,o,p,i,rfl,j,l,q):=h
 exact {b,n,e,d,r,g,a,m,o,p,.int i,ρ,j,.kn (.int _),λ_=>q,λz=>wL l z}
def Xf (G:bN P w K mg base 50#0 k f fd xs (Ed CB CP CM CN CL)):bN P w K mg base dI k f fd xs (Bc CB CP):=G.calm.imp λvs H Q E h=>by
 let (b,X,O,d,Y,v,M,B,u,I,D,i,J,L,j,p,c,rfl,T,U,C,Z,y,t,l,r,q):=h
 refine {b,X,O,d,Y,v,M,B,u,I,J,L,.int D,.int i,ρ,T,.kn (.int _),.kn (.int _),λz=>wL U z,λ_ z=>wL (p:=λx=>0<=x/\x<u) {(C),Z} z,λ_ o e _ _ no=>?_,λ_ o e _ _ s p' A g n a m F S=>?_}
 ·cases e
  rw [no c (i5 t)] at l
  cases l
 ·cases e
  rcases L9 j s with z|z|z
  ·rw [m j c t z] at l
   cases l
  ·subst z
   rw [y] at g
   cases g
   exact q F S
  ·rw [r s A n z] at a
   cases a
def Hl (G:bN P w K mg base 50#0 k f fd xs (kM CB CS CP CT CO)):bN P w K mg base dI k f fd xs (xI CB CS CP):=G.calm.imp λvs H Q E h=>by
 let (b,pw,S,d,a,F,A,sp,s,O,u,nt,I,B,i,L,J,M,j,p,c,U,g,Y,rfl,hb,hs,hi,y,t1,t,hc,ht,m,X,r,p1,C,p3,D,Z,o,q):=h
 refine {b,pw,S,d,a,F,A,sp,s,O,u,nt,I,B,i,L,J,M,j,p,c,U,g,Y,ρ,hb,hs,hi,y,t1,t,hc,ht,m,X,r,p1,C,D,Z,λj n e l=>{n,o j n e l},λz=>absurd z ∎,?_,λ_ _=>q}
 rintro _ ⟨j,n,x,e,l,v,T⟩
 rw [o j n e l] at v
 cases v
 exact absurd rfl T
end
section
variable {P:Program} {w:World} {K:Frag} {mg:Str->Option Value} {base:Heap} {N:Cn} {c:Nat->Addr} (W:Wd P w K mg base N c)
include W
def Pd:eA P w K mg base dI N.CB "check_moment" 2 (vQ N.CB):=(wK W).to Py
def Fn:eA P w K mg base dI N.CB "held_piece" 3 (Bc N.CB N.CP):=(rQ W).to Xf
def Pg:eA P w K mg base 50#0 N.CB "lend" 6 (vR N.CB N.CP (c 1) N.T1):=Ph (W.d44.of λF=>(bN.lift (Ij F (Pd W) W)).both ((Ce F W).mono 8#0)) W
def Ig:eA P w K mg base 50#0 N.CB "tell" 5 (pN N.CB N.CS N.CP (c 1) (c 2) (c 3) (c 4) (c 5)):=W.d46.of λF=>Ow (We F ((rL (Fn W) W).to Hl) W) (Ov F W) (Ox F (rL (Fn W) W) W)
end
inductive Yv (K:Frag) (vs:List V) (H:Hp) (Q:VK) (E0_:XK):Prop|mk (a:Addr) (ns:List Int) (k:Nat) (_:vs=[.ref a,.int k]) (_:cQ K H a 32#0) (_:ns.length<=63) (_:∀c,Q (.int c) H)
def BS (K:Frag):Sp:=Yv K
def sM:Int:=10 ^ 18+9
inductive Td (vs:List V) (H:Hp) (Q:VK) (E0_:XK):Prop|mk (c:Int) (m:Nat) (_:vs=[.int c,.int m]) (_:m<=20) (_:∀(l:Addr) (xs:List Int) (H':Hp),aJ H H'->xs.length=m->(∀x ∈ xs,0<=x/\x<sM)->H' l=some (.lst (xs.map V.int))->Q (.ref l) H')
def Ur:Sp:=Td
section
variable {P:Program} {w:World} {K:Frag} {mg:Str->Option Value} {base:Heap} {N:Cn} {c:Nat->Addr}
def CU:aL ["_law_script","_law_k"] ["_law_script","_law_k"] (aG Zr):=2#0
def Ft (W:3#0):jP P w K mg base dI "_law_cell_at" 1 (BS K):=W.d13.of λF=>by
 refine F.ok CU (λi H Q E h=>?_) (λg A d s H i Q E m h=>?_)
 ·let (a,b,k,rfl,_):=h
  rfl
 ·intro X D
  let (a,b,k,rfl,e,n,q):=h
  refine {_,aE (bP (bB gR (pv 1) (bD cC 33#0 W.G.len PySem.boot_len (aA (pv 0) aF)) (aX _)) (aH (aW (bZ gD (pv 0) (pv 1) 19#0))) aZ)
   (aH (aW aS)),?_}
  refine {_,ρ,_,ρ,a,_,ρ,.inl e,_,_,ρ,ρ,_,ρ,?_}
  refine fT (λf=>?_) (λf=>q 0)
  let l:k<b.length:=by
   have:=of_decide_eq_true f;rw [g7] at this;omega
  refine {_,ρ,_,ρ,a,_,_,_,ρ,ρ,e,bH (j:=k) (v:=V.int b[k]) (by rw [j1,e7 l];rfl),q _}
def Ep:aL ["_law_cell","_law_many","_law_found","_law_rest","_law_number","_law_k"] ["_law_cell","_law_many"] (aG wD):=2#0
def rR (W:3#0):jP P w K mg base dI "_law_draws" 1 Ur:=W.d14.of λ{f _} F=>by
 refine F.ok Ep 11#0 (λa6 A S s H vs Q E hr h=>?_)
 ·let (c,m,rfl,_):=h
  rfl
 ·intro X D
  let (c,m,rfl,hm,q):=h
  let nd:=Ep.nd
  let G1:=W.G.len
  let Y:(0:Int)<10 ^ (15:Int).toNat/\(10:Int) ^ (15:Int).toNat<2 ^ 64:=by decide
  let Z:=Y.1
  let a3:(0:Int)<10 ^ (18:Int).toNat+9:=by decide
  let d:(10:Int) ^ (18:Int).toNat+9=sM:=by decide
  let B:(10:Int) ^ (15:Int).toNat=1000000000000000:=by decide
  let M:sM=1000000000000000009:=by decide
  refine Wp.ex (gY (n:=2) nd rfl iT (i9 _) λl H1 hl s1 e1=>?_)
  let k:∀{U:Hp} {o:HO},aJ H U->aJ H (upd U l o):=λ{U o} e b u z=>by
   rw [aC (aD z hl)]
   exact e b u z
  let sz:∀{n:Nat},n<=1000->n<sizeLine:=λh=>iF h
  show 3
  let k3:∀r:Int,0<=r->Wp (hX dI P w K mg base ["_law_cell","_law_many","_law_found","_law_rest","_law_number","_law_k"] "_law_draws" (aG wD) f a6 A S s H E).nox ((bQ wD).drop 3) {λ_ H'=>Q .non H',Q,λ_ _=>False,λ_ _=>False} [some (.int c),some (.int m),some (.ref l),some (.int r),none,none] H1:=λr hr=>by
   refine qH z5 (λt σ U=>∃(I:List Int) (r:Int),t=m-I.length/\σ=[some (.int c),some (.int m),some (.ref l),some (.int r),none,none]/\U l=some (.lst (I.map V.int))/\aJ H U/\I.length<=m/\(∀x ∈ I,0<=x/\x<sM)/\0<=r) _
    {[],r,ρ,ρ,e1,s1,i9 _,(λx hx=>absurd hx 9#0),hr} λt σ U h=>?_
   let (I,r,rfl,rfl,hL,hs,hy,hb,a7):=h
   by_cases h1:1<r/\I.length<m
   ·refine .inl {?_,λD' T=>?_}
    ·apply Tv.is;apply mF;symm;intro _;symm
     rw [g7,decide_eq_true h1.1,decide_eq_true ∎]
     rfl
    ·apply tS;symm;symm;exact hL;(rw [g7];exact sz ∎);rotate_left;rfl;exact uM PySem.F.plainAttrs_list PySem.F.slot_list_append PySem.F.type_list_append fI aR (aA aR aF)
     show 3
     refine bV (T.nx _ _ {m-(I.length+1),∎,I++[r % 10 ^ (15:Int).toNat],_,by rw [j5];rfl,ρ,by rw [aB,u5];rfl,k hs,by rw [j5];exact h1.2,λx hx=>?_,?_})
     ·rcases j6.mp hx with hx|hx
      ·exact hb x hx
      ·have:x=r % 10 ^ (15:Int).toNat:=by simpa using hx
       rw [this,B,M]
       omega
     ·rw [B]
      omega
   refine .inr {?_,?_}
   ·apply Tv.is;apply mF;symm;intro _;symm
    rw [g7,Bool.and_eq_false_iff]
    by_cases h2:1<r
    ·exact .inr (decide_eq_false ∎)
    ·exact .inl (decide_eq_false h2)
   show 4
   refine Kh (n:=5) (j:=(m:Int)+3) z5 W.G.range nd rfl 15#0 ∎ (λi σ H3=>∃(g:List Int) (a:Int) (v:Option V) (r:Int),σ=[some (.int c),some (.int m),some (.ref l),some (.int r),some (.int a),v]/\H3 l=some (.lst (g.map V.int))/\aJ H H3/\g.length<=20+i/\i<=g.length+3/\(∀x ∈ g,0<=x/\x<sM)/\0<=a/\a<sM+48271)
    {I,_,none,_,ρ,hL,hs,∎,∎,hb,by rw [d,M];omega,by rw [d,M];omega} (λi σ H3 D' hi h T=>?_) λσ H3 h=>?_
   ·let (g,a,v,r2,rfl,J,C,a4,a0,L,a5,O):=h
    let cm:Jy a a:=.inl {by rw [M] at O;omega,by rw [M] at O;omega}
    let nn:∀z:Int,0<=z % (10 ^ (18:Int).toNat+9)/\z % (10 ^ (18:Int).toNat+9)<sM:=λz=>by
     rw [d,M]
     omega
    let nx:=nn (a * a+48271 * a+(0+(i:Int)))
    show 4
    apply tR;symm
    ·intro h3
     let a1:∀y:Int,Jy ((a * a+48271 * a+(0+(i:Int))) % (10 ^ (18:Int).toNat+9)) y:=λy=>.inl ⟨∎,by have:=nx.2;rw [M] at this;omega⟩
     let a8:=a1 ((a * a+48271 * a+(0+(i:Int))) % (10 ^ (18:Int).toNat+9) / 1009+69621)
     apply tS;symm;symm;exact J;(rw [g7];exact sz ∎);rotate_left;rfl;exact uM PySem.F.plainAttrs_list PySem.F.slot_list_append PySem.F.type_list_append fI aR (aA aR aF)
     refine bV (bV (T.nx _ _ {g++[_],_,_,_,ρ,by rw [aB,u5];rfl,k C,by rw [j5];show g.length+1<=_;omega,by rw [j5];show _<=g.length+1+3;omega,λx hx=>?_,nx.1,∎}))
     rcases j6.mp hx with hx|hx
     ·exact L x hx
     ·have:=v9.mp hx
      rw [this]
      exact nn _
    ·intro h3
     let a9:¬ (2:Int)<0+(i:Int):=by simpa using h3
     exact bV (bV (T.nx _ _ {g,_,_,_,ρ,J,C,∎,∎,L,nx.1,∎}))
   ·let (g,a,v,r2,rfl,J,C,a4,a0,L,a5,O):=h
    refine eC {_,rH Ef (pv 2) Vr (mP (pv 1)),?_}
    refine {_,ρ,_,ρ,_,ρ,l,_,ρ,cQ.of J,λp hp=>?_}
    let a2:m<=g.length:=∎
    refine q p (g.take m) _ (λb o z=>by rw [aC (aD (C b o z) hp)];exact C b o z) (by rw [u6];omega) (λx hx=>L x (C1 hx)) ?_
    rw [aB]
    have:oN (g.map V.int) none (some (m:Int))=(g.take m).map V.int:=by
     unfold oN;rw [HT.sIx_none,HT.sIx_nat,g7,P1,List.map_take,B2 a2,Nat.sub_zero]
    rw [this]
  apply tR;symm
  ·intro h;let h:=of_decide_eq_true h;show 3;exact bV (k3 _ ∎)
  ·exact λ_=>bV (k3 0 (j8 0))
def jH.same {p:Int × Int} (e:aJ H H') (h:jH H v p):jH H' v p:=by
 let (b,z,q):=h;exact {b,z,e _ _ q}
structure pK (ps:List (Int × Int)):Prop where
 lt:∀(k:Nat) (l h:Int),ps[k]?=some (l,h)->l<h
 up:∀(k:Nat) (l h l' h':Int),ps[k]?=some (l,h)->ps[k+1]?=some (l',h')->h<=l'
 lo:∀(k:Nat) (l h:Int),ps[k]?=some (l,h)->-1000000000000000000<l/\h<1000000000000000000/\h-l<=30
 few:ps.length<=4
def wU (H:Hp) (p:Addr) (ps:List (Int × Int)):Prop:=∃xs,H p=some (.tup xs)/\Paired (jH H) xs ps/\pK ps
theorem wU.same {H H':Hp} {p:Addr} {ps:List (Int × Int)} (e:aJ H H') (h:wU H p ps):wU H' p ps:=by
 let (b,d,a,f):=h;exact {b,e _ _ d,aO (λ_ _=>jH.same e) a,f}
inductive Yh (vs:List V) (H:Hp) (Q:VK) (E0_:XK):Prop|mk (c:Int) (_:vs=[.int c]) (_:∀(p:Addr) (ps:List (Int × Int)) (H':Hp),aJ H H'->wU H' p ps->Q 49#0 H')
def BJ:Sp:=Yh
def Vs {ns:List Int} (b:0<=i) (d:i<ns.length):∃z,z ∈ ns/\oR 32#0 i=some (.int z):=by
 let (k,rfl):=Int.eq_ofNat_of_zero_le b;let a:k<ns.length:=∎;exact {ns[k],List.getElem_mem a,bH (by rw [j1,e7 a];rfl)}
def Fi {ns:List Int} (a:k<ns.length):oR 32#0 (k:Int)=some (.int ns[k]):=bH (by rw [j1,e7 a];rfl)
def pK.nil:pK []:={λk l h z=>by simp at z,λk l h a b z=>by simp at z,λk l h z=>by simp at z,i9 _}
def pK.snoc {ps:List (Int × Int)} {g l:Int} (r:pK ps) (f:∀(k:Nat) (a b:Int),ps[k]?=some (a,b)->b<=g) (s:g<=l) (h2:l<h) (p:-1000000000000000000<l/\h<1000000000000000000/\h-l<=30) (t:ps.length<4):pK (ps++[(l,h)]):=by
 let d:∀(k:Nat) (a b:Int),(ps++[(l,h)])[k]?=some (a,b)->ps[k]?=some (a,b)\/(k=ps.length/\a=l/\b=h):=λk a b z=>by
  rcases L9 k ps.length with c|c|c
  ·exact .inl (by rwa [B1 c] at z)
  ·subst c;simp at z;exact .inr {(rfl),z.1.symm,z.2.symm}
  ·rw [B7 (by rw [j5,M4];omega)] at z;cases z
 refine {λk a b z=>?_,λk a b m j z o=>?_,λk a b z=>?_,by rw [j5,M4];omega}
 ·rcases d k a b z with z|⟨_,rfl,rfl⟩
  ·exact r.lt k a b z
  ·exact h2
 ·rcases d (k+1) m j o with n|⟨e,rfl,rfl⟩
  ·let u:k+1<ps.length:=(e8.mp n).1;rcases d k a b z with i|⟨e,_,_⟩
   ·exact r.up k a b m j i n
   ·omega
  ·rcases d k a b z with i|⟨q,_,_⟩
   ·have:=f k a b i;omega
   ·omega
 ·rcases d k a b z with z|⟨_,rfl,rfl⟩
  ·exact r.lo k a b z
  ·exact p
def Ma:aL ["_law_cell","_law_xs","_law_low","_law_found","_law_k","_law_high"] ["_law_cell"] (aG Zp):=2#0
def Wh (W:3#0):jP P w K mg base dI "_law_work" 2 BJ:=W.d15.of λF=>by
 refine F.ok Ma 11#0 (λa8 A a2 s H vs Q E hr h=>?_)
 ·let (c,rfl,_):=h
  rfl
 ·intro X D
  let (c,rfl,q):=h
  let M:=Ma.nd
  let a1:(10:Int) ^ (17:Int).toNat=100000000000000000:=by decide
  refine Wp.ex (cF (n:=1) M rfl (dO (vs:=[.int c,.int 10]) (rR W) hr aN 15#0 {c,10,ρ,by decide,λlx e H1 s1 hx a9 Y=>?_}))
  let pn:∀k:Nat,(hk:k<10)->oR (e.map V.int) (k:Int)=some (.int (e[k]'∎)):=λk hk=>Fi ∎
  let p0:oR (e.map V.int) 0=some (.int e[0]):=pn 0 8#0
  let p1:oR (e.map V.int) 1=some (.int e[1]):=pn 1 8#0
  let (z0,m0,e0):=Vs (ns:=[0,-7,5,10 ^ (17:Int).toNat,3-10 ^ (17:Int).toNat,-1]) (i:=e[0] % 6) (B5 _ 8#0) (z8 _ 8#0)
  refine cF (n:=2) M rfl (gX (vs:=[.int 0,.int (-7),.int 5,.int (10 ^ (17:Int).toNat),.int (3-10 ^ (17:Int).toNat),.int (-1)]) 15#0 (by show 6<=1000;decide) (λH' I=>?_) e0 λH2 U=>?_)
  ·have:=I _ _ Y
   symm
  let b0:-100000000000000000<=z0/\z0<=100000000000000000:=by
   rw [a1] at m0;simp only [i3,List.not_mem_nil,or_false] at m0;omega
  refine gY (n:=3) M rfl iT (i9 _) λO H3 hf s3 ef=>?_;let a0:lx≠O:=aD (U _ _ Y) hf;let Hf:H O=none:=s1.free (U.free hf);let (z1,m1,e1):=Vs (ns:=[1,2,3,4,1,0]) (i:=e[1] % 6) (B5 _ 8#0) (z8 _ 8#0);let b1:0<=z1/\z1<=4:=(by decide:∀z ∈ ([1,2,3,4,1,0]:List Int),0<=z/\z<=4) z1 m1;refine Hg (n:=4) z5 W.G.range M rfl (gX (vs:=[.int 1,.int 2,.int 3,.int 4,.int 1,.int 0]) 15#0 (by show 6<=1000;decide) (λH' I=>?_) e1 λH4 s4=>{z1,λi σ L=>∃(d:Int) (vs:List V) (m:List (Int × Int)) (u v:Option V),σ=[some (.int c),some (.ref lx),some (.int d),some (.ref O),u,v]/\L lx=some (.lst (e.map V.int))/\aJ H L/\L O=some (.lst vs)/\Paired (jH L) vs m/\pK m/\m.length=i /\
   (∀(k:Nat) (a b:Int),m[k]?=some (a,b)->b<=d)/\-100000000000000000<=d/\d<=100000000000000000+40 * (i:Int),ρ,∎,{z0,[],[],none,none,ρ,s4 _ _ (s3 _ _ (U _ _ Y)),s1.trans (U.trans (s3.trans s4)),s4 _ _ ef,.nil,pK.nil,ρ,(λk a b z=>by simp at z),b0.1,∎},λi σ L D' hi h T=>?_,λσ L h=>?_})
  ·have:=I _ _ (s3 _ _ (U _ _ Y));symm
  ·let (d,vs,m,u,v,rfl,y,s5,J,pr,g,C,f,a5,a4):=h;let a7:i<4:=∎;let (j,m2,e2):=Vs (ns:=[0,0,1,3]) (i:=e[2+2 * i] % 4) (B5 _ 8#0) (z8 _ 8#0);let b2:0<=j/\j<=3:=(by decide:∀z ∈ ([0,0,1,3]:List Int),0<=z/\z<=3) j m2;let p2:oR (e.map V.int) ((2:Int)+2 * (0+(i:Int)))=some (.int e[2+2 * i]):=by rw [show (2:Int)+2 * (0+(i:Int))=((2+2 * i:Nat):Int) by omega];exact pn _ ∎
   let p3:oR (e.map V.int) ((3:Int)+2 * (0+(i:Int)))=some (.int e[3+2 * i]):=by rw [show (3:Int)+2 * (0+(i:Int))=((3+2 * i:Nat):Int) by omega];exact pn _ ∎
   refine cF (n:=2) M rfl (wQ (Vl.ex (v:=.int d) 15#0 {d,ρ,gX (vs:=[.int 0,.int 0,.int 1,.int 3]) 15#0 (by show 4<=1000;decide) (λH' I=>?_) e2 λH6 t1=>{j,ρ,?_}}))
   ·have:=I _ _ y;symm
   let a3:=t1 _ _ y;let (B,m3,e3):=Vs (ns:=[3,9,9,30]) (i:=e[2+2 * i] / 4 % 4) (B5 _ 8#0) (z8 _ 8#0);let b3:3<=B/\B<=30:=(by decide:∀z ∈ ([3,9,9,30]:List Int),3<=z/\z<=30) B m3;let r0:0<=e[3+2 * i] % B/\e[3+2 * i] % B<30:=⟨B5 _ ∎,by have:=z8 e[3+2 * i] (show (0:Int)<B by omega);omega⟩;refine cF (n:=5) M rfl (wQ (Vl.ex (v:=.int (d+j+1)) 15#0 {_,ρ,EK (i:=e[3+2 * i]) 15#0 (gX (vs:=[.int 3,.int 9,.int 9,.int 30]) 15#0 (by show 4<=1000;decide) (λH' I=>?_) e3 λH7 t2=>{B,ρ,∎,_,ρ,?_})}))
   ·have:=I _ _ a3;symm
   let l:=t1.trans t2;generalize e[3+2 * i] % B=r at r0 ⊢;let a6:vs.length<=4:=by rw [pr.length];exact g.few
   let S:=l _ _ J;refine lZ (vs:=[.int (d+j),.int (d+j+1+r)]) 15#0 15#0 S ∎ (by show 2<=1000;decide) (λt H8 nt k8 l8 t8=>?_) rfl 55#0;show 2;refine bV (T.nx _ _ {d+j+1+r,vs++[.ref t],m++[(d+j,d+j+1+r)],_,_,ρ,k8 _ _ (l _ _ y) a0,λb o z=>k8 _ _ (l _ _ (s5 b o z)) (aD z Hf),l8,?_,g.snoc f ∎ ∎ { ∎,∎,∎} ∎,?_,λk a b z=>?_,∎,∎})
   ·refine Paired.snoc (aO (λx p hp=>?_) pr) {(t),ρ,t8};let (b,z,Z):=hp;let Z:=l _ _ Z;exact {b,z,k8 _ _ Z (aK Z S (by intro w;cases w))}
   ·rw [j5,C];rfl
   ·rcases L9 k m.length with cc|cc|cc
    ·rw [B1 cc] at z;have:=f k a b z;omega
    ·subst cc;simp at z;omega
    ·rw [B7 (by rw [j5,M4];omega)] at z;cases z
  ·let (d,vs,m,u,v,rfl,y,s5,J,pr,g,C,f,a5,a4):=h;refine eC {_,bS dP 33#0 W.G.tuple jE (aA (pv 3) aF),?_};refine {_,ρ,O,vs,ρ,.inl {cQ.of J,λp hp=>?_}};exact q p m _ (s5.trans (aI hp)) {vs,aB,aO (λ_ _=>jH.same (aI hp)) pr,g}
def jM {l:Addr} (n:H l=none) (o:HO):∃a,upd H l o=a/\aJ H a/\a l=some o:={_,ρ,aI n,aB}
inductive FH (vs:List V) (H:Hp) (Q:VK) (E0_:XK):Prop|mk (c:Int) (_:vs=[.int c]) (_:∀(p:Addr) (sp ev le:Int) (H':Hp),aJ H H'->H' p=some (.tup [.int sp,.int ev,.int le])->1<=sp->sp<=5->1<=ev->ev<=4->ev<=le->le<=7->Q 49#0 H')
def HP:Sp:=FH
def Vi (x:Int):Int:=x * x % 13-6
inductive Ye (vs:List V) (H:Hp) (Q:VK) (E0_:XK):Prop|mk (x:Int) (_:vs=[.int x]) (_:-2000000000000000000<=x) (_:x<=2000000000000000000) (_:Q (.int (Vi x)) H)
def BH:Sp:=Ye
def Mj:aL ["_law_cell","_law_xs","_law_every"] ["_law_cell"] (aG xU):=2#0
def DP (W:3#0):jP P w K mg base dI "_law_bounds" 2 HP:=W.d16.of λF=>by
 refine F.ok Mj (λn H Q E h=>?_) (λx A e s H n Q E g h=>?_)
 ·let (c,rfl,_):=h
  rfl
 ·intro X D
  let (c,rfl,q):=h
  refine {_,aE (cG (i:=1) Mj.nd rfl 29#0 (aU (rR W) g aN (aA (pv 0) (aA aS aF))))
   (aE (cG (i:=2) Mj.nd rfl 29#0 (bU eI aS (bU oF (bZ gD (pv 1) aS 19#0) aS)))
   (aH (aW (bY (aA (bU eI aS (bU oF (bZ gD (pv 1) aS 19#0) aS)) (aA (pv 2) (aA (bU eI (pv 2) (bU oF (bZ gD (pv 1) aS 19#0) aS)) aF))))))),?_}
  refine {_,ρ,c,3,ρ,by decide,λb a B j C r d=>?_}
  have l:oR (a.map V.int) ((0:Nat):Int)=some (.int a[0]):=Fi (k:=0) ∎
  have o:oR (a.map V.int) ((1:Nat):Int)=some (.int a[1]):=Fi (k:=1) ∎
  have v:oR (a.map V.int) ((2:Nat):Int)=some (.int a[2]):=Fi (k:=2) ∎
  have z:=B5 a[0] (show (5:Int)≠0 by decide)
  have p:=z8 a[0] (show (0:Int)<5 by decide)
  have y:=B5 a[1] (show (4:Int)≠0 by decide)
  have u:=z8 a[1] (show (0:Int)<4 by decide)
  have G:=B5 a[2] (show (4:Int)≠0 by decide)
  have m:=z8 a[2] (show (0:Int)<4 by decide)
  refine {_,ρ,b,_,_,_,ρ,ρ,cQ.of d,o,_,_,ρ,ρ,(by show (0:Int)<4;decide),_,_,ρ,ρ,?_}
  refine {_,ρ,b,_,_,_,ρ,ρ,cQ.of d,l,_,_,ρ,ρ,(by show (0:Int)<5;decide),_,_,ρ,ρ,_,ρ,_,ρ,_,ρ,b,_,_,_,ρ,ρ,cQ.of d,v,_,_,ρ,ρ,(by show (0:Int)<4;decide),_,_,ρ,ρ,by show 3<=sizeLine;decide,λt f=>?_}
  exact q t _ _ _ _ (j.trans (aI f)) aB ∎ ∎ ∎ ∎ ∎ ∎
def BY:aL ["_law_place"] ["_law_place"] (aG Ew):=2#0
def Wf (W:3#0):jP P w K mg base dI "_law_result" 1 BH:=W.d19.of λF=>by
 refine F.ok BY (λb H Q E h=>?_) (λd A a s H b Q E f h=>?_)
 ·let (x,rfl,_):=h
  rfl
 ·intro X D
  let (x,rfl,g,e,q):=h
  refine {_,aH (aW (bU oE (bU oF (bU By (pv 0) (pv 0)) aS) aS)),?_}
  refine {_,ρ,_,ρ,_,_,ρ,ρ,?_,_,_,ρ,ρ,(by show (0:Int)<13;decide),_,_,ρ,ρ,q}
  exact .inl { ∎,∎}
structure S8 where
 nn:Int
 nt:Int
 mo:Int
 cs:List Pc
 kv:List (bJ × V)
 ns:List Int
 vf:Int->Int
structure Wg (ws:Lm.Ps):Prop where
 sh:Lm.Sh ws
 bd:∀x,Lm.mem ws x->-(2 ^ 60)<=x/\x<2 ^ 60
 sz:∀l:List Int,l.Nodup->(∀x ∈ l,Lm.mem ws x)->l.length<128
 ln:ws.length<=10
structure Iv (ws:Lm.Ps) (sp:Int) (t:Nat) (s:S8):Prop where
 lm:∀c ∈ s.cs,c.l<=c.m/\c.m<=c.h/\c.l<c.h
 ap:s.cs.Pairwise (λc e=>c.h<=e.l\/e.h<=c.l)
 cv:∀x,Lm.mem ws x↔∃c ∈ s.cs,c.l<=x/\x<c.h
 op:∀c ∈ s.cs,∀t,c.o=some t->0<=t.1/\t.1<s.nt/\c.m<c.h/\t.2.2<=s.mo+sp/\PyData.strOk t.2.1=true
 tk:s.cs.Pairwise (λc e=>∀t u,c.o=some t->e.o=some u->t.1≠u.1)
 nx:∀x,x ∈ s.ns↔∃c ∈ s.cs,c.l<=x/\x<c.m
 nm:(s.cs.map Pc.n).Nodup
 nl:∀c ∈ s.cs,0<=c.n/\c.n<s.nn
 hd:Holds s.vf s.kv s.ns
 ct:s.cs.length<=4+t
 n0:0<=s.nt
theorem lT {α:Type}:∀{l:List α} {k:Nat} {c:α},l[k]?=some c->l.Perm (c::l.eraseIdx k)
 | x::l,0,c,h=>by cases h;exact List.Perm.refl _
 | x::l,k+1,c,h=>((lT (l:=l) (k:=k) (by simpa using h)).cons x).trans (List.Perm.swap ..)
theorem iH {α:Type}:∀{l:List α} {k:Nat} {c c':α},l[k]?=some c->(l.set k c').Perm (c'::l.eraseIdx k)
 | x::l,0,c,c',h=>List.Perm.refl _
 | x::l,k+1,c,c',h=>((iH (l:=l) (k:=k) (c':=c') (by simpa using h)).cons x).trans (List.Perm.swap ..)
section
variable {ws:Lm.Ps} {sp:Int} {t:Nat} {s:S8}
def Iv.perm {e:List Pc} (h:46#0) (p:s.cs.Perm e):Iv ws sp t { s with cs:=e } where
 lm:=λc d=>h.lm c (p.mem_iff.mpr d)
 ap:=(p.pairwise_iff (λ{a b} z=>z.symm)).mp h.ap
 cv:=λx=>(h.cv x).trans {λ⟨c,d,z⟩=>{c,p.mem_iff.mp d,z},λ⟨c,d,z⟩=>{c,p.mem_iff.mpr d,z}}
 op:=λc d=>h.op c (p.mem_iff.mpr d)
 tk:=(p.pairwise_iff (λ{a b} z t u f g=>(z u t g f).symm)).mp h.tk
 nx:=λx=>(h.nx x).trans {λ⟨c,d,z⟩=>{c,p.mem_iff.mp d,z},λ⟨c,d,z⟩=>{c,p.mem_iff.mpr d,z}}
 nm:=((p.map Pc.n).nodup_iff).mp h.nm
 nl:=λc d=>h.nl c (p.mem_iff.mpr d)
 hd:=h.hd
 ct:=by have:=p.length_eq;have:=h.ct;show e.length<=_;omega
 n0:=h.n0
def Iv.up (h:46#0):Iv ws sp (t+1) s:={ h with ct:=by have:=h.ct;omega }
def Iv.re {c c':Pc} {R:List Pc} {nt' mo':Int} {kv':List (bJ × V)} {ns':List Int} {vf':Int->Int} (h:Iv ws sp t { s with cs:=c::R }) (e1:c'.n=c.n) (f:c'.l=c.l) (a:c'.h=c.h) (D:c.m<=c'.m) (I:c'.m<=c.h)
  (A:∀u,c'.o=some u->0<=u.1/\u.1<nt'/\c'.m<c'.h/\u.2.2<=mo' + sp/\PyData.strOk u.2.1=true) (C:∀u,c'.o=some u->(∃v,c.o=some v/\v.1=u.1)\/s.nt<=u.1) (F:s.nt<=nt') (G:s.mo<=mo')
  (b:∀x,x ∈ ns'↔x ∈ s.ns\/(c.m<=x/\x<c'.m)) (d:Holds vf' kv' ns'):Iv ws sp t { s with nt:=nt',mo:=mo',cs:=c'::R,kv:=kv',ns:=ns',vf:=vf' }:=by
 let p:=u7.mp h.ap;let k:=u7.mp h.tk;let g:=h.nm;simp only [x9] at g;let H:=h.lm c (i4 ..);refine {λx hx=>?_,u7.mpr {λx hx=>?_,p.2},λx=>(h.cv x).trans ?_,λx hx u e=>?_,u7.mpr {λx hx u v r j=>?_,k.2},λx=>?_,?_,λx hx=>?_,d,?_,?_}
 ·rcases i3.mp hx with rfl|hx
  ·exact { ∎,∎,∎}
  ·exact h.lm x (g6 _ hx)
 ·have:=p.1 x hx;rw [f,a];exact this
 ·constructor
  ·rintro⟨y,hy,z⟩;rcases i3.mp hy with rfl|hy
   ·exact {c',i4 ..,by rw [f,a];exact z}
   ·exact {y,g6 _ hy,z}
  ·rintro⟨y,hy,z⟩;rcases i3.mp hy with rfl|hy
   ·exact {c,i4 ..,by rw [<- f,<- a];exact z}
   ·exact {y,g6 _ hy,z}
 ·rcases i3.mp hx with rfl|hx
  ·exact A u e
  ·have:=h.op x (g6 _ hx) u e;let E:u.1<s.nt:=this.2.1;let J:u.2.2<=s.mo+sp:=this.2.2.2.1;exact {this.1,by show u.1<nt';omega,this.2.2.1,by show u.2.2<=mo' + sp;omega,this.2.2.2.2}
 ·let i:=(h.op x (g6 _ hx) v j).2.1;let i:v.1<s.nt:=i;rcases C u r with ⟨w,B,e⟩|e
  ·rw [<- e];exact k.1 x hx w v B j
  ·omega
 ·rw [show x ∈ ({ s with nt:=nt',mo:=mo',cs:=c'::R,kv:=kv',ns:=ns',vf:=vf' }:S8).ns↔_ from b x,show x ∈ s.ns↔_ from h.nx x];constructor
  ·rintro(⟨y,hy,z⟩|z)
   ·rcases i3.mp hy with rfl|hy
    ·exact {c',i4 ..,∎,∎}
    ·exact {y,g6 _ hy,z}
   ·exact {c',i4 ..,∎,∎}
  ·rintro⟨y,hy,z⟩;rcases i3.mp hy with rfl|hy
   ·by_cases q:x<c.m
    ·exact .inl {c,i4 ..,∎,q}
    ·exact .inr { ∎,z.2}
   ·exact .inl {y,g6 _ hy,z}
 ·show (c'.n::R.map Pc.n).Nodup;rw [e1];exact g
 ·rcases i3.mp hx with rfl|hx
  ·rw [e1];exact h.nl c (i4 ..)
  ·exact h.nl x (g6 _ hx)
 ·exact h.ct
 ·have:=h.n0;show 0<=nt';have:0<=s.nt:=this;omega
def Iv.cut {c:Pc} {R:List Pc} {nt' mo' pl:Int} {o:Option (Int × Str × Int)} (h:Iv ws sp t { s with cs:=c::R }) (B:c.m<pl) (A:pl<c.h) (b:0<=s.nn)
  (g:∀u,o=some u->s.nt<=u.1/\u.1<nt'/\u.2.2<=mo' + sp/\PyData.strOk u.2.1=true) (E:s.nt<=nt') (F:s.mo<=mo'):Iv ws sp (t+1) { s with nn:=s.nn+1,nt:=nt',mo:=mo',cs:={(s.nn),pl,c.h,pl,o}::{ c with h:=pl }::R }:=by
 let d:=u7.mp h.ap;let i:=u7.mp h.tk;let k:(c.n::R.map Pc.n).Nodup:=h.nm;let w:=h.lm c (i4 ..);let p:=h.nl c (i4 ..);let G:0<=s.nt:=h.n0;refine {λx hx=>?_,u7.mpr {λx hx=>?_,u7.mpr {λx hx=>?_,d.2}},λx=>(h.cv x).trans ?_,λx hx u e=>?_,u7.mpr {λx hx u v j f=>?_,u7.mpr {λx hx=>i.1 x hx,i.2}},λx=>(h.nx x).trans ?_,?_,λx hx=>?_,h.hd,?_,?_}
 ·rcases i3.mp hx with rfl|hx
  ·exact {by show pl<=pl;omega,by show pl<=c.h;omega,by show pl<c.h;omega}
  rcases i3.mp hx with rfl|hx
  ·exact {w.1,by show c.m<=pl;omega,by show c.l<pl;omega}
  ·exact h.lm x (g6 _ hx)
 ·rcases i3.mp hx with rfl|hx
  ·exact .inr (by show pl<=pl;omega)
  ·have:=d.1 x hx;show c.h<=x.l\/x.h<=pl;omega
 ·have:=d.1 x hx;show pl<=x.l\/x.h<=c.l;omega
 ·constructor
  ·rintro⟨y,hy,z⟩;rcases i3.mp hy with rfl|hy
   ·by_cases q:x<pl
    ·exact {_,g6 _ (i4 ..),z.1,q}
    ·exact {_,i4 ..,by show pl<=x;omega,z.2}
   ·exact {y,g6 _ (g6 _ hy),z}
  ·rintro⟨y,hy,z⟩;rcases i3.mp hy with rfl|hy
   ·let C:pl<=x:=z.1;exact {c,i4 ..,∎,z.2}
   rcases i3.mp hy with rfl|hy
   ·let I:x<pl:=z.2;exact {c,i4 ..,z.1,∎}
   ·exact {y,g6 _ hy,z}
 ·let a:∀y ∈ c::R,y.o=some u->0<=u.1/\u.1<nt'/\y.m<y.h/\u.2.2<=mo' + sp/\PyData.strOk u.2.1=true:=λy hy e=>by
   have:=h.op y hy u e;let r:u.1<s.nt:=this.2.1;let J:u.2.2<=s.mo+sp:=this.2.2.2.1;exact {this.1,∎,this.2.2.1,∎,this.2.2.2.2}
  rcases i3.mp hx with rfl|hx
  ·have:=g u e;exact { ∎,this.2.1,A,this.2.2}
  rcases i3.mp hx with rfl|hx
  ·have:=a c (i4 ..) e;exact {(this.1),this.2.1,B,this.2.2.2}
  ·exact a x (g6 _ hx) e
 ·let H:=(g u j).1;let D:v.1<s.nt:=by
   rcases i3.mp hx with rfl|hx
   ·exact(h.op c (i4 ..) v f).2.1
   ·exact(h.op x (g6 _ hx) v f).2.1
  omega
 ·constructor
  ·rintro⟨y,hy,z⟩;rcases i3.mp hy with rfl|hy
   ·exact {_,g6 _ (i4 ..),z}
   ·exact {y,g6 _ (g6 _ hy),z}
  ·rintro⟨y,hy,z⟩;rcases i3.mp hy with rfl|hy
   ·exact absurd z (by show ¬ (pl<=x/\x<pl);omega)
   rcases i3.mp hy with rfl|hy
   ·exact {c,i4 ..,z}
   ·exact {y,g6 _ hy,z}
 ·show (s.nn::c.n::R.map Pc.n).Nodup;refine A0.mpr {λz=>?_,k};let (y,hy,e):=v8.mp (show s.nn ∈ (c::R).map Pc.n from z);have:=(h.nl y hy).2;have:y.n<s.nn:=this;omega
 ·rcases i3.mp hx with rfl|hx
  ·exact {b,by show s.nn<s.nn+1;omega}
  let a:∀y ∈ c::R,0<=y.n/\y.n<s.nn+1:=λy hy=>by
   have:=h.nl y hy;let r:y.n<s.nn:=this.2;exact {this.1,∎}
  rcases i3.mp hx with rfl|hx
  ·exact a c (i4 ..)
  ·exact a x (g6 _ hx)
 ·have:=h.ct;show (R.length+1)+1<=4+(t+1);have:R.length+1<=4+t:=this;omega
 ·show 0<=nt';omega
def Iv.join {c e:Pc} {R:List Pc} (h:Iv ws sp t { s with cs:=c::e::R }) (E:e.l=c.h) (b:e.unt=true):Iv ws sp t { s with cs:={ c with h:=e.h }::R }:=by
 let i:=u7.mp h.ap;let f:=u7.mp i.2;let d:=u7.mp h.tk;let r:=u7.mp d.2;let k:(c.n::e.n::R.map Pc.n).Nodup:=h.nm;let g:=A0.mp k;let w:=A0.mp g.2;let p:=h.lm c (i4 ..);let A:=h.lm e (g6 _ (i4 ..));let D:e.m=e.l:=by
  unfold Pc.unt at b;rw [A8] at b;exact of_decide_eq_true b.2
 let a:∀y ∈ R,y ∈ c::e::R:=λy hy=>g6 _ (g6 _ hy);refine {λx hx=>?_,u7.mpr {λx hx=>?_,f.2},λx=>(h.cv x).trans ?_,λx hx u j=>?_,u7.mpr {λx hx=>d.1 x (g6 _ hx),r.2},λx=>(h.nx x).trans ?_,?_,λx hx=>?_,h.hd,?_,h.n0}
 ·rcases i3.mp hx with rfl|hx
  ·exact {p.1,by show c.m<=e.h;omega,by show c.l<e.h;omega}
  ·exact h.lm x (a x hx)
 ·let F:=i.1 x (g6 _ hx);let B:=f.1 x hx;let C:=h.lm x (a x hx);show e.h<=x.l\/x.h<=c.l;omega
 ·constructor
  ·rintro⟨y,hy,z⟩;rcases i3.mp hy with rfl|hy
   ·exact {_,i4 ..,z.1,by show x<e.h;omega}
   rcases i3.mp hy with rfl|hy
   ·exact {_,i4 ..,by show c.l<=x;omega,z.2}
   ·exact {y,g6 _ hy,z}
  ·rintro⟨y,hy,z⟩;rcases i3.mp hy with rfl|hy
   ·let o:c.l<=x:=z.1;let v:x<e.h:=z.2;by_cases q:x<c.h
    ·exact {c,i4 ..,o,q}
    ·exact {e,g6 _ (i4 ..),∎,v}
   ·exact {y,a y hy,z}
 ·rcases i3.mp hx with rfl|hx
  ·have:=h.op c (i4 ..) u j;exact {this.1,this.2.1,by show c.m<e.h;omega,this.2.2.2}
  ·exact h.op x (a x hx) u j
 ·constructor
  ·rintro⟨y,hy,z⟩;rcases i3.mp hy with rfl|hy
   ·exact {_,i4 ..,z}
   rcases i3.mp hy with rfl|hy
   ·omega
   ·exact {y,g6 _ hy,z}
  ·rintro⟨y,hy,z⟩;rcases i3.mp hy with rfl|hy
   ·exact {c,i4 ..,z}
   ·exact {y,a y hy,z}
 ·show (c.n::R.map Pc.n).Nodup;exact A0.mpr {λz=>g.1 (g6 _ z),w.2}
 ·rcases i3.mp hx with rfl|hx
  ·exact h.nl c (i4 ..)
  ·exact h.nl x (a x hx)
 ·have:R.length+1+1<=4+t:=h.ct;show R.length+1<=4+t;omega
end
section
variable {ws:Lm.Ps} {sp:Int} {t:Nat} {s:S8}
def Iv.cons {k:Nat} {c:Pc} (h:46#0) (a:s.cs[k]?=some c):Iv ws sp t { s with cs:=c::s.cs.eraseIdx k }:=h.perm (lT a)
def DR {c:Pc} (h:46#0) (a:c ∈ s.cs):0<=s.nn:=by have:=h.nl c a;omega
def Iv.lendK {c:Pc} {w:Str} (h:46#0) (a:s.cs[k]?=some c) (op:c.m<c.h) (hi:s.mo<=i) (b:PyData.strOk w=true):
  Iv ws sp t { s with nt:=s.nt+1,mo:=i,cs:=s.cs.set k { c with o:=some (s.nt,w,i+sp) } }:=by
 let g:=(h.cons a).re (c':={ c with o:=some (s.nt,w,i+sp) }) (nt':=s.nt+1) (mo':=i) rfl rfl rfl (j8 _) (y9 op) (λu e=>by cases e;exact {h.n0,by show s.nt<s.nt+1;omega,op,j8 _,b}) (λu e=>by cases e;exact .inr (j8 _)) ∎ hi
  (λx=>{.inl,λz=>z.elim id λz=>absurd z (by show ¬ (c.m<=x/\x<c.m);omega)}) h.hd
 exact g.perm (iH a).symm
def Iv.backK {c:Pc} (h:46#0) (a:s.cs[k]?=some c) (hi:s.mo<=i):
  Iv ws sp t { s with mo:=i,cs:=s.cs.set k { c with o:=none } }:=by
 let g:=(h.cons a).re (c':={ c with o:=none }) (nt':=s.nt) (mo':=i) rfl rfl rfl (j8 _) (h.lm c (i5 a)).2.1 (λu e=>nomatch e) (λu e=>nomatch e) (j8 _) hi
  (λx=>{.inl,λz=>z.elim id λz=>absurd z (by show ¬ (c.m<=x/\x<c.m);omega)}) h.hd
 exact g.perm (iH a).symm
def Iv.cutK {c:Pc} {nt' mo' pl:Int} (h:46#0) (a:s.cs[k]?=some c) (i:c.m<pl) (e:pl<c.h)
  (b:∀u,o=some u->s.nt<=u.1/\u.1<nt'/\u.2.2<=mo' + sp/\PyData.strOk u.2.1=true) (f:s.nt<=nt') (d:s.mo<=mo'):Iv ws sp (t+1) { s with nn:=s.nn+1,nt:=nt',mo:=mo',cs:=s.cs.set k { c with h:=pl }++[{(s.nn),pl,c.h,pl,o}] }:=by
 let g:=(h.cons a).cut i e (DR h (i5 a)) b f d;exact g.perm (((iH a).symm.cons _).trans (List.perm_append_comm (l₁:=[_])))
def Iv.joinK {c e:Pc} (h:46#0) (d:s.cs[k]?=some c) (f:s.cs[j]?=some e) (v:e.l=c.h) (q:e.unt=true):Iv ws sp t { s with cs:=(s.cs.set k { c with h:=e.h }).eraseIdx j }:=by
 let x:=h.lm c (i5 d);let u:k≠j:=λz=>by subst z;rw [d] at f;cases f;omega
 let p:(s.cs.set k { c with h:=e.h })[j]?=some e:=by rw [P8,if_neg u];exact f
 let n:=lT p;let o:(s.cs.set k { c with h:=e.h }).Perm ({ c with h:=e.h }::s.cs.eraseIdx k):=iH d;let m:e ∈ ({ c with h:=e.h }:Pc)::s.cs.eraseIdx k:=(n.symm.trans o).mem_iff.mp (i4 ..);rcases i3.mp m with z|m
 ·have:=congrArg Pc.l z;have:e.l=c.l:=this;omega
 let (a,b,r):=List.append_of_mem m;let i:(s.cs.eraseIdx k).Perm (e::(a++b)):=by rw [r];exact List.perm_middle
 let g:=((h.cons d).perm (i.cons c)).join v q;let w:(e::(s.cs.set k { c with h:=e.h }).eraseIdx j).Perm (e::{ c with h:=e.h }::(a++b)):=(n.symm.trans (o.trans (i.cons _))).trans (List.Perm.swap ..);exact g.perm w.cons_inv.symm
theorem Dw {kv:List (bJ × V)} {m:Int} {fr:List Int} (a:∀j:Nat,j<fr.length->cW kv (Sum.inl (m+(j:Int)):bJ)=none):∀i,i<=fr.length->∀x:Int,cW (kv++kE m fr i) (Sum.inl x:bJ)=if m<=x/\x<m+(i:Int) then some (.int (fr.getD (x-m).toNat 0)) else cW kv (Sum.inl x:bJ)
 | 0,_,x=>by rw [if_neg ∎];show cW (kv++[]) _=_;rw [F0]
 | i+1,hi,x=>by
  rw [vA,<- w5,tY _ _ _ _ (zQ (a i ∎))]
  by_cases z:x=m+(i:Int)
  ·subst z
   rw [if_pos rfl,if_pos ∎,show (m+(i:Int)-m).toNat=i by omega]
  ·rw [if_neg λy=>z (Sum.inl.inj y),Dw a i ∎ x]
   by_cases q:m<=x/\x<m+(i:Int)
   ·rw [if_pos q,if_pos ∎]
   ·rw [if_neg q,if_neg ∎]
def AG (vf:Int->Int) (m:Int) (fr:List Int):Int->Int:=λx=>if m<=x/\x<m+(fr.length:Int) then fr.getD (x-m).toNat 0 else vf x
def eE (m:Int) (n:Nat):List Int:=(List.range n).map λ(k:Nat)=>m+(k:Int)
def dJ {m x:Int}:x ∈ eE m n↔m<=x/\x<m+(n:Int):=by
 unfold eE;rw [v8];constructor
 ·rintro⟨k,a,rfl⟩;have:=E1.mp a;omega
 ·intro h;exact {(x-m).toNat,E1.mpr ∎,∎}
def lR (m:Int) (n:Nat):(eE m n).Nodup:=List.Pairwise.map _ (λa b z e=>z ∎) List.nodup_range
def Cp {vf:Int->Int} {kv:List (bJ × V)} {ns:List Int} {m:Int} {fr:List Int} (h:Holds vf kv ns) (c:∀j:Nat,j<fr.length->m+(j:Int) ∉ ns) (d:(ns++eE m fr.length).length<128) (l:-(2 ^ 61)<=m) (k:m+(fr.length:Int)<=2 ^ 61):
  Holds (AG vf m fr) (kv++kE m fr fr.length) (ns++eE m fr.length):=by
 let g:∀x,x ∉ ns->cW kv (Sum.inl x:bJ)=none:=λx hx=>iC.mpr λe f z=>hx (by
  have:(Sum.inl x:bJ) ∈ kv.map (·.1):=v8.mpr {(e),f,z}
  rw [h.key] at this
  let (y,b,q):=v8.mp this
  cases q
  exact b);let a:∀x,x ∈ eE m fr.length->x ∉ ns:=λx hx=>by
  have:=dJ.mp hx;let e:x=m+((x-m).toNat:Int):=∎;rw [e];exact c _ ∎
 refine {?_,?_,d,λx hx=>?_,λx hx=>?_}
 ·rw [u5,u5,h.key];congr 1;unfold kE eE;rw [C2,C2];rfl
 ·rw [L8];exact {h.nd,lR _ _,λx hx y b z=>by subst z;exact a x b hx}
 ·rw [Dw (λj i=>g _ (c j i)) _ (g9 _)];unfold AG;by_cases q:m<=x/\x<m+(fr.length:Int)
  ·rw [if_pos q,if_pos q]
  ·rw [if_neg q,if_neg q];rcases j6.mp hx with hx|hx
   ·exact h.val x hx
   ·exact absurd (dJ.mp hx) q
 ·rcases j6.mp hx with hx|hx
  ·exact h.lo x hx
  ·have:=dJ.mp hx;omega
def Iv.fresh {c:Pc} (h:46#0) (a:s.cs[k]?=some c) {x:Int} (e:c.m<=x) (h2:x<c.h):x ∉ s.ns:=λz=>by
 let (y,hy,d,g):=((h.cons a).nx x).mp z
 have f:=h.lm c (i5 a)
 have b:=u7.mp (h.cons a).ap
 rcases i3.mp hy with rfl|hy
 ·omega
 ·have:=b.1 y hy
  have:=(h.cons a).lm y (g6 _ hy)
  omega
theorem Iv.told {k:Nat} {c:Pc} {fr:List Int} {i:Int} (g:Wg ws) (h:46#0) (f:s.cs[k]?=some c) (B:c.m+(fr.length:Int)<=c.h) (hi:s.mo<=i):
  Iv ws sp t { s with mo:=i,cs:=s.cs.set k (c.told fr.length (i+sp)),kv:=s.kv++kE c.m fr fr.length,ns:=s.ns++eE c.m fr.length,vf:=AG s.vf c.m fr }:=by
 let r:=i5 f;let E:=h.lm c r;let a:∀x,c.l<=x->x<c.h->Lm.mem ws x:=λx p w=>(h.cv x).mpr {(c),r,p,w};let q:∀x ∈ s.ns,Lm.mem ws x:=λx hx=>by
  let (y,n,p,w):=(h.nx x).mp hx;have:=h.lm y n;exact(h.cv x).mpr {y,n,p,∎}
 let A:∀j:Nat,j<fr.length->c.m+(j:Int) ∉ s.ns:=λj I=>h.fresh f ∎ ∎;let D:(s.ns++eE c.m fr.length).Nodup:=by
  rw [L8];refine {h.hd.nd,lR _ _,λx hx y n z=>?_};subst z;have:=dJ.mp n;exact h.fresh f ∎ ∎ hx
 let F:=g.sz _ D λx hx=>by
  rcases j6.mp hx with hx|hx
  ·exact q x hx
  ·have:=dJ.mp hx;exact a x ∎ ∎
 let H:=g.bd c.l (a _ (j8 _) E.2.2);let G:=g.bd (c.h-1) (a _ ∎ ∎);let d:∀u,(c.told fr.length (i+sp)).o=some u->c.m+(fr.length:Int)<c.h/\∃v,c.o=some v/\u=(v.1,v.2.1,i+sp):=λu e=>by
  let e:(if c.m+(fr.length:Int)=c.h then none else c.o.map λt=>(t.1,t.2.1,i+sp))=some u:=e;by_cases z:c.m+(fr.length:Int)=c.h
  ·rw [if_pos z] at e;cases e
  rw [if_neg z] at e;cases b:c.o with
  | none=>rw [b] at e;cases e
  | some v=>
   rw [b] at e;exact { ∎,v,ρ,(Option.some.inj e).symm}
 let C:=(h.cons f).re (c':=c.told fr.length (i+sp)) (nt':=s.nt) (mo':=i) (ns':=s.ns++eE c.m fr.length) (kv':=s.kv++kE c.m fr fr.length) (vf':=AG s.vf c.m fr) rfl rfl rfl (by show c.m<=c.m+(fr.length:Int);omega) B (λu e=>by
   let (l,v,b,rfl):=d u e
   have:=h.op c r v b
   exact {this.1,this.2.1,l,j8 _,this.2.2.2.2}) (λu e=>by
   let (l,v,b,rfl):=d u e
   exact .inl {(v),b,ρ}) (j8 _) hi
  (λx=>by rw [j6,dJ];rfl) (Cp h.hd A ∎ ∎ ∎)
 exact C.perm (iH f).symm
def Iv.oneLow {i:Nat} {x y:Pc} (h:46#0) (b:s.cs[i]?=some x) (a:s.cs[j]?=some y) (e:x.l=y.l):i=j:=by
 rcases L9 i j with z|z|z
 ·let (d,c):=e8.mp b;let (g,f):=e8.mp a;have:=y4.mp h.ap i j d g z;rw [c,f] at this;have:=h.lm x (i5 b);have:=h.lm y (i5 a);omega
 ·exact z
 ·let (d,c):=e8.mp b;let (g,f):=e8.mp a;have:=y4.mp h.ap j i g d z;rw [c,f] at this;have:=h.lm x (i5 b);have:=h.lm y (i5 a);omega
def nC {c:Pc} {tk:Int} (h:c.has tk=true):∃u,c.o=some u/\u.1=tk:=by
 unfold Pc.has at h;cases e:c.o with
 | none=>rw [e] at h;cases h
 | some u=>rw [e] at h;exact {u,ρ,of_decide_eq_true h}
def Iv.oneTk {i:Nat} {x y:Pc} {tk:Int} (h:46#0) (m:s.cs[i]?=some x) (l:s.cs[j]?=some y) (e1:x.has tk=true) (n:y.has tk=true):i=j:=by
 let (u,c,k):=nC e1;let (v,d,a):=nC n;let (e,b):=e8.mp m;let (g,f):=e8.mp l;rcases L9 i j with z|z|z
 ·have:=y4.mp h.tk i j e g z;rw [b,f] at this;exact absurd (k.trans a.symm) (this u v c d)
 ·exact z
 ·have:=y4.mp h.tk j i g e z;rw [b,f] at this;exact absurd (a.trans k.symm) (this v u d c)
def Iv.oneTk' {c:Pc} {tk:Int} (h:46#0) (b:s.cs[k]?=some c) (e1:c.has tk=true) (j:Nat) (e:Pc) (a:s.cs[j]?=some e) (d:j<k):e.has tk=false:=F4.mpr λz=>by
 have:=h.oneTk b a e1 z
 omega
theorem Lq:∀{ws:Lm.Ps} {q r:Int × Int},Lm.Sh ws->q ∈ ws->r ∈ ws->q=r\/q.2<r.1\/r.2<q.1
 | s::ws,q,r,w,hq,hr=>by
  rcases i3.mp hq with rfl|hq' <;> rcases i3.mp hr with rfl|hr'
  ·exact .inl rfl
  ·exact .inr (.inl (w.2.1 r hr'))
  ·exact .inr (.inr (w.2.1 q hq'))
  ·exact Lq w.2.2 hq' hr'
def HQ {ws:Lm.Ps} {l:Int} (w:Lm.Sh ws) (d:l<h) (c:∀x,l<=x->x<h->Lm.mem ws x):∃q ∈ ws,q.1<=l/\h<=q.2:=by
 let (q,a,f,i):=c l (j8 _) d;refine {q,a,f,O9.mp λz=>?_};let (r,b,j,g):=c q.2 ∎ z;have:=Lm.Sh.lt w q a;have:=Lm.Sh.lt w r b;rcases Lq w a b with e|e|e
 ·subst e;omega
 ·omega
 ·omega
def Iv.inw {c:Pc} (g:Wg ws) (h:46#0) (a:c ∈ s.cs):∃q ∈ ws,q.1<=c.l/\c.h<=q.2:=
 HQ g.sh (h.lm c a).2.2 λx b d=>(h.cv x).mpr {(c),a,b,d}
def Iv.bnd {c:Pc} (g:Wg ws) (h:46#0) (a:c ∈ s.cs):-(2 ^ 60)<=c.l/\c.h<=2 ^ 60:=by
 let b:=h.lm c a;let d:=g.bd c.l ((h.cv _).mpr {c,a,j8 _,b.2.2});let e:=g.bd (c.h-1) ((h.cv _).mpr {c,a,∎,∎});omega
def Holds.noV {vf:Int->Int} {kv:List (bJ × V)} {ns:List Int} (h:Holds vf kv ns) {x:Int} (c:x ∉ ns):cW kv (Sum.inl x:bJ)=none:=iC.mpr λe b z=>c (by
  have:(Sum.inl x:bJ) ∈ kv.map (·.1):=v8.mpr {(e),b,z}
  rw [h.key] at this
  let (y,a,q):=v8.mp this
  cases q
  exact a)
theorem Iv.val {c:Pc} (h:46#0) (a:c ∈ s.cs) {x:Int} (b:c.l<=x) (h2:x<c.m):cW s.kv (Sum.inl x:bJ)=some (.int (s.vf x)):=h.hd.val x ((h.nx x).mpr {(c),a,b,h2})
def Iv.kvl (h:46#0):s.kv.length<128:=by
 have:=h.hd.len;let e:=congrArg List.length h.hd.key;rw [g7,g7] at e;omega
def Iv.low {c:Pc} (h:46#0) (e:Zb s.cs i c):c ∈ s.cs/\c.m<c.h:=by
 rcases e with b|⟨_,b⟩
 ·have:=h.lm c b.1;let f:=b.2.1;unfold Pc.free at f;rw [A8,L6] at f;have:=of_decide_eq_false f.2;exact {b.1,∎}
 ·let f:=b.2.1;unfold Pc.late at f;cases e:c.o with
  | none=>rw [e] at f;cases f
  | some u=>exact {b.1,(h.op c b.1 u e).2.2.1}
end
structure Ad where
 b:Addr
 pw:Addr
 sh:Addr
 d:Addr
 pw':Addr
 d':Addr
 ps:List Addr
structure Bv (CB CS CP T1 T2:Addr) (sp ev le:Int) (ws:Lm.Ps) (H:Hp) (A:Ad) (s:S8):Prop where
 bk:jI CB CP H A.b A.pw A.sh A.d sp ev le s.nn s.nt s.mo A.ps s.cs
 st:cT CS H A.sh A.pw' A.d' ws s.kv
 t1:lY H T1 pH iQ
 t2:lY H T2 yL mX
 dd:A.d≠A.d'
 tt:T1≠T2
def NC:HO->Bool
 | .tup _=>true
 | .lst _=>true
 | _=>false
def eU (d d':Addr) (H H':Hp):Prop:=∀a o,H a=some o->(NC o=true\/(∃kv,o=.dK kv)/\a≠d/\a≠d')->H' a=some o
def eU.of {d:Addr} (s:aJ H H'):eU d d' H H':=λa o e _=>s a o e
def eU.trans {d:Addr} {c b:Hp} (x:eU d d' H c) (y:eU d d' c b):eU d d' H b:=λa o e k=>y a o (x a o e k) k
theorem eU.tup {d d':Addr} {H H':Hp} {a:Addr} {xs:List V} (x:eU d d' H H') (e:H a=some (.tup xs)):H' a=some (.tup xs):=x _ _ e (.inl rfl)
theorem eU.lst {d d':Addr} {H H':Hp} {a:Addr} {xs:List V} (x:eU d d' H H') (e:H a=some (.lst xs)):H' a=some (.lst xs):=x _ _ e (.inl rfl)
def eU.dic {d:Addr} {kv:List (bJ × V)} (x:eU d d' H H') (e:H a=some (.dK kv)) (n:a≠d) (b:a≠d'):H' a=some (.dK kv):=x _ _ e (.inr {{_,ρ},n,b})
def cU.kpl {d:Addr} (k:eU d d' H H') {xs:List V} {ps:Lm.Ps} (h:cU H xs ps):cU H' xs ps:=aO (λ_ _ ⟨b,e,x⟩=>{b,e,k.tup x}) h
theorem cE.kpl {d d':Addr} {H H':Hp} (k:eU d d' H H') {p:Addr} {ps:Lm.Ps} (h:cE H p ps):cE H' p ps:=by
 let (c,b,a):=h;exact {c,k.tup b,cU.kpl k a}
def zI {d:Addr}:(sJ a d).length=2:=rfl
def Rc {c d b:Addr} {sp ev le nn nt mo:Int}:¬ (sJ c d).length=(bf a b d' sp ev le nn nt mo).length:=by rw [zI];show ¬ 2=9;decide
def Rb {b d:Addr} {n l m:Int} {a:V}:¬ (sJ b d).length=(pf n l h m a).length:=by rw [zI];show ¬ 2=5;decide
section
variable {CB CS CP T1 T2:Addr} {sp ev le:Int} {ws:Lm.Ps} {H H':Hp} {A:Ad} {s:S8}
theorem Bv.same (e:aJ H H') (h:Bv CB CS CP T1 T2 sp ev le ws H A s):Bv CB CS CP T1 T2 sp ev le ws H' A s:=
 {h.bk.sameT (aJ.toT e),h.st.same e,h.t1.same e,h.t2.same e,h.dd,h.tt}
def Bv.step {p:Addr} (h:Bv CB CS CP T1 T2 sp ev le ws H A s) (v:A.ps[k]?=some p) (fr:∀a o,H a=some o->a≠A.b->a≠A.d->a≠p->a≠T1->a≠A.d'->H' a=some o):
  eU A.d A.d' H H'/\lY H' T2 yL mX/\cE H' A.pw' ws/\∃r,H' A.sh=some (.ins CS r (sJ A.pw' A.d')):=by
 let ((r,m),n,q):=h.bk;let ((u,l),w,g):=h.st;let (c,B,D,(C,i),x):=aM q v;let (y,j,_):=h.t1;let t:eU A.d A.d' H H':=λa o e k=>by
  refine fr a o e (λz=>?_) (λz=>?_) (λz=>?_) (λz=>?_) (λz=>?_) <;> subst z
  ·rw [m] at e;cases e;rcases k with k|⟨⟨_,k⟩,_⟩ <;> cases k
  ·rw [n] at e;cases e;rcases k with k|⟨_,k,_⟩
   ·cases k
   ·exact k rfl
  ·rw [i] at e;cases e;rcases k with k|⟨⟨_,k⟩,_⟩ <;> cases k
  ·rw [j] at e;cases e;rcases k with k|⟨⟨_,k⟩,_⟩ <;> cases k
  ·rw [g] at e;cases e;rcases k with k|⟨_,_,k⟩
   ·cases k
   ·exact k rfl
 refine {t,jR h.t2 (λy e=>fr _ _ e (aK e m 1#0) (aK e n 1#0) (aK e i 1#0) h.tt.symm (aK e g 1#0))
  (λa f e=>fr _ _ e (aK e m 1#0) (aK e n 1#0) (aK e i 1#0) (aK e j 1#0) (aK e g 1#0)),cE.kpl t w,u,?_};exact fr _ _ l (aK l m (by intro z;injection z with _ _ z;exact absurd (congrArg List.length z) Rc)) (aK l n 1#0) (aK l i (by intro z;injection z with _ _ z;exact absurd (congrArg List.length z) Rb)) (aK l j 1#0) (aK l g 1#0)
def Bv.stepS {p:Addr} (h:Bv CB CS CP T1 T2 sp ev le ws H A s) (l:A.ps[k]?=some p) (fr:∀a o,H a=some o->a≠A.b->a≠A.d->a≠p->a≠T1->H' a=some o):
  eU A.d A.d' H H'/\lY H' T2 yL mX/\cT CS H' A.sh A.pw' A.d' ws s.kv:=by
 let ((K,x),B,i):=h.bk;let ((D,E),F,f):=h.st;let (c,J,C,(G,j),r):=aM i l;let (I,g,_):=h.t1;let (y,q,w,t):=h.step l λa o e m v n u _=>fr a o e m v n u;exact {y,q,t,w,fr _ _ f (aK f x 1#0) h.dd.symm (aK f j 1#0) (aK f g 1#0)}
def Bv.stepT {p:Addr} (h:Bv CB CS CP T1 T2 sp ev le ws H A s) (n:A.ps[k]?=some p) (fr:∀a o,H a=some o->a≠A.b->a≠A.d->a≠p->a≠A.d'->H' a=some o):lY H' T1 pH iQ:=by
 let ((u,l),m,j):=h.bk;let (_,_,i):=h.st;let (c,r,v,(t,g),q):=aM j n;exact jR h.t1 (λw e=>fr _ _ e (aK e l 1#0) (aK e m 1#0) (aK e g 1#0) (aK e i 1#0))
  (λa f e=>fr _ _ e (aK e l 1#0) (aK e m 1#0) (aK e g 1#0) (aK e i 1#0))
def Bv.keepT {T:Addr} (h:Bv CB CS CP T1 T2 sp ev le ws H A s) (g:dC T H H') (j:T=T1/\lY H' T1 pH iQ\/T=T2/\lY H' T2 yL mX):Bv CB CS CP T1 T2 sp ev le ws H' A s/\eU A.d A.d' H H':=by
 let (w,r,_):=h.t1;let (x,v,_):=h.t2;let b:∃l,H T=some (.tbl l):=by rcases j with ⟨rfl,_⟩|⟨rfl,_⟩ <;> exact {_,by assumption}
 let (l,b):=b;let c:=g.toT b;let n:eU A.d A.d' H H':=λa o e k=>c.at e λm z=>by subst z;rcases k with k|⟨⟨_,k⟩,_⟩ <;> cases k
 let ((p,q),u,i):=h.st;refine {{h.bk.sameT c,{{p,c.at q},cE.kpl n u,c.at i},?_,?_,h.dd,h.tt},n}
 ·rcases j with ⟨_,t⟩|⟨rfl,_⟩
  ·exact t
  ·exact jR h.t1 (λm e=>g _ _ h.tt e) λa f e=>c.at e
 ·rcases j with ⟨rfl,_⟩|⟨_,t⟩
  ·exact jR h.t2 (λm e=>g _ _ h.tt.symm e) λa f e=>c.at e
  ·exact t
end
structure Pm where
 sp:Int
 ev:Int
 le:Int
 ws:Lm.Ps
structure Go (N:Cn) (M:Pm) (t:Nat) (H:Hp) (A:Ad) (s:S8):Prop where
 bv:Bv N.CB N.CS N.CP N.T1 N.T2 M.sp M.ev M.le M.ws H A s
 iv:Iv M.ws M.sp t s
 wg:Wg M.ws
 l1:1<=M.le
 e1:1<=M.ev
theorem Go.up {N:Cn} {M:Pm} {t:Nat} {H:Hp} {A:Ad} {s:S8} (g:Go N M t H A s):Go N M (t+1) H A s:={(g.bv),g.iv.up,g.wg,g.l1,g.e1}
theorem Go.same {N:Cn} {M:Pm} {t:Nat} {H H':Hp} {A:Ad} {s:S8} (e:aJ H H') (g:Go N M t H A s):Go N M t H' A s:={g.bv.same e,g.iv,g.wg,g.l1,g.e1}
def NT:Hp->List V->Prop:=λ_ as=>∃(x:Str) (i:Int),as=[.str x,.int i]/\lF x/\PyData.strOk x=true
def NS:Hp->List V->Prop:=λH as=>∃(tk pl i:Int) (nr:Addr) (ns:List Int),as=[.int tk,.int pl,.ref nr,.int i]/\H nr=some (.tup 32#0)/\ns.length<=1000/\-(2 ^ 61)<=pl/\pl<=2 ^ 61
def MY:Hp->List V->Prop:=λ_ as=>∃(tk i:Int),as=[.int tk,.int i]
def NU:Hp->List V->Prop:=λ_ as=>∃(n:Int),as=[.int n]
def Fb {d:Nat} {x:Int} (h:0<=x):HT.sIx n d (some x)=min x.toNat n:=by
 let e:=HT.sIx_nat n d x.toNat
 rwa [Int.toNat_of_nonneg h] at e
def Xj {ns:List Int} {lo hi:Int} (a:0<=lo) (h2:lo<=hi):hV ns (some lo) (some hi)=(ns.drop lo.toNat).take (hi-lo).toNat:=by
 unfold hV;rw [Fb a,Fb ∎];apply P9;intro i;rw [List.getElem?_take,List.getElem?_take,v7,v7];by_cases z:lo.toNat<=ns.length
 ·rw [B2 z];by_cases y:i<min hi.toNat ns.length-lo.toNat
  ·rw [if_pos y,if_pos ∎]
  ·rw [if_neg y];by_cases x:i<(hi-lo).toNat
   ·rw [if_pos x,B7 ∎]
   ·rw [if_neg x]
 ·rw [if_neg ∎];split
  ·rw [B7 ∎]
  ·rfl
def Gk {ns:List Int} {lo hi:Int} (a:0<=lo) (h2:lo<=hi):((hV ns (some lo) (some hi)).length:Int)<=hi-lo:=by
 rw [Xj a h2,u6];omega
inductive Dd where
 | lend (x:Str) (i:Int)
 | tell (tk pl i:Int) (ns:List Int)
 | back (tk i:Int)
 | cut (n pl:Int)
 | join (n:Int)
inductive tE (H:Hp):Str->List V->Dd->Prop where
 | lend {x:Str} {i:Int} (_:lF x) (_:PyData.strOk x=true):tE H "lend" [.str x,.int i] (.lend x i)
 | tell {tk pl i:Int} {nr:Addr} {ns:List Int} (_:H nr=some (.tup 32#0)) (_:ns.length<=1000) (_:-(2 ^ 61)<=pl) (_:pl<=2 ^ 61):tE H "tell" [.int tk,.int pl,.ref nr,.int i] (.tell tk pl i ns)
 | back {tk i:Int}:tE H "back" [.int tk,.int i] (.back tk i)
 | cut {n pl:Int}:tE H "cut" [.int n,.int pl] (.cut n pl)
 | join {n:Int}:tE H "join" [.int n] (.join n)
inductive To where
 | non
 | lent (t n m h u:Int)
 | told (m h:Int) (u:V)
inductive oS (H:Hp):V->To->Prop where
 | non:oS H .non .non
 | lent {r:Addr} {t n m h u:Int} (_:H r=some (.tup [.int t,.int n,.int m,.int h,.int u])):oS H (.ref r) (.lent t n m h u)
 | told {r:Addr} {m h:Int} {u:V} (_:H r=some (.tup [.int m,.int h,u])):oS H (.ref r) (.told m h u)
inductive Sc (M:Pm) (s:S8):Dd->To->S8->Prop where
 | lendN {x:Str} {i:Int} (_:s.mo<=i) (_:JO s.cs M.le i):Sc M s (.lend x i) .non s
 | lendP {x:Str} {i:Int} {k:Nat} {c:Pc} (_:s.mo<=i) (_:s.cs[k]?=some c) (_:Zb s.cs i c):Sc M s (.lend x i) (.lent s.nt c.n c.m c.h (i+M.sp)) { s with nt:=s.nt+1,mo:=i,cs:=s.cs.set k { c with o:=some (s.nt,x,i+M.sp) } }
 | lendC {x:Str} {i pl:Int} {k:Nat} {c:Pc} (_:s.mo<=i) (_:∀c ∈ s.cs,c.free=false) (_:∀c ∈ s.cs,c.late i=false) (_:s.cs[k]?=some c) (_:nU Pc.lent s.cs c) (_:2 * M.le<=c.h-c.m) (_:pl=c.h-(c.h-c.m) / 2):Sc M s (.lend x i) (.lent s.nt s.nn pl c.h (i+M.sp)) { s with nn:=s.nn+1,nt:=s.nt+1,mo:=i,cs:=s.cs.set k { c with h:=pl }++[⟨s.nn,pl,c.h,pl,some (s.nt,x,i+M.sp)⟩] }
 | tell {tk pl i:Int} {ns fr:List Int} {k:Nat} {c:Pc} (_:s.mo<=i) (_:s.cs[k]?=some c) (_:c.has tk=true) (_:c.l<=pl) (_:pl<=c.m) (_:pl+ns.length<=c.m+M.ev) (_:∀(j:Nat) n,ns[j]?=some n->pl+(j:Int)<c.m->n=s.vf (pl+(j:Int))) (_:fr=hV ns (some (c.m-pl)) (some (c.h-pl))):
   Sc M s (.tell tk pl i ns) (.told (c.m+(fr.length:Int)) c.h (if c.m+(fr.length:Int)=c.h then .non else .int (i+M.sp))) { s with mo:=i,cs:=s.cs.set k (c.told fr.length (i+M.sp)),kv:=s.kv++kE c.m fr fr.length,ns:=s.ns++eE c.m fr.length,vf:=AG s.vf c.m fr }
 | back {tk i:Int} {k:Nat} {c:Pc} (_:s.mo<=i) (_:s.cs[k]?=some c) (_:c.has tk=true):Sc M s (.back tk i) .non { s with mo:=i,cs:=s.cs.set k { c with o:=none } }
 | cut {pl:Int} {k:Nat} {c:Pc} (_:s.cs[k]?=some c) (_:c.m<pl) (_:pl<c.h) (_:c.lent=true->c.m+M.ev<=pl):Sc M s (.cut c.n pl) .non { s with nn:=s.nn+1,cs:=s.cs.set k { c with h:=pl }++[⟨s.nn,pl,c.h,pl,none⟩] }
 | join {k j:Nat} {c e:Pc} (_:s.cs[k]?=some c) (_:s.cs[j]?=some e) (_:e.l=c.h) (_:e.unt=true):Sc M s (.join c.n) .non { s with cs:=(s.cs.set k { c with h:=e.h }).eraseIdx j }
def Fo (N:Cn) (A:Ad) (H H':Hp):Prop:=∀a o,H a=some o->a≠A.b->a≠A.d->a≠A.d'->a ∉ A.ps->a≠N.T1->a≠N.T2->H' a=some o
inductive Yt (N:Cn) (c:Nat->Addr) (way:Str) (vs:List V) (H:Hp) (Q:VK) (E:XK):Prop|mk (M:Pm) (A:Ad) (s:S8) (t:Nat) (as:List V) (d:Dd) (_:vs=.ref A.b::as) (_:Go N M t H A s) (_:t<500) (_:tE H way as d) (_:∀j H',j<9->aJ H H'->(∀o s',¬ Sc M s d o s')->E (.ref (c j)) none H')
 (_:∀v ps' o s' H',eU A.d A.d' H H'->Fo N A H H'->(∀r ∈ ps',r ∈ A.ps\/H r=none)->Go N M (t+1) H' { A with ps:=ps' } s'->Sc M s d o s'->oS H' v o->Q v H')
def gZ (N:Cn) (c:Nat->Addr) (way:Str):Sp:=Yt N c way
def NJ (cs:List Pc) (tk:Int):(∀c ∈ cs,c.has tk=false)\/∃(k:Nat) (c:Pc),cs[k]?=some c/\c.has tk=true:=by
 by_cases z:∃c ∈ cs,c.has tk=true
 ·let (c,a,e):=z;let (k,b,d):=C3 a;exact .inr {k,c,by rw [<- d];exact e7 b,e}
 ·exact .inl λc a=>F4.mpr λe=>z {(c),a,e}
section
variable {f:Addr} {fd:FuncData}
def EO {ps:List Str} (G:bN P w K mg base 50#0 6 f fd ps (vR N.CB N.CP (c 1) N.T1)):bN P w K mg base 50#0 6 f fd ps (gZ N c "lend"):=by
 refine G.imp λvs H Q E h=>?_;let (M,A,s,t,as,d,rfl,g,lt,X,hE,q):=h;cases X with
 | @lend x i wx sx=>
 let hl:=g.iv.ct;refine {A.b,A.pw,A.sh,A.d,M.sp,M.ev,M.le,s.nn,s.nt,s.mo,i,x,A.ps,s.cs,ρ,g.bv.bk,∎,g.iv.nm,λc m=>(g.iv.nl c m).2,wx,g.bv.t1,λlo l s'=>hE 1 l 8#0 s' λo z sc=>?_,λv no l kt J=>?_,λv k p L r l y m ch B J O j=>?_,λv k p L q' r U l nf nl y m be h2 Y B J nq O j=>?_}
 ·cases sc <;> omega
 ·let (b',I):=g.bv.keepT kt (.inl {(rfl),J});exact q .non A.ps .non s l I (λa o e _ _ _ _ n _=>kt a o n e) (λr j=>.inl j) {(b'),g.iv.up,g.wg,g.l1,g.e1} (.lendN v no) .non
 ·let T:=i5 y;let (I,S,Z):=g.bv.stepS y λa o e D _ C F=>B a o e D C F;exact q _ A.ps _ { s with nt:=s.nt+1,mo:=i,cs:=s.cs.set k { L with o:=some (s.nt,x,i+M.sp) } } l I (λa o e D _ _ C F _=>B a o e D (λz=>C (z ▸ T)) F) (λr j=>.inl j) {{(O),Z,J,S,g.bv.dd,g.bv.tt},(g.iv.lendK m (g.iv.low ch).2 v sx).up,g.wg,g.l1,g.e1} (.lendP v m ch) (.lent j)
 ·let T:=i5 y;let (I,S,Z):=g.bv.stepS y B;let l1:=g.l1;refine q _ (A.ps++[q']) _ { s with nn:=s.nn+1,nt:=s.nt+1,mo:=i,cs:=s.cs.set k { L with h:=U }++[{s.nn,U,L.h,U,some (s.nt,x,i+M.sp)}] } l I (λa o e D n2 _ C F _=>B a o e D n2 (λz=>C (z ▸ T)) F) (λr j=>(j6.mp j).imp_right λz=>by rw [v9.mp z];exact nq) {{(O),Z,J,S,g.bv.dd,g.bv.tt},g.iv.cutK m ∎ ∎ (λu e=>?_) ∎ v,g.wg,g.l1,g.e1} (.lendC v nf nl m be h2 Y) (.lent j);cases e;exact {j8 _,by show s.nt<s.nt+1;omega,j8 _,sx}
def At {M:Pm} {s:S8} {t:Nat} (g:Go N M t H A s) {k:Nat} {c:Pc} {tk:Int} (e:s.cs[k]?=some c) (b:c.has tk=true):0<=tk/\tk<s.nt:=by
 let (u,h,d):=nC b;let a:=g.iv.op c (i5 e) u h;rw [d] at a;exact {(a.1),a.2.1}
def ER {ps:List Str} (G:bN P w K mg base 50#0 4 f fd ps (Ee N.CB N.CP (c 1) (c 2) (c 3))):bN P w K mg base 50#0 4 f fd ps (gZ N c "back"):=by
 refine G.imp λvs H Q E h=>?_;let (M,A,s,t,as,d,rfl,g,lt,F,D,q):=h;cases F with
 | @back tk i=>
 refine {A.b,A.pw,A.sh,A.d,M.sp,M.ev,M.le,s.nn,s.nt,s.mo,A.ps,s.cs,.int tk,.int i,ρ,g.bv.bk,.kn (.int _),.kn (.int _),g.iv.nm,λz=>D 1 H 8#0 (aJ.refl _) λo v u=>?_,λ_ z=>D 2 H 8#0 (aJ.refl _) λo v u=>?_,λ_ _ x _ _ z C v=>D 3 C 8#0 v λo v u=>?_,λi' U O I x _ _ k p pc y l j _ C B J=>?_}
 ·cases u with
  | back a _ _=>exact of_decide_eq_false z a
 ·cases u with
  | back _ l j=>exact of_decide_eq_false z (At g l j)
 ·cases x;cases u with
  | back _ l j=>
   rw [z _ (i5 l)] at j;cases j
 cases O;cases x;let S:=i5 y;let (X,L,Y):=g.bv.stepS y λa o e n _ m _=>B a o e n m;let Z:=g.bv.stepT y λa o e n _ m _=>B a o e n m;exact q _ A.ps _ { s with mo:=i,cs:=s.cs.set k { pc with o:=none } } C X (λa o e n _ _ m _ _=>B a o e n λz=>m (z ▸ S)) (λr T=>.inl T) {{(J),Y,Z,L,g.bv.dd,g.bv.tt},(g.iv.backK l I).up,g.wg,g.l1,g.e1} (.back I l j) .non
def yN {l:List Pc} (g:(l.map Pc.n).Nodup) {i j:Nat} {x y:Pc} (h:l[i]?=some x) (d:l[j]?=some y) (e:x.n=y.n):i=j:=by
 let (a,m):=e8.mp h;let (b,k):=e8.mp d;exact(List.getElem_inj (h₀:=by rw [g7];exact a) (h₁:=by rw [g7];exact b) g).mp (by rw [List.getElem_map,List.getElem_map,m,k,e])
def JC {ps:List Str} (G:bN P w K mg base 50#0 5 f fd ps (Lj N.CB N.CP (c 6) (c 7))):bN P w K mg base 50#0 5 f fd ps (gZ N c "cut"):=by
 refine G.imp λvs H Q E h=>?_;let (M,A,s,t,as,d,rfl,g,lt,B,I,q):=h;cases B with
 | @cut n pl=>
 let hl:=g.iv.ct;refine {A.b,A.pw,A.sh,A.d,M.sp,M.ev,M.le,s.nn,s.nt,s.mo,A.ps,s.cs,.int n,.int pl,ρ,g.bv.bk,.kn (.int _),.kn (.int _),g.iv.nm,λc i=>(g.iv.nl c i).2,∎,λz=>I 6 H 8#0 (aJ.refl _) λo s' C=>?_,λk p D x i v=>{λU ep J F Y O T nq y L=>?_,λz=>I 7 H 8#0 (aJ.refl _) λo s' C=>?_}}
 ·cases C with
  | cut i _ _ _=>exact z _ (i5 i) rfl
 ·cases ep;cases v;let X:=i5 x;let (kp,S,st):=g.bv.stepS x λa o e l m j _=>y a o e l m j;let t1:=g.bv.stepT x λa o e l m j _=>y a o e l m j;exact q _ (A.ps++[O]) _ { s with nn:=s.nn+1,cs:=s.cs.set k { D with h:=pl }++[{(s.nn),pl,D.h,pl,none}] } T kp (λa o e l m _ j _ _=>y a o e l m λz=>j (z ▸ X)) (λr Z=>(j6.mp Z).imp_right λz=>by rw [v9.mp z];exact nq) {{(L),st,t1,S,g.bv.dd,g.bv.tt},g.iv.cutK i J F (λu e=>nomatch e) (j8 _) (j8 _),g.wg,g.l1,g.e1} (.cut i J F Y) .non
 ·let v:=V.int.inj v;subst v;generalize hn:D.n=n at *;cases C with
  | cut hc' a1 a2 a3=>
   have:=yN g.iv.nm i hc' hn;subst this;rw [i] at hc';cases hc';exact of_decide_eq_false z {(a1),a2,a3}
def EQ {ps:List Str} (G:bN P w K mg base 50#0 5 f fd ps (Lh N.CB N.CP (c 6) (c 8))):bN P w K mg base 50#0 5 f fd ps (gZ N c "join"):=by
 refine G.imp λvs H Q E h=>?_;let (M,A,s,t,as,d,rfl,g,lt,Y,X,q):=h;cases Y with
 | @join n=>
 let no:∀(k:Nat) (v:Pc),s.cs[k]?=some v->V.int n=.int v.n->(∀(j:Nat) (e:Pc),s.cs[j]?=some e->e.l=v.h->e.unt=false)->∀o F,¬ Sc M s (.join n) o F:=λk v m D z o F Z=>by
  let D:=V.int.inj D;cases Z with
  | join hc' u C O=>
   have:=yN g.iv.nm m hc' D.symm;subst this;rw [m] at hc';cases hc';rw [z _ _ u C] at O;cases O
 refine {A.b,A.pw,A.sh,A.d,M.sp,M.ev,M.le,s.nn,s.nt,s.mo,A.ps,s.cs,.int n,ρ,g.bv.bk,.kn (.int _),g.iv.nm,λi j x y h1 h2 e=>g.iv.oneLow h1 h2 e,λz=>X 6 H 8#0 (aJ.refl _) λo F Z=>?_,λk p v S m D=>{λz J F=>X 8 J 8#0 F (no k v m D λj e u C=>absurd C (z e (i5 u))),λj e u C=>{λz J F=>X 8 J 8#0 F (no k v m D λj' e' B T=>?_),λO J U bk=>?_}}}
 ·cases Z with
  | join m _ _ _=>exact z _ (i5 m) rfl
 ·have:=g.iv.oneLow u B (C.trans T.symm);subst this;rw [u] at B;cases B;exact z
 cases D;let mp:=i5 S;let (kp,t2,st):=g.bv.stepS S λa o e _ L I _=>U a o e L I;let t1:=g.bv.stepT S λa o e _ L I _=>U a o e L I;exact q _ (A.ps.eraseIdx j) _ { s with cs:=(s.cs.set k { v with h:=e.h }).eraseIdx j } J kp (λa o e _ L _ I _ _=>U a o e L λz=>I (z ▸ mp)) (λr hr=>.inl (List.mem_of_mem_eraseIdx hr)) {{(bk),st,t1,t2,g.bv.dd,g.bv.tt},(g.iv.joinK m u C O).up,g.wg,g.l1,g.e1} (.join m u C O) .non
def EN {ps:List Str} (G:bN P w K mg base 50#0 5 f fd ps (pN N.CB N.CS N.CP (c 1) (c 2) (c 3) (c 4) (c 5))):bN P w K mg base 50#0 5 f fd ps (gZ N c "tell"):=by
 refine G.imp λvs H Q E h=>?_;let (M,A,s,t,as,d,rfl,g,lt,a6,J,q):=h;cases a6 with
 | @tell tk pl i nr ns hn ln p4 p5=>
 let J:(∀o L,¬ Sc M s (.tell tk pl i ns) o L)->∀j I,j<9->aJ H I->E (.ref (c j)) none I:=λz j I h s=>J j I h s z;let D:(∀(k:Nat) (p:Addr) (v:Pc),s.mo<=i->0<=tk->tk<s.nt->A.ps[k]?=some p->s.cs[k]?=some v->v.has tk=true->¬ (v.l<=pl/\pl<=v.m))->pN N.CB N.CS N.CP (c 1) (c 2) (c 3) (c 4) (c 5) [.ref A.b,.int tk,.int pl,.ref nr,.int i] H Q E:=λno=>by
  let J:=J λo L sc=>by
   cases sc with
   | tell hi x C a1 a2 _ _ _=>
    have:=g.bv.bk.pc.length;have:=(e8.mp x).1;exact no _ _ _ hi (At g x C).1 (At g x C).2 (e7 ∎) x C {(a1),a2}
  refine .inl (.inr {A.b,A.pw,A.sh,A.d,M.sp,M.ev,M.le,s.nn,s.nt,s.mo,A.ps,s.cs,.int tk,.int pl,.ref nr,.int i,ρ,g.bv.bk,.kn (.int _),.kn (.int _),.kn (.int _),λ_=>J 1 H 8#0 (aJ.refl _),λ_ _=>J 2 H 8#0 (aJ.refl _),λ_ _ _ _ _ _ I L=>J 3 I 8#0 L,λum a7 et h0 h1 k p v O x C _=>{?_,λI L=>J 4 I 8#0 L}});cases et;exact decide_eq_false (no k p v (of_decide_eq_true um) h0 h1 O x C)
 by_cases hi:s.mo<=i;rotate_left
 ·exact D λk p v z=>absurd z hi
 rcases NJ s.cs tk with no|⟨k,v,x,C⟩
 ·exact D λk p v _ _ _ _ x C=>by rw [no v (i5 x)] at C;cases C
 let mc:=i5 x;let (u,eo,eu):=nC C;let S:=g.iv.op v mc u eo;rw [eu] at S;let O:∃p,A.ps[k]?=some p:=by
  have:=g.bv.bk.pc.length;have:=(e8.mp x).1;exact {A.ps[k],e7 ∎}
 let (p,O):=O;by_cases a0:v.l<=pl/\pl<=v.m;rotate_left
 ·refine D λk' p' a8 _ _ _ _ B F=>?_;have:=g.iv.oneTk x B C F;subst this;rw [x] at B;cases B;exact a0
 let (p1,p2):=a0;let bd:=g.iv.bnd g.wg mc;let lc:=g.iv.lm v mc;let T:∀(j:Nat) n,ns[j]?=some n->pl+(j:Int)<v.m->cW s.kv (Sum.inl (pl+(j:Int)):bJ)=some (.int (s.vf (pl+(j:Int)))):=λj n _ l=>g.iv.val mc ∎ l;let Z:∀{k':Nat} {c':Pc},s.cs[k']?=some c'->c'.has tk=true->c'=v:=λ{k' c'} B F=>by
  have:=g.iv.oneTk x B C F;subst this;rw [x] at B;exact(Option.some.inj B).symm
 by_cases p3:pl+ns.length<=v.m+M.ev;rotate_left
 ·let J:=J λo L sc=>by
   cases sc with
   | tell _ B F _ _ a3 _ _=>
    rw [Z B F] at a3;exact p3 a3
  exact .inr {A.b,A.pw,A.sh,A.d,A.pw',A.d',nr,M.sp,M.ev,M.le,s.nn,s.nt,s.mo,tk,i,pl,A.ps,s.cs,k,p,v,M.ws,s.kv,ns,ρ,g.bv.bk,g.bv.st,hi,S.1,S.2.1,O,x,C,λj e U l=>g.iv.oneTk' x C j e U l,hn,ln,p1,p2,p4,p5,λj n e l=>{_,T j n e l},.inl { ∎,λI L=>J 4 I 8#0 L}}
 by_cases al:∀(j:Nat) n,ns[j]?=some n->pl+(j:Int)<v.m->n=s.vf (pl+(j:Int));rotate_left
 ·let J:=J λo L sc=>by
   cases sc with
   | tell _ B F _ _ _ a4 _=>
    rw [Z B F] at a4;exact al a4
  refine .inr {A.b,A.pw,A.sh,A.d,A.pw',A.d',nr,M.sp,M.ev,M.le,s.nn,s.nt,s.mo,tk,i,pl,A.ps,s.cs,k,p,v,M.ws,s.kv,ns,ρ,g.bv.bk,g.bv.st,hi,S.1,S.2.1,O,x,C,λj e U l=>g.iv.oneTk' x C j e U l,hn,ln,p1,p2,p4,p5,λj n e l=>{_,T j n e l},.inr {p3,?_,λI L=>J 5 I 8#0 L}};apply Classical.byContradiction;intro z;refine al λj n e l=>Classical.byContradiction λy=>z {j,n,_,e,l,T j n e l,y}
 let fl:=Gk (ns:=ns) (lo:=v.m-pl) (hi:=v.h-pl) ∎ ∎;let (wq,a5,w1,w2):=g.iv.inw g.wg mc;let lw:=g.wg.ln;let lk:=g.iv.kvl;refine .inl (.inl {A.b,A.pw,A.sh,A.d,A.pw',A.d',nr,M.sp,M.ev,M.le,s.nn,s.nt,s.mo,tk,i,pl,A.ps,s.cs,k,p,v,M.ws,s.kv,ns,ρ,g.bv.bk,g.bv.st,hi,S.1,S.2.1,O,x,C,λj e U l=>g.iv.oneTk' x C j e U l,hn,ln,p1,p2,p3,p4,p5,λj n e l=>by rw [T j n e l,<- al j n e l],g.iv.nm,g.bv.dd,∎,∎,{ ∎,∎,{wq,a5,∎,∎},λj U=>g.iv.hd.noV (g.iv.fresh x ∎ ∎)},λr I fr bk st hr=>?_});let (kp,t2,_,_):=g.bv.step O λa o e X _ Y _ n5=>fr a o e X Y n5;let t1:=g.bv.stepT O λa o e X _ Y n5=>fr a o e X Y n5;let iv:=g.iv.told (fr:=hV ns (some (v.m-pl)) (some (v.h-pl))) (i:=i) g.wg x ∎ hi;let mp:=i5 O;exact q _ A.ps _ _ I kp (λa o e X _ n2 Y _ _=>fr a o e X (λz=>Y (z ▸ mp)) n2) (λr hr=>.inl hr) {{(bk),st,t1,t2,g.bv.dd,g.bv.tt},iv.up,g.wg,g.l1,g.e1} (.tell hi x C p1 p2 p3 al rfl) (.told hr)
end
section
variable (W:Wd P w K mg base N c)
include W
def Pp:eA P w K mg base 50#0 N.CB "lend" 6 (gZ N c "lend"):=(Pg W).to EO
def Po:eA P w K mg base 50#0 N.CB "tell" 5 (gZ N c "tell"):=(Ig W).to EN
def Pt:eA P w K mg base 50#0 N.CB "give_back" 4 (gZ N c "back"):=(Pu W).to ER
def Ws:eA P w K mg base 50#0 N.CB "cut" 5 (gZ N c "cut"):=(Wt W).to JC
def Pq:eA P w K mg base 50#0 N.CB "join" 5 (gZ N c "join"):=(Wn W).to EQ
end
def fN:List Str:=["BadWorker","BadMoment","NoLending","Lost","BadTelling","Otherwise","NoPiece","BadCut","BadJoin"]
def sI (j i:Nat):List Str:=if j<i then [fN.getD j ""] else []
def zH (j i:Nat):(sI j i).length<=1:=by unfold sI;split <;> simp
def uY {i:Nat} {wd:Str} (h:fN[i]?=some wd):sI j (i+1)=sI j i++(List.replicate (if decide (i=j)=true then(1:Int) else 0).toNat [wd]).flatten:=by
 unfold sI;by_cases e:i=j
 ·subst e;rw [if_pos (Q5 _),if_neg (A3 _),A9,h];simp
 ·by_cases z:j<i
  ·rw [if_pos z,if_pos ∎];simp [e]
  ·rw [if_neg z,if_neg ∎];simp [e]
inductive JJ (K:Frag) (c:Nat->Addr) (ea:Addr) (vs:List V) (H:Hp) (Q:VK) (E0_:XK):Prop|mk (C:Addr) (j:Nat) (_:vs=[.ref ea]) (_:H ea=some (lJ ea C)) (_:JY K c C j) (_:j<9) (_:∀H',aJ H H'->Q (.str (fN.getD j "")) H')
def KQ (K:Frag) (c:Nat->Addr) (ea:Addr):Sp:=JJ K c ea
def Fe (n:Nat) (wd:Str):(List.replicate n [V.str wd]).flatten=((List.replicate n [wd]).flatten).map V.str:=by
 rw [List.map_flatten,List.map_replicate];rfl
def LY (ea:Addr) (H:Hp) (j i:Nat):St->Hp->Prop:=λσ G=>∃(l:Addr) (u v:Option V),σ=[some (.ref ea),some (.ref l),u,v]/\aJ H G/\G l=some (.lst ((sI j i).map V.str))
def IR {d C y z t l:Addr} {i0:Nat} {A F:Str} {u v:Option V} {D:dH} (M:H d=some (lJ d C)) (S:H t=some (.lst [.ref y,.ref z])) (g1:H y=some (.tup [.str A,.bl (decide (i0=j))])) (g2:H z=some (.tup [.str F,.bl (decide (i0+1=j))]))
  (o:H l=some (.lst ((sI j i0).map V.str))) (e1:fN[i0]?=some A) (e2:fN[i0+1]?=some F) (q:∀l u v f,aJ H f->f l=some (.lst ((sI j (i0+2)).map V.str))->D.nx [some (.ref d),some (.ref l),u,v] f):
  ∃W:Nat->Nat->St->Hp->Prop,(∃m,W 0 m [some (.ref d),some (.ref l),u,v] H)/\∀i m σ H,W i m σ H ->
   ((Ak K d C t).stop i H/\D.nx σ H)\/((Ak K d C t).go i H/\∃N:St->Hp->Prop,(∀L f,N L f->∃J,J<m/\W (i+1) J L f)/\∀x f,(Ak K d C t).yld i H x f->(AF K d C 2 (sG (dF 2) (sG (dF 3) Xi))) x σ f λZ H2=>(Hm (Ka ID (iU 1) (Ka IA (HA (iE (iU 2) mG)) (HF (λxs H Q=>(∃i,xs=[.int i]/\Q (.int i) H)\/∃k,xs=[.bl k]/\Q (.int (if k then 1 else 0)) H) (iE (iU 3) mG)))) (dF 1)) { D with nx:=N,ct:=N,bk:=D.nx } Z H2):=by
 refine Jd (xs:=[.ref y,.ref z]) (λi σ G=>∃l u v,σ=[some (.ref d),some (.ref l),u,v]/\aJ H G/\G l=some (.lst ((sI j (i0+i)).map V.str))) {l,u,v,ρ,λ_ _ e=>e,o} (λi σ G _ h=>?_) (λi x σ G n h=>?_) (λσ G h=>?_)
 ·let (l,u,v,rfl,g,_):=h;exact {cQ.of (g _ _ S),g _ _ M}
 ·let (l,u,v,rfl,g,o):=h;let B:∃a s,x=.ref a/\H a=some (.tup [.str s,.bl (decide (i0+i=j))])/\fN[i0+i]?=some s:=by
   match i,n with
   | 0,n=>cases n;exact {(y),A,ρ,g1,e1}
   | 1,n=>cases n;exact {(z),F,ρ,g2,e2}
  let (a,s,rfl,X,Y):=B;refine {g _ _ M,a,_,ρ,bX.of (g _ _ X),ρ,_,_,ρ,_,_,ρ,ρ,?_};refine {_,ρ,_,ρ,by show 1<=sizeLine;decide,λb nb=>?_};let (G1,E,O,b1):=jM nb (.lst [.str s]);rw [E];let fl:=zH j (i0+i);let sl:sizeLine=16777216:=sizeLine_eq;refine {_,ρ,.inr {_,ρ,b,_,_,ρ,ρ,b1,by split <;> decide,by split <;> decide,by split <;> (show 1 * _<=sizeLine;rw [sl];decide),λp T=>?_}};let (G2,E,I,b2):=jM T (.lst (List.replicate (if decide (i0+i=j)=true then(1:Int) else 0).toNat [V.str s]).flatten);rw [E];refine {l,p,_,_,ρ,ρ,I _ _ (O _ _ o),b2,?_,λr U=>?_}
  ·rw [g7,wN];have:(if decide (i0+i=j)=true then(1:Int) else 0).toNat<=1:=by split <;> decide
   show _+_ * 1<=_;omega
  ·exact {r,_,_,ρ,g.trans (O.trans (I.trans (aI U))),by rw [aB,show i0+(i+1)=i0+i+1 from rfl,uY Y,u5,Fe]}
 ·let (l,u,v,rfl,g,o):=h;exact q l u v G g o
def jS:aL ["_law_e","_law_found","_law_word","_law_good"] ["_law_e"] (aG vX):=2#0
def Tr {f C:Addr} {cdv:Value} {A:Around} {outer:List Env} {s:Shared} {H₀ G:Hp} {i0:Nat} {I Z d b:Str} {D:dH} {r:List Stmt} {σ:St} {p1 p2 p3 B q x E z O t T S L Y y q1 q2 q3 q4 q5 q6 q7 q8 q9 qa qb q0:Pos} (W:3#0) (hA:A.handled=some (.ref a)) (g:H a=some (lJ a C)) (M:JY K c C j) (h9:i0+1<9) (e1:fN[i0]?=some I) (e2:fN[i0+1]?=some Z)
  (m1:mg d=some (.ref (c i0))) (m2:mg b=some (.ref (c (i0+1)))) (p:Gl 31#0 d/\(d == "__debug__")=false) (o:Gl 31#0 b/\(b == "__debug__")=false) (h:LY a H j i0 σ G) (k:∀ σ' X,LY a H j (i0+2) σ' X->Wp 31#0 r D σ' X):
  Wp 31#0 (.For (.Tuple [.Name "_law_word" p1,.Name "_law_good" p2] 0 p3) (.List [.Tuple [.Constant (.str I) 0 B,.Call (.Name "isinstance" q) [.Name "_law_e" x,.Name d E] [] z] 0 O,.Tuple [.Constant (.str Z) 0 t,.Call (.Name "isinstance" T) [.Name "_law_e" S,.Name b L] [] Y] 0 y] q1) [.Assign [.Name "_law_found" q2] (.BinOp (.Name "_law_found" q3) .Add (.BinOp (.List [.Name "_law_word" q4] q5) .Mult (.Call (.Name "int" q6) [.Name "_law_good" q7] [] q8) q9) qa) qb] [] q0::r) D σ G:=by
 refine {_,aE (Vp z5 (Ob (h:=a) (C:=C) hA (fB (aA (bY (aA bE (aA (bD (r:=Nx K) dM 33#0 W.G.isi fC (aA (pv 0) (aA (wI (v:=.ref (c i0)) p.1 m1 rfl (hd:=p.2)) aF))) aF))) (aA (bY (aA bE (aA (bD (r:=Nx K) dM 33#0 W.G.isi fC (aA (pv 0) (aA (wI (v:=.ref (c (i0+1))) o.1 m2 rfl (hd:=o.2)) aF))) aF))) aF)))) (Vt (h:=a) (C:=C) (n:=2) hA (aY (aP (i:=2) jS.nd rfl 29#0) (aY (aP (i:=3) jS.nd rfl 29#0) dR)))
    (aH (cG (i:=1) jS.nd rfl 29#0 (bU iX (pv 1) (bU Op (fB (aA (pv 2) aF)) (bS lE 33#0 W.G.int sR (aA (pv 3) aF))))))) aQ,?_};let (l0,u0,v0,rfl,s0,F):=h;let g:=s0 _ _ g;refine {_,ρ,_,_,_,_,ρ,.ref (c i0),.inr {a,C,ρ,g,M.e,M.n i0 ∎},by show 2<=sizeLine;decide,λa1 d=>?_};let (G1,m,t1,p):=jM d (.tup [.str I,.bl (decide (i0=j))]);rw [m];refine {_,ρ,_,_,_,_,ρ,.ref (c (i0+1)),.inr {a,C,ρ,t1 _ _ g,M.e,M.n _ h9},by show 2<=sizeLine;decide,λa2 b=>?_};let (G2,m,t2,o):=jM b (.tup [.str Z,.bl (decide (i0+1=j))]);rw [m];refine {by show 2<=sizeLine;decide,λa3 n3=>?_};let (G3,m,J,g3):=jM n3 (.lst [.ref a1,.ref a2]);rw [m];let U:=t1.trans (t2.trans J);exact {a3,ρ,{_,cQ.of g3},IR (l:=l0) (U _ _ g) g3 (J _ _ (t2 _ _ p)) (J _ _ o) (U _ _ F) e1 e2 λl u v X s' Q=>k _ _ {l,u,v,ρ,s0.trans (U.trans s'),Q}}
def Ib (W:3#0):NH P w K mg base "_law_word_of" 1 (KQ K c):=W.d20.ofH λF=>by
 refine F.okH jS (λm vs H Q E h=>?_) (λL A o s H vs Q m T h=>?_)
 ·let (C,j,rfl,_):=h
  rfl
 ·intro X D
  let (C,j,rfl,a,N,I,t):=h
  let f:=T.hd
  refine Wp.ex (gY (n:=1) jS.nd rfl iT (i9 _) λla H0 _ s0 f0=>?_)
  refine Tr (i0:=0) W f a N 8#0 rfl rfl W.W.m0 W.W.m1 {(rfl),ρ} {(rfl),ρ} {la,_,_,ρ,s0,f0} λ_ _ h=>?_
  refine Tr (i0:=2) W f a N 8#0 rfl rfl W.W.m2 W.W.m3 {(rfl),ρ} {(rfl),ρ} h λ_ _ h=>?_
  refine Tr (i0:=4) W f a N 8#0 rfl rfl W.W.m4 W.W.m5 {(rfl),ρ} {(rfl),ρ} h λ_ _ h=>?_
  refine Tr (i0:=6) W f a N 8#0 rfl rfl W.W.m6 W.W.m7 {(rfl),ρ} {(rfl),ρ} h λ_ u h4=>?_
  refine {_,(aH (aW (uM PySem.F.plainAttrs_str PySem.F.slot_str_join PySem.F.type_str_join Wv bE (aA (bU iX (pv 1) (bU Op (fB (aA bE aF)) (bS lE 33#0 W.G.int sR (aA (bD (r:=Nx K) dM 33#0 W.G.isi fC (aA (pv 0) (aA (wI (v:=.ref (c 8)) 33#0 W.W.m8 rfl) aF))) aF)))) aF)))),?_}
  obtain⟨Y,u4,v4,rfl,B,k⟩:LY m H j 8 _ u:=h4
  let l:=B _ _ a
  let Z:∀g,aJ u g->Q (.str (fN.getD j "")) g:=λg J=>t g (B.trans J)
  let sl:sizeLine=16777216:=sizeLine_eq
  refine {ρ,_,ρ,by show 1<=sizeLine;decide,λb nb=>?_}
  let (G1,d,q,b1):=jM nb (.lst [.str "BadJoin"])
  rw [d]
  refine {_,ρ,_,_,_,_,ρ,.ref (c 8),.inr {m,C,ρ,q _ _ l,N.e,N.n 8 8#0},.inr {_,ρ,b,_,_,ρ,ρ,b1,by split <;> decide,by split <;> decide,by split <;> (show 1 * _<=sizeLine;rw [sl];decide),λp M=>?_}}
  let (G2,d,x,S):=jM M (.lst (List.replicate (if decide (8=j)=true then(1:Int) else 0).toNat [V.str "BadJoin"]).flatten)
  rw [d]
  let le:(if decide (8=j)=true then(1:Int) else 0).toNat<=1:=by split <;> decide
  let fl:=zH j 8
  refine {Y,p,_,_,ρ,ρ,x _ _ (q _ _ k),S,?_,λr O=>?_}
  ·rw [g7,wN]
   show _+_ * 1<=_
   omega
  let (G3,d,U,z):=jM O (.lst ((sI j 8).map V.str++(List.replicate (if decide (8=j)=true then(1:Int) else 0).toNat [V.str "BadJoin"]).flatten))
  rw [d]
  rw [Fe,<- u5,<- uY (i:=8) (wd:="BadJoin") rfl,sI,if_pos I] at z
  refine {_,r,[fN.getD j ""],ρ,ρ,cQ.of z,?_,?_}
  ·exact(by decide +kernel:∀j,j<9->(List.map (λy:Str=>y.length) [fN.getD j ""]).sum + [fN.getD j ""].length * (" ":Str).length<=16777216) j I
  ·let e:Txt.join " " [fN.getD j ""]=fN.getD j "":=rfl
   rw [e]
   exact Z _ (q.trans (x.trans U))
inductive Tl (H:Hp):Str->List V->Prop where
 | lend {as:List V} (h:NT H as):Tl H "lend" as
 | tell {as:List V} (h:NS H as):Tl H "tell" as
 | back {as:List V} (h:MY H as):Tl H "back" as
 | cut {as:List V} (h:MY H as):Tl H "cut" as
 | join {as:List V} (h:NU H as):Tl H "join" as
inductive Sm (N:Cn) (vs:List V) (H:Hp) (Q:VK) (E0_:XK):Prop|mk (M:Pm) (A:Ad) (s:S8) (t:Nat) (way:Str) (a:Addr) (as:List V) (d:Dd) (_:vs=[.ref A.b,.str way,.ref a]) (_:H a=some (.tup as)) (_:Go N M t H A s) (_:t<500) (_:tE H way as d)
 (_:∀(r:Addr) (told:V) (wd:Str) (ps':List Addr) (s':S8) (H':Hp),eU A.d A.d' H H'->Fo N A H H'->(∀r ∈ ps',r ∈ A.ps\/H r=none)->Go N M (t+1) H' { A with ps:=ps' } s'->H' r=some (.tup [told,.str wd])->((∃o,Sc M s d o s'/\oS H' told o/\wd="")\/(told=.non/\wd≠""/\s'=s/\ps'=A.ps/\∀o s',¬ Sc M s d o s'))->Q (.ref r) H')
def oS.same {o:To} (s:aJ H H') (h:oS H v o):oS H' v o:=by
 cases h with
 | non=>exact .non
 | lent h=>exact .lent (s _ _ h)
 | told h=>exact .told (s _ _ h)
def Fo.of {N:Cn} (s:aJ H H'):Fo N A H H':=λa o e _ _ _ _ _ _=>s a o e
def Fo.pre {N:Cn} {b d:Hp} (f:Fo N A H b) (s:aJ b d):Fo N A H d:=λa o e h l g j i k=>s a o (f a o e h l g j i k)
def Tl.dd {a:Str} {as:List V} (h:Tl H a as):∃d,tE H a as d:=by
 cases h with
 | lend h=>
  let (x,i,rfl,e,j):=h;exact {_,.lend e j}
 | tell h=>
  let (b,p,i,o,m,rfl,f,g,l,k):=h;exact {_,.tell f g l k}
 | back h=>
  let (b,i,rfl):=h;exact {_,.back}
 | cut h=>
  let (b,i,rfl):=h;exact {_,.cut}
 | join h=>
  let (n,rfl):=h;exact {_,.join}
def Tu (h:j<9):fN.getD j ""≠"":=by
 have:∀j:Fin 9,fN.getD j.1 ""≠"":=⋯;exact this {(j),h}
def Uh (N:Cn):Sp:=Sm N
def fZ {a b:Str} (h:a≠b):decide (V.str a=V.str b)=false:=decide_eq_false λz=>h (V.str.inj z)
def lM {a:Str}:decide (V.str a=V.str a)=true:=decide_eq_true rfl
def Mm {r:Addr} {xs:List V} (a:H r=none):aJ H (upd H r (.tup xs))/\(upd H r (.tup xs)) r=some (.tup xs):={aI a,aB}
def fL:aL ["_law_book","_law_way","_law_asked_here","_law_told","_law_word","_law_e"] ["_law_book","_law_way","_law_asked_here"] (aG Mo):=2#0
def yQ (W:3#0):jP P w K mg base dI "_law_tried" 7 (Uh N):=W.d21.of λF=>by
 let (_,_,_,GW,kW,bW,mW):=(Ib W).ex
 refine F.ok fL 11#0 (λa7 A a6 s H vs Q E hr h=>?_)
 ·let (M,A,s,t,a0,a,as,d,rfl,_):=h
  rfl
 intro X D
 let (M,n,Y,t,a0,a,as,d,rfl,J,g,lt,a5,q):=h
 let (dx,C):=g.bv.bk.ob
 refine {_,aE (cG (i:=3) fL.nd rfl 29#0 eH) (aE (cG (i:=4) fL.nd rfl 29#0 bE) (aE (Vo (i:=5) (wk:=id) (λσ h=>{h,Le.refl σ}) rfl fL.nd rfl rfl {(rfl),ρ} 33#0 W.L
   (λpn xe E σw hp=>aH (bP (bB eT (pv 1) bE (aX _)) (aH (cG (i:=3) fL.nd rfl 29#0 (gJ (pv 0) W.B.cl (Pp W) hr hp (aA (bZ (r:=gQ K) bT (pv 2) aS 19#0) (aA (bZ (r:=gQ K) bT (pv 2) aS 19#0) aF)))))
    (aH (bP (bB eT (pv 1) bE (aX _)) (aH (cG (i:=3) fL.nd rfl 29#0 (gJ (pv 0) W.B.cl (Po W) hr hp (aA (bZ (r:=gQ K) bT (pv 2) aS 19#0) (aA (bZ (r:=gQ K) bT (pv 2) aS 19#0) (aA (bZ (r:=gQ K) bT (pv 2) aS 19#0) (aA (bZ (r:=gQ K) bT (pv 2) aS 19#0) aF)))))))
    (aH (bP (bB eT (pv 1) bE (aX _)) (aH (cG (i:=3) fL.nd rfl 29#0 (gJ (pv 0) W.B.cl (Pt W) hr hp (aA (bZ (r:=gQ K) bT (pv 2) aS 19#0) (aA (bZ (r:=gQ K) bT (pv 2) aS 19#0) aF)))))
    (aH (bP (bB eT (pv 1) bE (aX _)) (aH (cG (i:=3) fL.nd rfl 29#0 (gJ (pv 0) W.B.cl (Ws W) hr hp (aA (bZ (r:=gQ K) bT (pv 2) aS 19#0) (aA (bZ (r:=gQ K) bT (pv 2) aS 19#0) aF)))))
    (aH (cG (i:=3) fL.nd rfl 29#0 (gJ (pv 0) W.B.cl (Pq W) hr hp (aA (bZ (r:=gQ K) bT (pv 2) aS 19#0) aF))))))))))))
   (λp=>aH (cG (i:=4) fL.nd rfl 29#0 (Oj (h:=p) GW ((hr.suite p).mono 8#0) rfl mW kW bW .nil (aA (pv 5) aF))))) (aH (aW (bY (aA (pv 3) (aA (pv 4) aF))))))),?_}
 have x:∀(v:V) (wd:Str) (k:List Addr) (f:S8) (e:Hp),eU n.d n.d' H e->Fo N n H e->(∀r ∈ k,r ∈ n.ps\/H r=none)->Go N M (t+1) e { n with ps:=k } f->((∃o,Sc M Y d o f/\oS e v o/\wd="")\/(v=.non/\wd≠""/\f=Y/\k=n.ps/\∀o f,¬ Sc M Y d o f))->∀(r:Addr),e r=none->Q (.ref r) (upd e r (.tup [v,.str wd])):=λv wd k f e z y U I o r m=>by
  let (s2,e2):=Mm (xs:=[v,.str wd]) m
  exact q r v wd k f _ (z.trans (eU.of s2)) (y.pre s2) U (I.same s2) e2 (o.imp_left λ⟨o,h1,h2,h3⟩=>{o,h1,h2.same s2,h3})
 have T:(∀o f,¬ Sc M Y d o f)->∀(j:Nat) (e:Hp),j<9->aJ H e->∀p,e p=none->∀u,aJ (upd e p (lJ p (c j))) u->∀(r:Addr),u r=none->Q (.ref r) (upd u r (.tup [.non,.str (fN.getD j "")])):=λS j e l f p O u G=>
  have st:=f.trans ((aI O).trans G)
  x .non _ n.ps Y u (eU.of st) (Fo.of st) (λr hr=>.inl hr) (g.up.same st) (.inr {ρ,Tu l,ρ,ρ,S})
 cases a5 with
 | lend a1 a2=>
  refine {_,ρ,ρ,_,ρ,cN lM {Le.refl _,_,ρ,n.b,dx,_,ρ,C,ρ,_,ρ,a,_,_,_,ρ,ρ,bX.of J,ρ,_,ρ,a,_,_,_,ρ,ρ,bX.of J,ρ,M,n,Y,t,_,_,ρ,g,lt,.lend a1 a2,λj e l f S=>{c j,ρ,W.E j l,λp O=>?_},λv k o f e z y U I sc Z=>?_}}
  ·exact 17#0
  ·exact 23#0
 | tell a1 a2 a3 a4=>
  refine {_,ρ,ρ,_,ρ,cO (fZ ⋯) {_,ρ,ρ,_,ρ,cN lM {Le.refl _,_,ρ,n.b,dx,_,ρ,C,ρ,_,ρ,a,_,_,_,ρ,ρ,bX.of J,ρ,_,ρ,a,_,_,_,ρ,ρ,bX.of J,ρ,_,ρ,a,_,_,_,ρ,ρ,bX.of J,ρ,_,ρ,a,_,_,_,ρ,ρ,bX.of J,ρ,M,n,Y,t,_,_,ρ,g,lt,.tell a1 a2 a3 a4,λj e l f S=>{c j,ρ,W.E j l,λp O=>?_},λv k o f e z y U I sc Z=>?_}}}
  ·exact 17#0
  ·exact 23#0
 | back=>
  refine {_,ρ,ρ,_,ρ,cO (fZ ⋯) {_,ρ,ρ,_,ρ,cO (fZ ⋯) {_,ρ,ρ,_,ρ,cN lM {Le.refl _,_,ρ,n.b,dx,_,ρ,C,ρ,_,ρ,a,_,_,_,ρ,ρ,bX.of J,ρ,_,ρ,a,_,_,_,ρ,ρ,bX.of J,ρ,M,n,Y,t,_,_,ρ,g,lt,.back,λj e l f S=>{c j,ρ,W.E j l,λp O=>?_},λv k o f e z y U I sc Z=>?_}}}}
  ·exact 17#0
  ·exact 23#0
 | cut=>
  refine {_,ρ,ρ,_,ρ,cO (fZ ⋯) {_,ρ,ρ,_,ρ,cO (fZ ⋯) {_,ρ,ρ,_,ρ,cO (fZ ⋯) {_,ρ,ρ,_,ρ,cN lM {Le.refl _,_,ρ,n.b,dx,_,ρ,C,ρ,_,ρ,a,_,_,_,ρ,ρ,bX.of J,ρ,_,ρ,a,_,_,_,ρ,ρ,bX.of J,ρ,M,n,Y,t,_,_,ρ,g,lt,.cut,λj e l f S=>{c j,ρ,W.E j l,λp O=>?_},λv k o f e z y U I sc Z=>?_}}}}}
  ·exact 17#0
  ·exact 23#0
 | join=>
  refine {_,ρ,ρ,_,ρ,cO (fZ ⋯) {_,ρ,ρ,_,ρ,cO (fZ ⋯) {_,ρ,ρ,_,ρ,cO (fZ ⋯) {_,ρ,ρ,_,ρ,cO (fZ ⋯) {Le.refl _,_,ρ,n.b,dx,_,ρ,C,ρ,_,ρ,a,_,_,_,ρ,ρ,bX.of J,ρ,M,n,Y,t,_,_,ρ,g,lt,.join,λj e l f S=>{c j,ρ,W.E j l,λp O=>?_},λv k o f e z y U I sc Z=>?_}}}}}
  ·exact 17#0
  ·exact 23#0
def gN (ns:List Int):PyData:=.list (ns.map PyData.int)
def zE (ns:List Int):PyData:=.tuple (ns.map PyData.int)
theorem oC {K:Frag} {H:Hp}:∀a:List Int,Ag K H (a.map V.int) (a.map PyData.int)
 | []=>.nil
 | n::a=>.cons (.int n) (oC a)
def fR {K:Frag} {l:Addr} {ns:List Int} (h:H l=some (.lst 32#0)):sW K H (.ref l) (gN ns):=.lst (cQ.of h) (oC ns)
def Hv {K:Frag} {l:Addr} {ns:List Int} (h:H l=some (.tup 32#0)):sW K H (.ref l) (zE ns):=.tup (bX.of h) (oC ns)
def Gh (ns:List Int):∀d ∈ ns.map PyData.int,Gd 0 d:=λd hd=>by
 let (n,_,rfl):=v8.mp hd
 exact Gd.int n
def cJ (ns:List Int):SeqAt.shaped (gN ns)=true:=(Gd.lst (Gh ns)).shaped 8#0
theorem kD:∀a:List Int,PyData.eqvAll (a.map PyData.int) (a.map PyData.int)=true
 | []=>by simp [PyData.eqvAll]
 | n::a=>by
  rw [x9,PyData.eqvAll,kD a]
  simp [PyData.eqv]
def kC (ns:List Int):PyData.eqv (gN ns) (gN ns)=true:=by
 unfold gN;rw [PyData.eqv];simp [kD]
def Jh (ns:List Int):PyData.eqv (zE ns) (zE ns)=true:=by
 unfold zE;rw [PyData.eqv];simp [kD]
def IK {l:List Int} (h:l.Pairwise (·<·)):l.Pairwise (·<=·):=h.imp λz=>y9 z
def Ll {a b:List Int} (p:a.Perm b) (c:a.Pairwise (·<=·)) (d:b.Pairwise (·<=·)):a=b:=List.Perm.eq_of_pairwise (λ_ _ _ _=>Int.le_antisymm) c d p
def fE (H:Hp) (v:V) (c:Pc):Prop:=∃t lv,v=.ref t/\H t=some (.lst [.int c.n,.int c.l,.int c.h,.int c.m,lv])/\jO H lv c.o
def fE.kpl {d:Addr} (k:eU d d' H H') {v:V} {c:Pc} (h:fE H v c):fE H' v c:=by
 let (t,b,e,f,a):=h;exact {t,b,e,k.lst f,a.move λ_ _ z=>k.tup z}
def fE.same (s:aJ H H') {v:V} {c:Pc} (h:fE H v c):fE H' v c:=fE.kpl (d:=0) (d':=0) (eU.of s) h
def wY (p g x m y z:V):List (bJ × V):=[(Sum.inr "pieces",p),(Sum.inr "given",g),(Sum.inr "made",x),(Sum.inr "moment",m),(Sum.inr "known",y),(Sum.inr "work",z)]
def AA:cW (wY p g x m y z) (Sum.inr "pieces":bJ)=some p:=rfl
def AB:cW (wY p g x m y z) (Sum.inr "given":bJ)=some g:=rfl
def IJ:cW (wY p g x m y z) (Sum.inr "moment":bJ)=some m:=rfl
def Qc:iM (wY p g x m y z) (Sum.inr "pieces":bJ) v=wY v g x m y z:=rfl
def yY:iM (wY p g x m y z) (Sum.inr "given":bJ) v=wY p v x m y z:=rfl
def Qd:iM (wY p g x m y z) (Sum.inr "moment":bJ) v=wY p g x v y z:=rfl
structure oT (H:Hp) (md pl:Addr) (g mo:Int) (rs:List V) (cs:List Pc):Prop where
 d:∃x y z,H md=some 47#0
 l:H pl=some (.lst rs)
 r:Paired (fE H) rs cs
 g0:0<=g
theorem oT.same {H H':Hp} {a pl:Addr} {g mo:Int} {b:List V} {cs:List Pc} (s:aJ H H') (h:oT H a pl g mo b cs):oT H' a pl g mo b cs:=by
 let ((x,y,z,e),d,i,f):=h;exact {{x,y,z,s _ _ e},s _ _ d,aO (λ_ _ q=>q.same s) i,f}
inductive Ae (vs:List V) (H:Hp) (Q:VK) (E0_:XK):Prop|mk (md pl:Addr) (g mo n:Int) (rs:List V) (cs:List Pc) (_:vs=[.ref md,.int n]) (_:oT H md pl g mo rs cs) (_:cs.length<=1000) (_:(∃c ∈ cs,c.n=n)) (_:∀v c H',aJ H H'->fE H' v c->c ∈ cs->Q v H')
def Ba:Sp:=Ae
inductive Sv (vs:List V) (H:Hp) (Q:VK) (E0_:XK):Prop|mk (wk:Addr) (a:Lm.Ps) (_:vs=[.ref wk]) (_:cE H wk a) (_:a.length<=100) (_:∀md pl rs H',aJ H H'->H md=none->oT H' md pl 0 0 rs (pcs 0 a)->Q (.ref md) H')
def Ul:Sp:=Sv
def LH:(["_law_k","_law_work_here"]:List Str).Nodup:=⋯
theorem Fl:∀{a:Lm.Ps} {k j:Nat} {q:Int × Int},a[j]?=some q->(pcs k a)[j]?=some {((k+j:Nat):Int),q.1,q.2,q.1,none}
 | q'::a,k,0,q,h=>by cases h;rfl
 | q'::a,k,j+1,q,h=>by
  have:=Fl (a:=a) (k:=k+1) (j:=j) (q:=q) (by simpa using h)
  rw [show k+1+j=k+(j+1) by omega] at this
  exact this
def Bi:aL ["_law_model_here","_law_number"] ["_law_model_here","_law_number"] (aG uH):=2#0
def yR (W:3#0):jP P w K mg base dI "_law_numbered" 1 Ba:=W.d18.of λF=>by
 refine F.ok Bi 11#0 (λa0 A p s H vs Q E U h=>?_)
 ·let (v,o,g,mo,n,a,b,rfl,_):=h
  rfl
 intro X D
 let (v,o,g,mo,n,a,b,rfl,M,lc,ex,q):=h
 let hu:=jK U
 let (x,y,z,Z):=M.d
 let O:=M.r.length
 let dg:fD H v (.str "pieces") (some (.ref o)):=by have:=fD.k (k:=Sum.inr "pieces") Z;rw [AA] at this;exact this
 let Y:H o=some (.lst ((b.zip a).map λz=>z.2)):=by rw [M.l,F9 (D6 O)]
 refine Wp.ex (eC {_,bZ gD aR aS 19#0,jC (NB:=["_law_piece","_law_number"]) (js:=[1]) (cl:=[("_law_number",s.heap.objs.size+1)]) (zs:=b.zip a) (val:=λz:Pc × V=>z.2) (out:=λz=>z.2) (pm:=λz=>decide (V.int z.1.n=V.int n)) 39#0 rfl 15#0 Y (by rw [A1];omega) (λz L G m C s H' fp pn=>?_) (λz L _ G m C s H' fp pn=>?_) λu G m B=>?_})
 ·let (t,lv,e,J,h2):=cH M.r z L
  let J:=m _ _ J
  rw [e]
  symm
 ·symm
 let (c,T,rfl):=ex
 let (k,hk,e):=C3 T
 let S:k<a.length:=∎
 let I:(c,a[k]) ∈ (b.zip a).filter λz=>decide (V.int z.1.n=V.int c.n):=v3.mpr {i5 (i:=k) (A2.mpr {by rw [<- e];exact e7 hk,e7 S}),decide_eq_true rfl}
 cases ef:(b.zip a).filter λz=>decide (V.int z.1.n=V.int c.n) with
 | nil=>rw [ef] at I;cases I
 | cons z0 zr=>
  rw [ef] at B
  let f:z0 ∈ b.zip a:=(v3.mp (by rw [ef];exact i4 ..)).1
  exact {u,_,_,_,ρ,ρ,cQ.of B,bH (j:=0) rfl,q z0.2 z0.1 G m ((cH M.r z0 f).same m) (E4 f).1}
def Ek:aL ["_law_work_here","_law_pieces"] ["_law_work_here"] (aG Na):=2#0
def Pe (W:3#0):jP P w K mg base dI "_law_model" 1 Ul:=W.d17.of λF=>by
 refine F.ok Ek 11#0 (λa2 A a0 s H vs Q E hr h=>?_)
 ·let (f,a,rfl,_):=h
  rfl
 intro X D
 let (f,a,rfl,hw,la,q):=h
 refine {_,aE (iV (ix:=1) Ek.nd rfl 29#0 (NB:=["_law_k","_law_work_here"]) (n:=1) (js:=[0]) (g:=dF 0) (cl:=[("_law_work_here",s.heap.objs.size+1)]) rfl ⋯ ⋯ rfl
     (gO.of rfl (all_cons rfl cI) (all_cons 20#0 (all_cons 20#0 (all_cons (λ_=>rfl) cI))) rfl
      (λk j h=>match k,j,h with|0,_,rfl=>rfl|k+1,_,h=>absurd h 9#0) (all_cons {.inl rfl,.inl rfl,ρ} cI))
     (kP rfl W.G.range (aA (bD cC 33#0 W.G.len PySem.boot_len (aA (pv 0) aF)) aF)) (λ_ s H fp pn=>aP (i:=0) LH rfl 29#0 (.inr rfl)) (λ_ s H fp pn=>eZ)
     (λ_ s H fp pn=>fB (aA (pv 0) (aA (bZ (r:=gQ K) bT (bZ (r:=gQ K) bT (pv 1) (pv 0) 19#0) aS 19#0) (aA (bZ (r:=gQ K) bT (bZ (r:=gQ K) bT (pv 1) (pv 0) 19#0) aS 19#0) (aA (bZ (r:=gQ K) bT (bZ (r:=gQ K) bT (pv 1) (pv 0) 19#0) aS 19#0) (aA eH aF)))))))
  (aH (aW (Vx (iN bE (pv 1) (iN bE aS (iN bE (bD cC 33#0 W.G.len PySem.boot_len (aA (pv 0) aF)) (iN bE aS (iN bE rJ (iN bE (pv 0) Vq)))))) rfl rfl 9#0 8#0))),?_}
 let sl:sizeLine=16777216:=sizeLine_eq
 let (p,hx,pr):=id hw
 let lx:=pr.length
 refine {_,ρ,f,_,ρ,.inr (bX.of hx),_,ρ,∎,∎,λe na=>?_}
 rw [J4]
 refine {λi m B I=>m=a.length-i/\i<=a.length/\aJ H I/\I e=some (.lst B)/\Paired (λv c=>v≠.ref e/\fE I v c) B ((pcs 0 a).take i),{_,ρ,i9 _,aI na,aB,.nil},?_}
 rintro i m B I ⟨rfl,hi,C,U,d⟩
 refine {U,?_}
 by_cases L:i<a.length
 ·refine .inr {by show i<p.length;omega,λy a1 hy=>?_}
  let (rfl,rfl):=hy
  let e1:a[i]?=some a[i]:=e7 L
  obtain⟨v,hv,b,rfl,hb⟩:∃v,p[i]?=some v/\jH H v a[i]:=by
   let hl:i<p.length:=∎;let (q',S,Z):=aM pr (e7 hl);rw [e1] at S;cases S;exact {p[i],e7 hl,Z}
  let u:oR p ((0:Int)+(i:Int))=some (.ref b):=by rw [Int.zero_add];exact bH hv
  let x:=C _ _ hx;let t:=C _ _ hb;refine {ρ,gB (dE ?_)};refine {_,ρ,_,ρ,_,ρ,f,_,_,_,ρ,ρ,bX.of x,u,b,_,_,_,ρ,ρ,bX.of t,ρ,_,ρ,_,ρ,f,_,_,_,ρ,ρ,bX.of x,u,b,_,_,_,ρ,ρ,bX.of t,ρ,_,ρ,_,ρ,f,_,_,_,ρ,ρ,bX.of x,u,b,_,_,_,ρ,ρ,bX.of t,ρ,by show 5<=sizeLine;decide,λl nl=>?_};let (G5,T,J,e5):=jM nl (.lst [.int (0+(i:Int)),.int a[i].1,.int a[i].2,.int a[i].1,.non]);rw [T];let M:=J _ _ U;let lz:B.length=i:=by
   have:=d.length;rw [u6,mU] at this;omega
  refine {M,∎,_,?_,ρ,L,?_,aB,?_}
  ·omega
  ·intro b' o z;rw [aC (aD z na)];exact J _ _ (C _ _ z)
  ·let kp:∀v c,v≠.ref e->fE a1 v c->fE (upd G5 e (.lst (B++[.ref l]))) v c:=λv c nv ⟨t',lv',S,Z,h3⟩=>by
    let nt:t'≠e:=λz=>nv (by rw [S,z]);exact {t',lv',S,by rw [aC nt];exact J _ _ Z,h3.move λq' zs h=>by rw [aC (aK (J _ _ h) M 1#0)];exact J _ _ h}
   rw [A5,Fl e1];let O:l≠e:=(aD U nl).symm;refine dB (aO (λv c z=>{z.1,kp v c z.1 z.2}) d) {λz=>O (V.ref.inj z),l,.non,ρ,?_,trivial};rw [aC O,e5];show some (HO.lst [V.int (0+(i:Int)),_,_,_,_])=some (HO.lst [V.int ((0+i:Nat):Int),_,_,_,_]);rw [Int.zero_add,O8]
 ·refine .inl {by show p.length<=i;omega,?_};rw [v6 (by rw [mU];omega)] at d;let d:=aO (λv c z=>z.2) d;intro md nm;let (G1,T,s1,f1):=jM nm (.dK []);rw [T];refine {_,ρ,_,ρ,f,_,ρ,.inr (bX.of (s1 _ _ (C _ _ hx))),λkd nk=>?_};let (G2,T,s2,f2):=jM nk (.dK []);rw [T];refine {_,ρ,s2 _ _ f1,wY (.ref e) (.int 0) (.int p.length) (.int 0) (.ref kd) 59#0,ρ,by show 6<=15;decide,?_};let Y:aJ I (upd G2 md (.dK (oG [] (wY (.ref e) (.int 0) (.int p.length) (.int 0) (.ref kd) 59#0)))):=λa' o z=>by
   rw [aC (aD z nm)];exact s2 _ _ (s1 _ _ z)
  exact q md e B _ (C.trans Y) (C.free nm) {{_,_,_,aB},Y _ _ U,aO (λ_ _ z=>z.same Y) d,j8 _}
structure JL (cs:List Pc):Prop where
 lm:∀c ∈ cs,c.l<=c.m/\c.m<=c.h/\-(2 ^ 60)<=c.l/\c.h<=2 ^ 60
 op:∀c ∈ cs,∀t,c.o=some t->PyData.strOk t.2.1=true
 ln:cs.length<128
def Se {α:Type} {x:α} {xs:List α}:oR (x::xs) 0=some x:=bH (j:=0) rfl
def Zv {x:Int} {a b c d e f:V} {Pr:V->Prop} (n:Pr a) (m:Pr b) (l:Pr c) (hd:Pr d) (k:Pr e) (i:Pr f):∃v,oR [a,b,c,d,e,f] (x % 6)=some v/\Pr v:=by
 let o:=B5 x (show (6:Int)≠0 by decide);let p:=z8 x (show (0:Int)<6 by decide);obtain⟨j,h⟩:∃j:Nat,x % 6=(j:Int):={(x % 6).toNat,∎};rw [h];let g:j<6:=∎
 match j,g with
 | 0,_=>exact {a,bH (j:=0) rfl,n}
 | 1,_=>exact {b,bH (j:=1) rfl,m}
 | 2,_=>exact {c,bH (j:=2) rfl,l}
 | 3,_=>exact {d,bH (j:=3) rfl,hd}
 | 4,_=>exact {e,bH (j:=4) rfl,k}
 | 5,_=>exact {f,bH (j:=5) rfl,i}
abbrev II:List Str:=["_law_model_here","_law_bounds_here","_law_xs","_law_moment","_law_piece","_law_lent","_law_pieces_now","_law_way","_law_number","_law_token","_law_mark","_law_place","_law_many","_law_numbers"]
def mJ:aL II ["_law_model_here","_law_bounds_here","_law_xs"] (aG fV):=2#0
abbrev AL (P:Program) (w:World) (K:Frag) (mg:Str->Option Value) (base:Heap) (f:Addr) (cdv:Value) (A:Around) (outer:List Env) (s:Shared) (H:Hp) (E:XK):Cx:=(hX dI P w K mg base II "_law_asked" (aG fV) f cdv A outer s H E).nox
def JG {f:Addr} {cdv:Value} {A:Around} {outer:List Env} {s:Shared} {H:Hp} {E:XK} {D:dH} {bd lx ll:Addr} {i tk sp Q le x0 x1 x2 x3 T M Y x7:Int} {o0 o4 o6 o8 a7 aa a3 a2:Option V} {j:Str} {zs:List (Pc × V)} {cs:List Pc} {O:Hp} (W:3#0) (hr:Room 1 (A.deeper (PyProof.Rows.envOfC "_law_asked" (aG fV) s.heap.objs.size f cdv))) (hb:O bd=some (.tup [.int sp,.int Q,.int le])) (e1:1<=Q) (e4:Q<=4) (hx:O lx=some (.lst [.int x0,.int x1,.int x2,.int x3,.int T,.int M,.int Y,.int x7])) (hl:O ll=some (.lst (zs.map (·.2)))) (lz:zs.length<=1000) (hz:∀z ∈ zs,z.1 ∈ cs/\fE O z.2 z.1/\∃t,z.1.o=some t) (pk:JL cs) (hw:j="back"\/j="tell") (q:∀r a as l,aJ O l->l r=some (.tup [.str j,.ref a])->l a=some (.tup as)->Tl l j as->D.rt (.ref r) l):let X:=AL P w K mg base f cdv A outer s H E;Wp X ((bQ fV).drop 8) D [o0,some (.ref bd),some (.ref lx),some (.int i),o4,some (.ref ll),o6,some (.str j),o8,some (.int tk),a7,aa,a3,a2] O:=by
 intro X;let nd:=mJ.nd;rcases hw with rfl|rfl
 ·apply Kf;symm;exact lM;exact Ds (vs:=[.int tk,.int i]) 15#0 15#0 (by show 2<=1000;decide) λr a l s' J B=>q r a _ l s' J B (.back {(tk),i,ρ})
 apply Ki;symm;exact fZ ⋯;refine cF (n:=10) nd rfl {_,bZ gD (bU iX aR (fB fG)) aR 19#0,jC (NB:=["_law_piece","_law_token"]) (js:=[9]) (cl:=[("_law_token",s.heap.objs.size+1+1)]) (zs:=zs) (val:=λz:Pc × V=>z.2) (out:=λz=>V.int z.1.m) (pm:=λz=>z.1.has tk) 39#0 rfl 15#0 hl ∎ (λz I G' S C s l fp pn=>?_) (λz I _ G' S C s l fp pn=>?_) λae G' S hA=>?_}
 ·let (mc,(t',lv,L,J,B),(u,eo)):=hz z I;rw [eo] at B;rw [L];let J:=S _ _ J;let B:=B.move λ_ _ z=>S _ _ z;cases lv with
  | ref qa=>
   let B:G' qa=some (.tup [.int u.1,.str u.2.1,.int u.2.2]):=B;let eh:decide (V.int u.1=V.int tk)=z.1.has tk:=by
    unfold Pc.has;rw [eo];show decide (V.int u.1=V.int tk)=decide (u.1=tk);rw [E3];simp
   apply Tv.is;symm;exact eh
  | _=>exact B.elim
 ·let (mc,(t',lv,L,J,B),_):=hz z I;let J:=S _ _ J;rw [L];symm
 let h:∃h:Int,∃y,(zs.filter λz=>z.1.has tk).map (λz=>V.int z.1.m)++[V.int 0]=V.int h::y/\-(2 ^ 60)<=h/\h<=2 ^ 60:=by
  cases ef:zs.filter λz=>z.1.has tk with
  | nil=>exact {0,[],ρ,by decide,by decide}
  | cons z0 zr=>
   let ac:z0 ∈ zs:=(v3.mp (by rw [ef];exact i4 ..)).1;have:=pk.lm z0.1 (hz z0 ac).1;exact {z0.1.m,_,ρ,∎,∎}
 let (h,y,a5,af,ai):=h;let lf:((zs.filter λz=>z.1.has tk).map (λz=>V.int z.1.m)).length<=1000:=by rw [g7];exact u8 (D5 _ _) lz
 let sl:sizeLine=16777216:=sizeLine_eq;refine Av.to (vs:=[.int 0]) 15#0 _ {by show 1<=sizeLine;decide,λb nb=>{ae,b,_,_,ρ,ρ,aI nb _ _ hA,aB,by show _+1<=sizeLine;omega,λp np=>Zd.to _ ?_}};rw [a5];refine {p,_,_,_,ρ,ρ,cQ.of aB,Se,?_};let t4:=S.trans ((aI (o:=.lst [.int 0]) nb).trans (aI (o:=.lst (V.int h::y)) np));generalize upd (upd G' b _) p _=H4 at t4 ⊢;let Z:=t4 _ _ hx;let a4:=t4 _ _ hb;let m9:=B5 (T / 6) (show (9:Int)≠0 by decide);let al:=z8 (T / 6) (show (0:Int)<9 by decide);let (ov,eo,g,rfl,ah,aj):=Zv (x:=T) (a:=V.int 0) (b:=V.int 0) (c:=V.int 0) (d:=V.int 1) (e:=V.int 2) (f:=V.int (T / 6 % 9-1)) (Pr:=λv=>∃k:Int,v=.int k/\-1<=k/\k<=8) {0,ρ,by decide,by decide} {0,ρ,by decide,by decide} {0,ρ,by decide,by decide} {1,ρ,by decide,by decide} {2,ρ,by decide,by decide} {_,ρ,∎,∎};refine cF (n:=11) nd rfl (EJ (Vl.ex (v:=.int h) 15#0 {h,ρ,gX (vs:=[.int 0,.int 0,.int 0,.int 1,.int 2,.int (T / 6 % 9-1)]) 15#0 (by show 6<=1000;decide) (λl s'=>?_) eo λH5 s5=>{g,ρ,?_}}))
 ·have:=s' _ _ Z;symm
 let a6:=s5 _ _ Z;let ag:=s5 _ _ a4;show 12;let m5:=B5 M (show Q+2≠0 by omega);let ad:=z8 M (show (0:Int)<Q+2 by omega);let m2:=B5 (M / 9) (show (2:Int)≠0 by decide);let a9:=z8 (M / 9) (show (0:Int)<2 by decide);generalize M % (Q+2)=r5 at m5 ad ⊢;generalize M / 9 % 2=r9 at m2 a9 ⊢;refine Kg (n:=13) (NB:=["_law_k","_law_place","_law_xs"]) (js:=[11,2]) (cl:=[("_law_xs",s.heap.objs.size+1),("_law_place",s.heap.objs.size+1+1+1)]) (out:=λk=>V.int (Vi (h-g+(0+(k:Int)))+(if decide (V.int (Y % 11)=V.int (0+(k:Int)+1))=true then 1 else 0))) nd rfl 39#0 rfl W.G.range 15#0 ∎ (λk hk G6 s6 R qq C s l fp pn=>?_) λU G6 s6 a0=>?_
 ·let am:=s6 _ _ a6;refine {_,bU eI aR (bS lE 33#0 W.G.int sR (aA (dA eT aR aR (aX _)) aF)),dO (vs:=[.int (h-g+(0+(k:Int)))]) (Wf W) hr aN 15#0 {_,ρ,∎,∎,Vl.to (v:=.int (Y % 11)) 15#0 _ (Vl.to (v:=.int (0+(k:Int)+1)) 15#0 _ {ρ,.inr {_,ρ,_,_,ρ,ρ,qq _ (aJ.refl _)}})}}
 let t6:=t4.trans (s5.trans s6);obtain⟨F,a1,ak⟩:∃F:List Int,((List.range (h-(h-g)+r5-r9).toNat).map λ(k:Nat)=>V.int (Vi (h-g+(0+(k:Int)))+(if decide (V.int (Y % 11)=V.int (0+(k:Int)+1))=true then 1 else 0)))=F.map V.int/\F.length<=100:={(List.range _).map λ(k:Nat)=>Vi (h-g+(0+(k:Int)))+(if decide (V.int (Y % 11)=V.int (0+(k:Int)+1))=true then 1 else 0),by rw [C2];rfl,by rw [g7,A4];omega};rw [a1] at a0;refine eC {_,bY (aA (pv 7) (aA (bY (aA (pv 9) (aA (pv 11) (aA (bS dP 33#0 W.G.tuple jE (aA (pv 13) aF)) (aA (pv 3) aF))))) aF)),?_};refine {_,ρ,_,ρ,_,ρ,_,ρ,U,_,ρ,.inl {cQ.of a0,λp7 n7=>?_}};let s7:=aI (o:=.tup (F.map V.int)) n7;let f7:upd G6 p7 (.tup (F.map V.int)) p7=_:=aB;generalize upd G6 p7 (.tup (F.map V.int))=H7 at s7 f7 ⊢;refine {_,ρ,by show 4<=sizeLine;decide,λa8 n8=>{by show 2<=sizeLine;decide,λr nr=>?_}};let s8:=(aI (o:=.tup [.int tk,.int (h-g),.ref p7,.int i]) n8).trans (aI (o:=.tup [.str "tell",.ref a8]) nr);exact q r a8 _ _ (t6.trans (s7.trans s8)) aB (aI nr _ _ aB) (.tell {tk,h-g,i,p7,F,ρ,s8 _ _ f7,∎,∎,∎})
def yF {L:List V} (g:L.length=n) (e:0<n) (x:Int):∃v,oR L (x % (n:Int))=some v/\v ∈ L:=by
 let d:=B5 x (show (n:Int)≠0 by omega);let f:=z8 x (show (0:Int)<(n:Int) by omega);obtain⟨j,b⟩:∃j:Nat,x % (n:Int)=(j:Int):={(x % (n:Int)).toNat,∎};rw [b];let a:j<L.length:=∎;exact {L[j],bH (e7 a),List.getElem_mem a}
def zA:Option (Int × Str × Int)->PyData
 | none=>.none
 | some t=>.tuple [.int t.1,.str t.2.1,.int t.2.2]
def Nr (c:Pc):PyData:=.list [.int c.n,.int c.l,.int c.h,.int c.m,zA c.o]
def yB {K:Frag} {a:V} (h:jO H a o):sW K H a (zA o):=by
 cases a <;> cases o <;> first|exact h.elim|skip
 ·exact .non
 ·exact .tup (bX.of h) (.cons (.int _) (.cons (.str _) (.cons (.int _) .nil)))
def Vj {K:Frag} {c:Pc} (h:fE H v c):sW K H v (Nr c):=by
 let (t,d,rfl,b,a):=h;exact .lst (cQ.of b) (.cons (.int _) (.cons (.int _) (.cons (.int _) (.cons (.int _) (.cons (yB a) .nil)))))
theorem uJ {K:Frag} {H:Hp}:∀{zs:List (Pc × V)},(∀z ∈ zs,fE H z.2 z.1)->Ag K H (zs.map (·.2)) (zs.map λz=>Nr z.1)
 | [],_=>.nil
 | z::zs,h=>.cons (Vj (h z (i4 ..))) (uJ λy a=>h y (g6 _ a))
def Gg (h:∀t,o=some t->PyData.strOk t.2.1=true):Gd 1 (zA o):=by
 cases o with
 | none=>exact Gd.non
 | some t=>exact Gd.tup (bM (Gd.int _) (bM (Gd.str (h t rfl)) (bM (Gd.int _) jA)))
def EG {c:Pc} (h:∀t,c.o=some t->PyData.strOk t.2.1=true):Gd 2 (Nr c):=Gd.lst (bM (Gd.int _) (bM (Gd.int _) (bM (Gd.int _) (bM (Gd.int _) (bM (Gg h) jA)))))
def xX {zs:List (Pc × V)} (h:∀z ∈ zs,∀t,z.1.o=some t->PyData.strOk t.2.1=true):SeqAt.shaped (.list (zs.map λz=>Nr z.1))=true:=(Gd.lst (n:=2) λd a=>by
 let (z,b,rfl):=v8.mp a
 exact EG (h z b)).shaped 8#0
def Xn:PyData.eqv (.list []) (.list [])=true:=kC []
def zO {d:PyData} {a:List PyData}:PyData.eqv (.list (d::a)) (.list [])=false:=by
 rw [PyData.eqv];simp [PyData.eqvAll]
inductive Ti (vs:List V) (H:Hp) (Q:VK) (E0_:XK):Prop|mk (md pl bd lx:Addr) (g mo sp ev le:Int) (rs:List V) (cs:List Pc) (xs:List Int) (_:vs=[.ref md,.ref bd,.ref lx]) (_:oT H md pl g mo rs cs) (_:H bd=some (.tup [.int sp,.int ev,.int le])) (_:1<=ev) (_:ev<=4) (_:H lx=some (.lst (xs.map V.int))) (_:xs.length=8) (_:JL cs) (_:∀(r a:Addr) (way:Str) (as:List V) (H':Hp),aJ H H'->H' r=some (.tup [.str way,.ref a])->H' a=some (.tup as)->Tl H' way as->Q (.ref r) H')
def Uu:Sp:=Ti
def AJ {f:Addr} {cdv:Value} {A:Around} {outer:List Env} {s:Shared} {H:Hp} {E:XK} {D:dH} {T pl bd lx ll Z:Addr} {g mo i sp ev le x0 x1 x2 x3 x4 x5 x6 x7:Int} {o4 o8 o9 F I B x:Option V} {j:Str} {ns:List Int} {zs:List (Pc × V)} {rs:List V} {cs:List Pc} {m:Hp} (W:3#0) (hr:Room 1 (A.deeper (PyProof.Rows.envOfC "_law_asked" (aG fV) s.heap.objs.size f cdv))) (M:oT m T pl g mo rs cs) (hb:m bd=some (.tup [.int sp,.int ev,.int le])) (e1:1<=ev) (e4:ev<=4) (hx:m lx=some (.lst [.int x0,.int x1,.int x2,.int x3,.int x4,.int x5,.int x6,.int x7])) (hl:m ll=some (.lst (zs.map (·.2)))) (lz:zs.length<=1000) (hz:∀z ∈ zs,z.1 ∈ cs/\fE m z.2 z.1/\∃t,z.1.o=some t) (hn:m Z=some (.lst 32#0)) (a5:ns.length<=1000) (pk:JL cs) (hw:j="cut"\/j="join"\/j="back"\/j="tell") (q:∀r a j as y,aJ m y->y r=some (.tup [.str j,.ref a])->y a=some (.tup as)->Tl y j as->D.rt (.ref r) y):let X:=AL P w K mg base f cdv A outer s H E;Wp X ((bQ fV).drop 6) D [some (.ref T),some (.ref bd),some (.ref lx),some (.int i),o4,some (.ref ll),some (.ref Z),some (.str j),o8,o9,F,I,B,x] m:=by
 intro X;let nd:=mJ.nd;let hu:=jK hr;let GL:=W.G.len;let sl:sizeLine=16777216:=sizeLine_eq;refine {_,aE (bP (bB Ia (pv 7) (bY (aA bE (aA bE aF))) 33#0) aQ aQ) aQ,?_};refine {_,ρ,by show 2<=sizeLine;decide,λa1 n1=>?_};let (H3,O,s3,f3):=jM n1 (.tup [.str "cut",.str "join"]);rw [O];refine {a1,_,ρ,.inr (bX.of f3),ρ,ρ,_,ρ,?_};by_cases cj:j="cut"\/j="join"
 ·let e:inV (.str j) [.str "cut",.str "join"]=true:=by rcases cj with rfl|rfl <;> decide +kernel
  refine cN e (eC {_,bY (aA bE (aA (bY (aA (bZ gD (bU iX (pv 6) (fB (aA aS aF))) aR 19#0) aF)) aF)),?_});refine {_,ρ,by show 1<=sizeLine;decide,λb nb=>?_};let (S,O,s4,f4):=jM nb (.lst [.int 0]);rw [O];refine {Z,b,_,_,ρ,ρ,s4 _ _ (s3 _ _ hn),f4,by rw [g7];show _+1<=_;omega,λp np=>?_};let em:ns.map V.int++[.int 0]=(ns++[0]).map V.int:=by rw [u5];rfl
  rw [em];let (H5,O,s5,f5):=jM np (.lst ((ns++[0]).map V.int));rw [O];let t5:=s3.trans (s4.trans s5);let a7:=t5 _ _ hx;let a6:=t5 _ _ hn;let (v,l,mv):=yF (L:=(ns++[0]).map V.int) (n:=ns.length+1) (by rw [g7,j5];rfl) ∎ x2;let (k,_,rfl):=v8.mp mv;let pz:(0:Int)<((ns.map V.int).length:Int)+1:=∎;refine Vl.to (v:=.int (x2 % (((ns.map V.int).length:Int)+1))) 15#0 _ {p,_,_,_,ρ,ρ,cQ.of f5,(by rw [g7];exact l),by show 1<=sizeLine;decide,λa na=>?_};refine {by show 2<=sizeLine;decide,λr nr=>?_};exact q r a _ _ _ (t5.trans ((aI na).trans (aI nr))) aB (aI nr _ _ aB) (.join {(k),ρ})
 let Y:j="back"\/j="tell":=by
  rcases hw with h|h|h|h
  ·exact absurd (.inl h) cj
  ·exact absurd (.inr h) cj
  ·exact .inl h
  ·exact .inr h
 let e:inV (.str j) [.str "cut",.str "join"]=false:=by rcases Y with rfl|rfl <;> decide +kernel
 refine cO e (bV ?_);refine {_,aE (bP (PW.pt (fF (bB (Ca hr.units) (pv 5) (fB aF) (aX _)) (eF jT))) aQ aQ) aQ,?_};refine {_,ρ,i9 _,λb nb=>?_};let (S,O,s4,f4):=jM nb (.lst []);rw [O];let C:=s3.trans s4;let J:∀z ∈ zs,z.1 ∈ cs/\fE S z.2 z.1/\∃t,z.1.o=some t:=λz h=>{(hz z h).1,(hz z h).2.1.same C,(hz z h).2.2};refine {.list (zs.map λz=>Nr z.1),.list [],.lst (cQ.of (C _ _ hl)) (uJ λz h=>(J z h).2.1),.lst (cQ.of f4) .nil,xX λz h=>pk.op z.1 (hz z h).1,cJ [],_,ρ,?_};let a2:=C _ _ hx;let a3:=C _ _ hl;let U:∀tk:Int,Wp X ((bQ fV).drop 8) D [some (.ref T),some (.ref bd),some (.ref lx),some (.int i),o4,some (.ref ll),some (.ref Z),some (.str j),o8,some (.int tk),F,I,B,x] S:=λtk=>
  JG W hr (C _ _ hb) e1 e4 a2 a3 lz J pk Y λr a as y s' h1 Q h3=>q r a _ as y (C.trans s') h1 Q h3
 let (x',y',z',hd):=M.d;let dg:fD S T (.str "given") (some (.int g)):=by have:=fD.k (k:=Sum.inr "given") (C _ _ hd);rw [AB] at this;exact this
 let g0:=M.g0;let a0:Wp X (match (bQ fV).getD 7 (.Pass ⟨0,0,0,0⟩) with | .If _ a _ _=>a|_=>[]) { D with nx:=Wp X ((bQ fV).drop 8) D } [some (.ref T),some (.ref bd),some (.ref lx),some (.int i),o4,some (.ref ll),some (.ref Z),some (.str j),o8,o9,F,I,B,x] S:=by
  show 9;exact bV (U _)
 cases zs with
 | nil=>exact cN Xn a0
 | cons z0 zr=>
  refine cO zO (Tv.to (b:=decide (V.int (x2 % 9)=V.int 0)) 15#0 _ (fT (λ_=>a0) λ_=>?_));let (v,l,mv):=yF (L:=((z0::zr).map (·.2))) (n:=(z0::zr).length) (by rw [g7]) 9#0 x3;let (z,a4,rfl):=v8.mp mv;let (_,(t',lv,ez,h1,Q),(u,eo)):=J z a4;rw [eo] at Q;rw [ez] at l;let pz:(0:Int)<(((z0::zr).map λz:Pc × V=>z.2).length:Int):=by rw [g7];simp
  rw [<- g7 (f:=λz:Pc × V=>z.2) (as:=z0::zr)] at l;cases lv with
  | ref qa=>
   let Q:S qa=some (.tup [.int u.1,.str u.2.1,.int u.2.2]):=Q;show 9;exact bV (U u.1)
  | _=>exact Q.elim
def LE:(["_law_piece"]:List Str).Nodup:=⋯
def LL {xs:List Int} (h:xs.length=8):∃a b c d e f g h:Int,xs=[a,b,c,d,e,f,g,h]:=by
 let (a,t,rfl,i):=fS h;let (b,t,rfl,j):=fS i;let (c,t,rfl,n):=fS j;let (d,t,rfl,m):=fS n;let (e,t,rfl,l):=fS m;let (f,t,rfl,o):=fS l;let (g,k,rfl):=Ga o;exact {(a),b,c,d,e,f,g,k,ρ}
def JH {f:Addr} {cdv:Value} {A:Around} {outer:List Env} {s:Shared} {H:Hp} {E:XK} {D:dH} {S pl bd lx ll ln:Addr} {g mo i sp Z le x0 x1 x2 x3 x4 x5 x6 x7:Int} {o4 o8 o9 a1 a2 a0 a4:Option V} {d:Str} {ns:List Int} {zs:List (Pc × V)} {rs:List V} {cs:List Pc} {l:Hp} (W:3#0) (y:Room 1 (A.deeper (PyProof.Rows.envOfC "_law_asked" (aG fV) s.heap.objs.size f cdv))) (M:oT l S pl g mo rs cs) (hb:l bd=some (.tup [.int sp,.int Z,.int le])) (e1:1<=Z) (e4:Z<=4) (hx:l lx=some (.lst [.int x0,.int x1,.int x2,.int x3,.int x4,.int x5,.int x6,.int x7])) (hl:l ll=some (.lst (zs.map (·.2)))) (lz:zs.length<=1000) (U:∀z ∈ zs,z.1 ∈ cs/\fE l z.2 z.1/\∃t,z.1.o=some t) (hn:l ln=some (.lst 32#0)) (I:ns.length<=1000) (T:JL cs) (Y:∀n ∈ ns,∃c ∈ cs,c.n=n) (hw:d="lend"\/d="cut"\/d="join"\/d="back"\/d="tell") (q:∀r a d O k,aJ l k->k r=some (.tup [.str d,.ref a])->k a=some (.tup O)->Tl k d O->D.rt (.ref r) k):let X:=AL P w K mg base f cdv A outer s H E;Wp X ((bQ fV).drop 4) D [some (.ref S),some (.ref bd),some (.ref lx),some (.int i),o4,some (.ref ll),some (.ref ln),some (.str d),o8,o9,a1,a2,a0,a4] l:=by
 intro X;let nd:=mJ.nd;let hu:=jK y;let GL:=W.G.len;let sl:sizeLine=16777216:=sizeLine_eq;by_cases w1:d="lend"
 ·subst w1;apply Kf;symm;exact lM;let (v,x,J):=yF (L:=[.str "a",.str "ab",.str "b",.str "zz",.str "abcdefgh"]) (n:=5) rfl 8#0 x2;refine eC {_,bY (aA aR (aA (bY (aA aR (aA aR aF))) aF)),Vl.to (v:=.str "lend") 15#0 _ (gX (vs:=[.str "a",.str "ab",.str "b",.str "zz",.str "abcdefgh"]) 15#0 (by show 5<=1000;decide) (λk u=>?_) x λH3 j=>Vl.to (v:=.int i) 15#0 _ {by show 2<=sizeLine;decide,λa na=>{by show 2<=sizeLine;decide,λr p=>?_}})}
  ·have:=u _ _ hx;symm
  refine q r a _ _ _ (j.trans ((aI na).trans (aI p))) aB (aI p _ _ aB) (.lend ?_);simp only [i3,List.not_mem_nil,or_false] at J;rcases J with rfl|rfl|rfl|rfl|rfl <;> exact {_,i,ρ,FW ⋯ ⋯,⋯}
 apply Ki;symm;exact fZ w1;let B:d="cut"\/d="join"\/d="back"\/d="tell":=by
  rcases hw with h|h
  ·exact absurd h w1
  ·exact h
 refine {_,aE (bP (PW.pt (fW jT (eY (bB (iW y.units) (pv 6) (fB aF) (aX _))))) aQ aQ) aQ,?_};by_cases wc:d="cut";rotate_left
 ·exact Tv.to (b:=decide (V.str d=V.str "cut")) 15#0 _ (cO (fZ wc) (bV (AJ W y M hb e1 e4 hx hl lz U hn I T B q)))
 subst wc;refine Tv.to (b:=decide (V.str "cut"=V.str "cut")) 15#0 _ (cN lM {_,ρ,i9 _,λb nb=>?_});let (H3,hh,j,f3):=jM nb (.lst []);rw [hh];let F:=j _ _ hn;let C:=j _ _ hx;refine {gN ns,gN [],fR F,fR (ns:=[]) f3,cJ _,cJ _,_,ρ,?_};cases ns with
 | nil=>
  rw [kC];exact cS (bV (AJ W y (M.same j) (j _ _ hb) e1 e4 C (j _ _ hl) lz (λz h=>{(U z h).1,(U z h).2.1.same j,(U z h).2.2}) F I T B λr a d O k u=>q r a d O k (j.trans u)))
 | cons Q p=>
  let e:PyData.eqv (gN (Q::p)) (gN [])=false:=zO;rw [e];refine dE ?_;let (v,x,J):=yF (L:=(Q::p).map V.int) (n:=((Q::p).map V.int).length) rfl (by rw [g7];simp) x2;let (n,a3,rfl):=v8.mp J;let pz:(0:Int)<(((Q::p).map V.int).length:Int):=by rw [g7];simp
  show 8;refine cF (n:=4) nd rfl (dO (vs:=[.ref S,.int n]) (yR W) y aN 15#0 ⟨S,pl,g,mo,n,rs,cs,rfl,M.same j,by have:=T.ln;omega,Y n a3,λv c H4 s4 row mc=>?_⟩);let (t',lv,rfl,h1,h2):=row;let lm:=T.lm c mc;let a6:=s4 _ _ C;let a5:(0:Int)<c.h-c.m+3:=∎;exact Ds (vs:=[.int n,.int (c.m+x3 % (c.h-c.m+3)-1)]) 15#0 15#0 (by show 2<=1000;decide) λr a k u h1 h2=>q r a _ _ k (j.trans (s4.trans u)) h1 h2 (.cut {n,_,ρ})
def Pw (W:3#0):jP P w K mg base dI "_law_asked" 2 Uu:=W.d22.of λF=>by
 refine F.ok mJ 11#0 (λcdv A outer s H vs Q E hr h=>?_)
 ·let (md,pl,bd,lx,g,mo,sp,ev,le,rs,cs,xs,rfl,_):=h
  rfl
 intro X D
 let (md,pl,bd,lx,g,mo,sp,ev,le,rs,cs,xs,rfl,M,hb,e1,e4,hx,l8,pk,q):=h
 let (x0,x1,x2,x3,x4,x5,x6,x7,rfl):=LL l8
 let hx:H lx=some (.lst [.int x0,.int x1,.int x2,.int x3,.int x4,.int x5,.int x6,.int x7]):=hx
 let nd:=mJ.nd
 let hu:=jK hr
 let sl:sizeLine=16777216:=sizeLine_eq
 let (x',y',z',hd):=M.d
 let lr:=M.r.length
 let lc:=pk.ln
 let dm:fD H md (.str "moment") (some (.int mo)):=by have:=fD.k (k:=Sum.inr "moment") hd;rw [IJ] at this;exact this
 let dp:∀{H'},aJ H H'->fD H' md (.str "pieces") (some (.ref pl)):=λs'=>by have:=fD.k (k:=Sum.inr "pieces") (s' _ _ hd);rw [AA] at this;exact this
 let (ov,eo,off,rfl):=Zv (x:=x1) (a:=V.int 0) (b:=V.int 1) (c:=V.int 1) (d:=V.int sp) (e:=V.int (sp+1)) (f:=V.int (-1)) (Pr:=λv=>∃k:Int,v=.int k) {0,ρ} {1,ρ} {1,ρ} {_,ρ} {_,ρ} {_,ρ}
 refine Wp.ex (cF (n:=3) nd rfl (wQ (wQ (Vl.ex (v:=.int mo) 15#0 {mo,ρ,gX (vs:=[.int 0,.int 1,.int 1,.int sp,.int (sp+1),.int (-1)]) 15#0 (by show 6<=1000;decide) (λH' s'=>?_) eo λH1 s1=>{off,ρ,_,ρ,Vl.ex (v:=.int (x1 / 6 % 2)) ?_ {_,ρ,?_}}}))))
 ·have:=s' _ _ hx
  symm
 ·have:=s1 _ _ hx
  symm
 let M1:=M.same s1
 let ez:H1 pl=some (.lst ((cs.zip rs).map λz=>z.2)):=by rw [M1.l,F9 (D6 lr)]
 let d1:=dp s1
 refine wZ (n:=5) (NB:=["_law_piece"]) (js:=[]) (cl:=[]) nd rfl 39#0 rfl (Vl.ex (v:=.ref pl) 15#0 {_,pl,cs.zip rs,λz=>z.2,λz=>z.2,λz=>z.1.o.isSome,ρ,ez,by rw [A1];omega,λz hz G' sg C s H' fp pn=>?_,λz hz _ G' sg C s H' fp pn=>?_,λacc G' sg hAc=>?_})
 ·let (t',lv,e,h1,h2):=cH M1.r z hz
  let hn:(!decide (lv=V.non))=z.1.o.isSome:=by rw [h2.non];cases z.1.o <;> rfl
  let h1:=sg _ _ h1
  rw [e]
  apply Tv.is;symm;exact hn
 ·symm
 let t2:=s1.trans sg
 let M2:=M1.same sg
 let ez2:=sg _ _ ez
 let d2:=dp t2
 refine cF (n:=6) nd rfl {_,bD hZ 33#0 W.G.sorted kF (aA aR aF),Cv (NB:=["_law_piece"]) (js:=[]) (cl:=[]) (zs:=cs.zip rs) (val:=λz:Pc × V=>z.2) (out:=λz=>V.int z.1.n) 39#0 rfl 15#0 ez2 (by rw [A1];omega) (λz hz G2 sg2 C s H' fp pn=>?_) λacc2 G2 sg2 hA2=>?_}
 ·let (t',lv,e,h1,h2):=cH M2.r z hz
  let h1:=sg2 _ _ h1
  rw [e]
  symm
 let en:(cs.zip rs).map (λz=>V.int z.1.n)=(cs.map Pc.n).map V.int:=by
  let h1:(cs.zip rs).map (·.1)=cs:=List.map_fst_zip ∎
  conv=>rhs;rw [<- h1]
  rw [C2,C2];rfl
 rw [en] at hA2;refine {acc2,cs.map Pc.n,ρ,cQ.of hA2,by rw [g7];omega,λl ns nl pm pw=>?_};let (H3,hh,s3,f3):=jM nl (.lst 32#0);rw [hh];let t3:=t2.trans (sg2.trans s3);let (v,ev',mv):=yF (L:=[.str "lend",.str "tell",.str "tell",.str "tell",.str "lend",.str "back",.str "cut",.str "join",.str "tell",.str "lend"]) (n:=10) rfl 8#0 x0;obtain⟨way,rfl,hw⟩:∃way:Str,v=.str way/\(way="lend"\/way="cut"\/way="join"\/way="back"\/way="tell"):=by
  simp only [i3,List.not_mem_nil,or_false] at mv;rcases mv with rfl|rfl|rfl|rfl|rfl|rfl|rfl|rfl|rfl|rfl <;> exact {_,ρ,⋯}
 refine cF (n:=7) nd rfl (gX (vs:=[.str "lend",.str "tell",.str "tell",.str "tell",.str "lend",.str "back",.str "cut",.str "join",.str "tell",.str "lend"]) 15#0 (by show 10<=1000;decide) (λH' s'=>?_) ev' λH4 s4=>?_)
 ·have:=s' _ _ (t3 _ _ hx);symm
 let t4:=t3.trans s4;refine JH W hr (M.same t4) (t4 _ _ hb) e1 e4 (t4 _ _ hx) (s4 _ _ (s3 _ _ (sg2 _ _ hAc))) (u8 (D5 _ _) (by rw [A1];omega)) (λz hz=>?_) (s4 _ _ f3) (by rw [pm.length_eq,g7];omega) pk (λn hn=>?_) hw λr a way as H' s'=>q r a way as H' (t4.trans s')
 ·let (h1,h2):=v3.mp hz;refine {(E4 h1).1,(cH M.r z h1).same t4,?_};cases e:z.1.o with
  | none=>rw [e] at h2;cases h2
  | some t=>exact {(t),ρ}
 ·let (c,hc,e):=v8.mp (pm.mem_iff.mp hn);exact {(c),hc,e}
end
end
end Ls
namespace L2
open PySem PySem.Spec PyProof.Rows PySem.W
def bN.exS {ι:Type} {P:Program} {w:World} {K:Frag} {mg:Str->Option Value} {base:Heap} {CX:pE} {k:Nat} {f:Addr} {e:FuncData} {ps:List Str} {sp:ι->Sp} (F:∀i,bN P w K mg base CX k f e ps (sp i)):bN P w K mg base CX k f e ps (λb H Q E=>∃i,sp i b H Q E):=
 {λb H Q E ⟨i,q⟩=>(F i).len b H Q E q,λA a s H d h b Q E m j l g ⟨i,hs⟩=>(F i).run A a s H d h b Q E m j l g hs}
end L2
namespace Ls
open PySem L2 PySem.W
section
variable {a:Lm.Ps} {M:Pm} {i t j:Nat} {f g:Pc->Int} {H:Hp} {s:S8} {e:Pc}
def dZ (ds:Lm.Ps):List Int:=ds.flatMap λq=>eE q.1 (q.2-q.1).toNat
def zB {b:Lm.Ps}:dZ (a++b)=dZ a++dZ b:=R8
def iO {b:Lm.Ps} {x:Int}:x ∈ dZ b↔Lm.mem b x:=by
 unfold dZ Lm.mem;rw [List.mem_flatMap];constructor
 ·rintro⟨q,a,h⟩;have:=dJ.mp h;exact {q,a,∎,∎}
 ·rintro⟨q,a,d,e⟩;exact {q,a,dJ.mpr {d,∎}}
def Dx (m:Int) (n:Nat):(eE m n).Pairwise (·<·):=List.Pairwise.map _ (λa b (z:a<b)=>∎) List.pairwise_lt_range
theorem pV:∀{a:Lm.Ps},Lm.Wk a->(dZ a).Pairwise (·<·)
 | [],_=>J5
 | q::a,w=>by
  let e:dZ (q::a)=eE q.1 (q.2-q.1).toNat++dZ a:=by unfold dZ;rw [List.flatMap_cons]
  rw [e,C7]
  refine {Dx _ _,pV w.2.2,λx d y f=>?_}
  let g:=dJ.mp d
  let (r,b,h,i):=iO.mp f
  have:=w.2.1 r b
  have:=w.1
  omega
def gM {l:List Int} (h:l.Pairwise (·<·)):l.Nodup:=h.imp λz e=>by subst e;exact absurd z (Int.lt_irrefl _)
def BT (N:Cn):Sp:=λvs H Q E=>∃vf,Ea N.CB N.CS (λvs H Q _=>Lk vf N.CS vs H Q E0) vs H Q E
def rP {P:Program} {w:World} {K:Frag} {mg:Str->Option Value} {base:Heap} {N:Cn} {c:Nat->Addr} (W:3#0):eA P w K mg base dI N.CB "all_results" 8 (BT N):=W.d52.of λF=>bN.exS λa=>Wm F (sp':=Lk a N.CS) (DQ a W) W
def pO {lo hi:Int}:Bp lo (hi-lo).toNat=(eE lo (hi-lo).toNat).map V.int:=by unfold Bp eE;rw [C2];rfl
structure AK (M:Pm) (a:Lm.Ps):Prop where
 wk:Lm.Wk a
 ln:a.length<=4
 mm:∀x,Lm.mem M.ws x↔Lm.mem a x
def AK.wid (w:AK M a) (g:Wg M.ws) {q:Int × Int} (d:q ∈ a):q.2-q.1<=1000/\-(2 ^ 61)<=q.1/\q.2<=2 ^ 61:=by
 let e:=Lm.Wk.lt w.wk q d;let b:∀x,q.1<=x->x<q.2->Lm.mem M.ws x:=λx f h=>(w.mm x).mpr {(q),d,f,h};let l:=g.sz (eE q.1 (q.2-q.1).toNat) (lR _ _) λx i=>by
  have:=dJ.mp i;exact b x ∎ ∎
 have:(eE q.1 (q.2-q.1).toNat).length=(q.2-q.1).toNat:=by unfold eE;rw [g7,A4]
 let k:=g.bd q.1 (b _ (j8 _) e);let j:=g.bd (q.2-1) (b _ ∎ ∎);omega
def AK.all (w:AK M a) (g:Wg M.ws):(dZ a).length<128:=g.sz _ (gM (pV w.wk)) λx b=>(w.mm x).mpr (iO.mp b)
inductive Js (vs:List V) (H:Hp) (Q:VK) (E0_:XK):Prop|mk (wk:Addr) (a:Lm.Ps) (_:vs=[.ref wk]) (_:cE H wk a) (_:a.length<=10) (_:∀q ∈ a,q.2-q.1<=1000/\-(2 ^ 61)<=q.1/\q.2<=2 ^ 61/\q.1<q.2) (_:(dZ a).length<900) (_:∀(r:Addr) (H':Hp),aJ H H'->H r=none->H' r=some (.lst ((dZ a).map V.int))->Q (.ref r) H')
def Lc:Sp:=Js
def uT {b:Int × Int} (d:a[i]?=some b):dZ (a.take (i+1))=dZ (a.take i)++eE b.1 (b.2-b.1).toNat:=by
 rw [A5,d,zB];unfold dZ;show _++List.flatMap _ [b]=_;rw [List.flatMap_singleton]
def Ge (a:Lm.Ps) (i:Nat):(dZ (a.take i)).length<=(dZ a).length:=by
 have:dZ a=dZ (a.take i)++dZ (a.drop i):=by rw [<- zB,z9]
 rw [this,j5];omega
def uF {H':Hp} (s:aJ H H') {p:Addr} (n:H' p=none):H p=none:=by
 cases e:H p with
 | none=>rfl
 | some o=>rw [s _ _ e] at n;cases n
def fQ (m:Int) (n:Nat):(eE m n).length=n:=by unfold eE;rw [g7,A4]
section
variable {P:Program} {w:World} {K:Frag} {mg:Str->Option Value} {base:Heap} {N:Cn} {c:Nat->Addr}
def xM:aL ["_law_work_here","_law_found","_law_low","_law_high"] ["_law_work_here"] (aG Ey):=2#0
def Ih (W:3#0):jP P w K mg base dI "_law_places" 6 Lc:=W.d24.of λF=>by
 refine F.ok xM 11#0 (λa0 A v s H vs Q E hr h=>?_)
 ·let (z,a,rfl,_):=h
  rfl
 intro X D
 let (z,a,rfl,Z,la,hq,lk,q):=h
 have j:=xM.nd
 have hu:=jK hr
 have sl:sizeLine=16777216:=sizeLine_eq
 refine Wp.ex (gY (n:=1) j rfl iT (i9 _) λl S o t f4=>?_)
 have u:=Z.same t
 let (xs,L,C):=id u
 have lx:=C.length
 refine Dt z5 (fH (n:=2) rfl (aY (aP (i:=2) j rfl 29#0) (aY (aP (i:=3) j rfl 29#0) dR))) 15#0 L (λi σ d=>∃(l:Addr) (o2 o3:Option V),σ=[some (.ref z),some (.ref l),o2,o3]/\aJ S d/\H l=none/\d l=some (.lst ((dZ (a.take i)).map V.int))) {l,_,_,ρ,aJ.refl _,o,f4} (λi σ d _ h=>?_) (λi x σ d D' m h T=>?_) (λσ d h=>?_)
 ·let (l,_,_,rfl,e,_):=h
  exact e _ _ L
 ·let (l,_,_,rfl,e,_,k):=h
  let (f,g,b,rfl,hb):=aM C m
  let (wd,w1,w2,ql):=hq _ (i5 g)
  have I:=uT g
  have Y:=Ge a (i+1)
  rw [I,j5,fQ] at Y
  refine {b,_,ρ,bX.of (e _ _ hb),ρ,_,_,ρ,_,_,ρ,ρ,?_}
  refine cF (n:=1) j rfl {_,bU iX (pv 1) (bS (jD rfl) 33#0 W.G.list sQ (aA (bS nP 33#0 W.G.range K3 (aA (pv 2) (aA (pv 3) aF))) aF)),?_}
  refine {_,ρ,_,ρ,_,ρ,_,_,ρ,λr U=>?_}
  let (H5,y,B,f5):=jM U (.rng f.1 f.2)
  rw [y]
  refine {r,_,_,ρ,f5,{ ∎,∎,∎,∎},∎,λl5 n5=>?_}
  rw [pO]
  let (H6,y,J,f6):=jM n5 (.lst ((eE f.1 (f.2-f.1).toNat).map V.int))
  rw [y]
  refine {l,l5,_,_,ρ,ρ,J _ _ (B _ _ k),f6,by rw [g7,g7,fQ];omega,λp O=>bV (T.nx _ _ ?_)}
  have M:=e.trans (B.trans J)
  exact {p,_,_,ρ,M.trans (aI O),uF (t.trans M) O,by rw [aB,I,u5]}
 let (l,_,_,rfl,e,o,k):=h
 rw [v6 ∎] at k
 exact Dr 15#0 (q l d (t.trans e) o k)
inductive Sq (N:Cn) (vs:List V) (H:Hp) (Q:VK) (E0_:XK):Prop|mk (M:Pm) (A:Ad) (s:S8) (t:Nat) (_:vs=[.ref A.b]) (_:Go N M t H A s) (_:∀(r:Addr) (ks:List Int) (H':Hp),aJ H H'->H r=none->H' r=some (.lst (ks.map V.int))->ks.Pairwise (·<·)->(∀x,x ∈ ks↔x ∈ s.ns)->Q (.ref r) H')
def Uj (N:Cn):Sp:=Sq N
def Ej:aL ["_law_book","_law_found","_law_low","_law_numbers"] ["_law_book"] (aG Mt):=2#0
def Oz (W:3#0):jP P w K mg base dI "_law_results_of" 9 (Uj N):=W.d25.of λF=>by
 refine F.ok Ej 11#0 (λa0 A S s H vs Q E hr h=>?_)
 ·let (M,A,s,t,rfl,_):=h
  rfl
 intro X D
 let (M,e,f,t,rfl,g,q):=h
 let z:=Ej.nd
 let sl:sizeLine=16777216:=sizeLine_eq
 refine Wp.ex (gY (n:=1) z rfl iT (i9 _) λj H0 I T f0=>?_)
 let m:=g.same T
 let (dx,J):=m.bv.bk.ob
 refine {_,aE (eG z5 rfl (fA (bG (pv 0) W.B.cl (rP W) hr aN)) (fH (n:=2) rfl (aY (aP (i:=2) z rfl 29#0) (aY (aP (i:=3) z rfl 29#0) dR))) aQ) aQ,?_}
 refine {_,ρ,e.b,dx,_,ρ,J,ρ,f.vf,e.b,e.pw,e.sh,e.d,e.pw',e.d',M.sp,M.ev,M.le,f.nn,f.nt,f.mo,M.ws,f.kv,ρ,m.bv.bk.ob,m.bv.st,e.sh,e.pw',e.d',M.ws,f.kv,f.ns,ρ,m.bv.st,m.iv.hd,λr C xs H1 L nr l it sh mm ll=>?_}
 let so:=pV (Lm.Sh.wk sh)
 let mk:∀x,x ∈ dZ C↔x ∈ f.ns:=λx=>iO.trans (mm x)
 let pe:=(List.perm_ext_iff_of_nodup (gM so) g.iv.hd.nd).mpr mk
 let ll:=pe.length_eq
 let l9:=g.iv.hd.len
 let lx:=it.length
 refine {r,ρ,{_,cQ.of l},nJ (xs:=xs) (λi σ G=>∃j u v,σ=[some (.ref e.b),some (.ref j),u,v]/\H j=none/\G j=some (.lst ((dZ (C.take i)).map V.int))/\aJ H1 G) {_,_,_,ρ,I,L _ _ f0,aJ.refl _} (λi σ G _ h=>?_) (λi x σ G hx h=>?_) (λσ G h=>?_)}
 ·let (_,u,v,rfl,_,_,k):=h
  exact cQ.of (k _ _ l)
 ·let (j,u,v,rfl,_,o,k):=h
  let (a,O,b,c,rfl,hb,y):=aM it hx
  let lt:=Lm.Sh.lt sh a (i5 O)
  let k1:=uT O
  let le:=Ge C (i+1)
  rw [k1,j5,fQ] at le
  let bd:∀x,a.1<=x->x<a.2->-(2 ^ 60)<=x/\x<2 ^ 60:=λx h1 h2=>by
   let (c,y,z1,z2):=(g.iv.nx x).mp ((mm x).mp {a,i5 O,h1,h2})
   exact g.wg.bd x ((g.iv.cv x).mpr ⟨c,y,z1,by have:=(g.iv.lm c y).2.1;omega⟩)
  let b1:=bd a.1 (j8 _) lt
  let b2:=bd (a.2-1) ∎ ∎
  let hl:(row f.vf a.1 (a.2-a.1).toNat).length=(a.2-a.1).toNat:=by unfold row;rw [g7,g7,A4]
  refine {b,_,ρ,bX.of (k _ _ hb),ρ,_,_,ρ,_,_,ρ,ρ,?_}
  refine cF (n:=1) z rfl {_,bU iX (pv 1) (bS (jD rfl) 33#0 W.G.list sQ (aA (bS nP 33#0 W.G.range K3 (aA (pv 2) (aA (bU eI (pv 2) (bD cC 33#0 W.G.len PySem.boot_len (aA (pv 3) aF))) aF))) aF)),?_}
  refine {_,ρ,_,ρ,_,ρ,_,ρ,c,_,ρ,.inr (bX.of (k _ _ y)),_,_,ρ,ρ,_,_,ρ,λr nr=>?_}
  rw [hl,show a.1+(((a.2-a.1).toNat:Nat):Int)=a.2 by omega] at *
  let (H5,U,Z,f5):=jM nr (.rng a.1 a.2)
  rw [U]
  refine {r,_,_,ρ,f5,{ ∎,∎,∎,∎},∎,λl5 n5=>?_}
  rw [pO]
  let (H6,U,s6,f6):=jM n5 (.lst ((eE a.1 (a.2-a.1).toNat).map V.int))
  rw [U]
  refine {j,l5,_,_,ρ,ρ,s6 _ _ (Z _ _ o),f6,by rw [g7,g7,fQ];omega,λp Y=>bV ?_}
  let t6:=k.trans (Z.trans s6)
  exact {p,_,_,ρ,uF (T.trans (L.trans t6)) Y,by rw [aB,k1,u5],t6.trans (aI Y)}
 let (j,_,_,rfl,I,o,k):=h
 rw [v6 ∎] at o
 exact Dr 15#0 (q j (dZ C) G (T.trans (L.trans k)) I o so mk)
def eQ (f g:Pc->Int) (cs:List Pc):List Int:=cs.flatMap λc=>eE (f c) (g c-f c).toNat
def gL {cs:List Pc} {x:Int}:x ∈ eQ f g cs↔∃c ∈ cs,f c<=x/\x<g c:=by
 unfold eQ;rw [List.mem_flatMap];constructor
 ·rintro⟨c,a,h⟩;have:=dJ.mp h;exact {c,a,∎,∎}
 ·rintro⟨c,a,b,d⟩;exact {c,a,dJ.mpr {b,∎}}
def wG {cs:List Pc} (h:cs.Pairwise λc e=>c.h<=e.l) (b:∀c ∈ cs,c.l<=f c/\g c<=c.h):(eQ f g cs).Pairwise (·<·):=by
 induction cs with
 | nil=>exact J5
 | cons c cs ih=>
  let e:eQ f g (c::cs)=eE (f c) (g c-f c).toNat++eQ f g cs:=by unfold eQ;rw [List.flatMap_cons]
  let (i,j):=u7.mp h;rw [e,C7];refine {Dx _ _,ih j λd a=>b d (g6 _ a),λx k y m=>?_};let p:=dJ.mp k;let (d,a,o,n):=gL.mp m;have:=i d a;have:=(b c (i4 ..)).2;have:=(b d (g6 _ a)).1;omega
def uL {cs:List Pc} {c:Pc} (h:cs[i]?=some c):eQ f g (cs.take (i+1))=eQ f g (cs.take i)++eE (f c) (g c-f c).toNat:=by
 rw [A5,h];unfold eQ;rw [R8];show _++List.flatMap _ [c]=_;rw [List.flatMap_singleton]
def Fh (cs:List Pc) (i:Nat):(eQ f g (cs.take i)).length<=(eQ f g cs).length:=by
 have:eQ f g cs=eQ f g (cs.take i)++eQ f g (cs.drop i):=by unfold eQ;rw [<- R8,z9]
 rw [this,j5];omega
def Iv.row {g:Lm.Ps} {sp:Int} (h:Iv g sp t s) {cs:List Pc} (p:cs.Perm s.cs) (o:cs.Pairwise λx y=>x.l<=y.l):cs.Pairwise λc e=>c.h<=e.l:=by
 let a:=(h.perm p.symm).ap;let d:∀c ∈ cs,c.l<=c.m/\c.m<=c.h/\c.l<c.h:=λc b=>h.lm c (p.mem_iff.mp b);refine(List.Pairwise.and a o).imp_of_mem λ{c e} b f z=>?_;have:=d c b;have:=d e f;rcases z.1 with q|q
 ·exact q
 ·have:=z.2;omega
def Go.pl_len {N:Cn} {A:Ad} (g:Go N M t H A s) {f k:Pc->Int} {cs:List Pc} (p:cs.Perm s.cs) (o:cs.Pairwise λc e=>c.h<=e.l) (b:∀c ∈ cs,c.l<=f c/\k c<=c.h):(eQ f k cs).length<128:=
 g.wg.sz _ (gM (wG o b)) λx d=>by
  let (c,a,j,i):=gL.mp d
  have:=b c a
  exact(g.iv.cv x).mpr {c,p.mem_iff.mp a,∎,∎}
def Go.pc_bd {N:Cn} {A:Ad} (g:Go N M t H A s) {c:Pc} (a:c ∈ s.cs):-(2 ^ 60)<=c.l/\c.h<=2 ^ 60:=by
 let b:=g.iv.lm c a;let e:=g.wg.bd c.l ((g.iv.cv c.l).mpr {c,a,j8 _,b.2.2});let d:=g.wg.bd (c.h-1) ((g.iv.cv (c.h-1)).mpr {c,a,∎,∎});omega
inductive Te (N:Cn) (vs:List V) (H:Hp) (Q:VK) (E0_:XK):Prop|mk (M:Pm) (A:Ad) (s:S8) (t:Nat) (_:vs=[.ref A.b]) (_:Go N M t H A s) (_:t<60) (_:∀(r ra rb:Addr) (cs:List Pc) (H':Hp),dC N.T2 H H'->lY H' N.T2 yL mX->cs.Perm s.cs->(cs.Pairwise λc e=>c.h<=e.l)->H' r=some (.tup [.ref ra,.ref rb])->H' ra=some (.lst ((eQ Pc.l Pc.m cs).map V.int))->H' rb=some (.lst ((eQ Pc.m Pc.h cs).map V.int))->Q (.ref r) H')
def Us (N:Cn):Sp:=Te N
def IS {p:Bool} {A B K:Prop} (k:K) (a:p=true->K->A) (b:K->B):if p=true then A else B:=by
 cases p with
 | true=>exact dE (a rfl k)
 | false=>exact cS (b k)
def Es:aL ["_law_book","_law_ahead","_law_behind","_law_number","_law_low","_law_high","_law_mark","_law_lending"] ["_law_book"] (aG Nl):=2#0
def Pn (W:3#0):jP P w K mg base dI "_law_done_places" 6 (Us N):=W.d23.of λF=>by
 refine F.ok Es 11#0 (λa3 A a0 s H vs Q E hr h=>?_)
 ·let (M,A,s,t,rfl,_):=h
  rfl
 intro X D
 let (M,I,s8,t,rfl,g,lt,q):=h
 have C:=Es.nd
 have hu:=jK hr
 have sl:sizeLine=16777216:=sizeLine_eq
 refine Wp.ex (gY (n:=1) C rfl iT (i9 _) λv H0 _ s0 f0=>?_)
 refine gY (n:=2) C rfl iT (i9 _) λj H1 _ s1 f1=>?_
 have g1:=g.same (s0.trans s1)
 let (dx,a1):=g1.bv.bk.ob
 have ct:=g.iv.ct
 refine {_,aE (eG z5 rfl (fA (bG (pv 0) W.B.cl (gF W) hr aN)) (fH (n:=5) rfl (aY (aP (i:=3) C rfl 29#0) (aY (aP (i:=4) C rfl 29#0) (aY (aP (i:=5) C rfl 29#0) (aY (aP (i:=6) C rfl 29#0) (aY (aP (i:=7) C rfl 29#0) dR)))))) aQ) aQ,?_}
 refine {_,ρ,I.b,dx,_,ρ,a1,ρ,I.b,I.pw,I.sh,I.d,M.sp,M.ev,M.le,s8.nn,s8.nt,s8.mo,I.ps,s8.cs,ρ,g1.bv.bk,∎,g1.bv.t2,λr H2 rs S k2 _ a2 e2 J so pr=>?_}
 have nA:v≠N.T2:=λz=>by
  let (_,T,_):=g1.bv.t2
  rw [<- z,s1 _ _ f0] at T
  cases T
 have nB:j≠N.T2:=λz=>by
  let (_,T,_):=g1.bv.t2
  rw [<- z,f1] at T
  cases T
 have row:=g.iv.row J so
 have lA:=g.pl_len (f:=Pc.l) (k:=Pc.m) J row λc O=>by have:=g.iv.lm c (J.mem_iff.mp O);omega
 have lB:=g.pl_len (f:=Pc.m) (k:=Pc.h) J row λc O=>by have:=g.iv.lm c (J.mem_iff.mp O);omega
 have lx:=pr.length
 refine {r,ρ,{_,cQ.of e2},nJ (xs:=rs) (λi σ G=>∃v j o3 o4 o5 o6 o7,σ=[some (.ref I.b),some (.ref v),some (.ref j),o3,o4,o5,o6,o7]/\G v=some (.lst ((eQ Pc.l Pc.m (S.take i)).map V.int))/\G j=some (.lst ((eQ Pc.m Pc.h (S.take i)).map V.int))/\aJ H2 G) {v,j,_,_,_,_,_,ρ,k2 _ _ nA (s1 _ _ f0),k2 _ _ nB f1,aJ.refl _} (λi σ G _ h=>?_) (λi x σ G hx h=>?_) (λσ G h=>?_)}
 ·let (_,_,_,_,_,_,_,rfl,_,_,L):=h
  exact cQ.of (L _ _ e2)
 ·let (v,j,_,_,_,_,_,rfl,ha,hb,L):=h
  let (a,O,tt,lv,rfl,ht,le):=aM pr hx
  have mc:=J.mem_iff.mp (i5 O)
  let (b1,b2):=g.pc_bd mc
  let (m1,m2,m3):=g.iv.lm a mc
  have ka:=uL (f:=Pc.l) (g:=Pc.m) O
  have kb:=uL (f:=Pc.m) (g:=Pc.h) O
  have ea:=Fh (f:=Pc.l) (g:=Pc.m) S (i+1)
  have eb:=Fh (f:=Pc.m) (g:=Pc.h) S (i+1)
  rw [ka,j5,fQ] at ea
  rw [kb,j5,fQ] at eb
  refine {tt,_,ρ,bX.of (L _ _ ht),ρ,_,_,ρ,_,_,ρ,_,_,ρ,_,_,ρ,_,_,ρ,ρ,?_}
  refine {_,aE (bP (PW.pt (fF (cL (gG jJ jJ (pv 4) (pv 6) (pv 5))) (fF (bB Ot (pv 4) (pv 5) (aX _)) (eF (PW.pt (fW (bB mY (pv 7) eH (aX _)) (eY (bB eT (pv 6) (pv 5) (aX _))))))))) cX aZ) aQ,?_}
  refine {_,ρ,_,ρ,_,_,ρ,ρ,_,ρ,cN (decide_eq_true m1) {_,ρ,_,_,ρ,ρ,_,ρ,?_}}
  rw [decide_eq_true m2]
  refine cS {_,ρ,_,ρ,_,_,ρ,ρ,_,ρ,?_}
  rw [decide_eq_false (Int.not_le.mpr m3)]
  refine cS {_,ρ,ρ,_,ρ,?_}
  rw [le.non]
  refine IS ?_ (λe k=>{_,ρ,_,ρ,ρ,_,ρ,?_}) (λk=>cS k)
  rotate_left
  ·have:decide (V.int a.m=V.int a.h)=false:=decide_eq_false λz=>by
    cases q:a.o with
    | none=>rw [q] at e;cases e
    | some u=>
     have:=(g.iv.op a mc u q).2.2.1
     have z:=V.int.inj z
     omega
   rw [this]
   exact cS k
  show Wp _ _ _ _ _
  refine cF (n:=1) C rfl {_,bU iX (pv 1) (bS (jD rfl) 33#0 W.G.list sQ (aA (bS nP 33#0 W.G.range K3 (aA (pv 4) (aA (pv 6) aF))) aF)),?_}
  refine {_,ρ,_,ρ,_,ρ,_,_,ρ,λr Z=>?_}
  let (H5,y,s5,f5):=jM Z (.rng a.l a.m)
  rw [y]
  refine {r,_,_,ρ,f5,{ ∎,∎,∎,∎},∎,λl5 n5=>?_}
  rw [pO]
  let (H6,y,s6,f6):=jM n5 (.lst ((eE a.l (a.m-a.l).toNat).map V.int))
  rw [y]
  refine {v,l5,_,_,ρ,ρ,s6 _ _ (s5 _ _ ha),f6,by rw [g7,g7,fQ];omega,λp np=>?_}
  let (H7,y,s7,f7):=jM np (.lst ((eQ Pc.l Pc.m (S.take i)).map V.int++(eE a.l (a.m-a.l).toNat).map V.int))
  rw [y]
  rw [<- u5,<- ka] at f7
  have t7:=s5.trans (s6.trans s7)
  refine cF (n:=2) C rfl {_,bU iX (pv 2) (bS (jD rfl) 33#0 W.G.list sQ (aA (bS nP 33#0 W.G.range K3 (aA (pv 6) (aA (pv 5) aF))) aF)),?_}
  refine {_,ρ,_,ρ,_,ρ,_,_,ρ,λr Z=>?_}
  let (H8,y,U,f8):=jM Z (.rng a.m a.h)
  rw [y]
  refine {r,_,_,ρ,f8,{ ∎,∎,∎,∎},∎,λl9 n9=>?_}
  rw [pO]
  let (H9,y,s9,f9):=jM n9 (.lst ((eE a.m (a.h-a.m).toNat).map V.int))
  rw [y]
  have t9:=t7.trans (U.trans s9)
  refine {j,l9,_,_,ρ,ρ,t9 _ _ hb,f9,by rw [g7,g7,fQ];omega,λp' Y=>bV ?_}
  exact {p,p',_,_,_,_,_,ρ,(U.trans (s9.trans (aI Y))) _ _ f7,by rw [aB,kb,u5],L.trans (t9.trans (aI Y))}
 let (v,j,_,_,_,_,_,rfl,ha,hb,L):=h
 rw [v6 ∎] at ha hb
 refine eC {_,bY (aA (pv 1) (aA (pv 2) aF)),{_,ρ,_,ρ,by show 2<=sizeLine;omega,λr Z=>?_}}
 let (H3,y,s3,f3):=jM Z (.tup [.ref v,.ref j])
 show Q (.ref r) (upd G r (.tup [.ref v,.ref j]))
 rw [y]
 exact q r v j S H3 ((k2.pre (s0.trans s1)).same (L.trans s3)) (a2.same (L.trans s3)) J row f3 (s3 _ _ ha) (s3 _ _ hb)
structure EW (s s2:S8):Prop where
 nn:s2.nn=s.nn
 nt:s2.nt=s.nt
 mo:s2.mo=s.mo
 cs:s2.cs=s.cs
 vf:∀x ∈ s.ns,s2.vf x=s.vf x
section
variable {ws:Lm.Ps} {sp:Int} {t:Nat} {s:S8} {M:Pm}
def Iv.one {c:Pc} (h:46#0) (b:s.cs[i]?=some c) (a:s.cs[j]?=some e) (q:c.l=e.l):i=j/\c=e:=by
 have:=h.oneLow b a q;subst this;exact {ρ,Option.some.inj (b.symm.trans a)}
def Iv.best {S:Pc->Bool} {c:Pc} (h:46#0) (l:s.cs[i]?=some c) (g:s.cs[j]?=some e) (a:nU S s.cs c) (b:nU S s.cs e):i=j/\c=e:=by
 refine h.one l g ?_;let f:=a.2.2 e b.1 b.2.1;let d:=b.2.2 c a.1 a.2.1;unfold lH Pc.k at f d;dsimp only at f d;omega
def Iv.ch {k:Nat} {c:Pc} {i:Int} (h:46#0) (f:s.cs[k]?=some c) (d:s.cs[j]?=some e) (a:Zb s.cs i c) (b:Zb s.cs i e):k=j/\c=e:=by
 rcases a with a|⟨g,a⟩ <;> rcases b with b|⟨l,b⟩
 ·exact h.best f d a b
 ·exact absurd a.2.1 (by rw [l c a.1];exact Bool.noConfusion)
 ·exact absurd b.2.1 (by rw [g e b.1];exact Bool.noConfusion)
 ·exact h.best f d a b
def Fv {cs:List Pc} {i:Int} {c:Pc} (b:∀c ∈ cs,c.free=false) (h2:∀c ∈ cs,c.late i=false) (a:Zb cs i c):False:=by
 rcases a with a|⟨_,a⟩
 ·exact absurd a.2.1 (by rw [b c a.1];exact Bool.noConfusion)
 ·exact absurd a.2.1 (by rw [h2 c a.1];exact Bool.noConfusion)
def Sc.det (h:46#0) {d:Dd} {o o':To} {g f:S8} (a:Sc M s d o g) (b:Sc M s d o' f):o'=o/\f=g:=by
 cases a with
 | lendN a1 a2=>
  cases b with
  | lendN _ _=>exact {(rfl),ρ}
  | lendP _ _ b2=>exact(Fv a2.1 a2.2.1 b2).elim
  | lendC _ _ _ _ b4 b5 _=>have:=a2.2.2 _ b4;omega
 | lendP a1 a2 a3=>
  cases b with
  | lendN _ b2=>exact(Fv b2.1 b2.2.1 a3).elim
  | lendP _ b2 b3=>
   let (rfl,rfl):=h.ch a2 b2 a3 b3;exact {(rfl),ρ}
  | lendC _ b1 b2 _ _ _ _=>exact(Fv b1 b2 a3).elim
 | lendC a1 a2 a3 a4 a5 a6 a7=>
  cases b with
  | lendN _ b2=>have:=b2.2.2 _ a5;omega
  | lendP _ _ b3=>exact(Fv a2 a3 b3).elim
  | lendC _ _ _ b4 b5 _ b7=>
   let (rfl,rfl):=h.best a4 b4 a5 b5;subst a7 b7;exact {(rfl),ρ}
 | tell a1 a2 a3 a4 a5 a6 a7 a8=>
  cases b with
  | tell _ b2 b3 _ _ _ _ b8=>
   have:=h.oneTk a2 b2 a3 b3;subst this;cases Option.some.inj (a2.symm.trans b2);subst a8 b8;exact {(rfl),ρ}
 | back a1 a2 a3=>
  cases b with
  | back _ b2 b3=>
   have:=h.oneTk a2 b2 a3 b3;subst this;cases Option.some.inj (a2.symm.trans b2);exact {(rfl),ρ}
 | @cut pl k c a1 a2 a3 a4=>
  generalize hn:c.n=n at b;cases b with
  | cut b1 _ _ _=>
   have:=yN h.nm a1 b1 hn;subst this;cases Option.some.inj (a1.symm.trans b1);exact {(rfl),ρ}
 | @join k j c e a1 a2 a3 a4=>
  generalize hn:c.n=n at b;cases b with
  | join b1 b2 b3 _=>
   have:=yN h.nm a1 b1 hn;subst this;cases Option.some.inj (a1.symm.trans b1);let (rfl,rfl):=h.one a2 b2 (a3.trans b3.symm);exact {(rfl),ρ}
def Sc.twin (h:46#0) {s2:S8} (tw:EW s s2) {d:Dd} {o:To} {s1:S8} (a:Sc M s d o s1):∃s3,Sc M s2 d o s3/\EW s1 s3:=by
 let (nn,nt,mo,cs,kv,ns,vf):=s2;let (e1,e2,e3,e4,hv):=tw;dsimp only at e1 e2 e3 e4 hv;subst e1 e2 e3 e4;cases a with
 | lendN a1 a2=>exact {_,.lendN a1 a2,ρ,ρ,ρ,ρ,hv}
 | lendP a1 a2 a3=>exact {_,.lendP a1 a2 a3,ρ,ρ,ρ,ρ,hv}
 | lendC a1 a2 a3 a4 a5 a6 a7=>exact {_,.lendC a1 a2 a3 a4 a5 a6 a7,ρ,ρ,ρ,ρ,hv}
 | tell a1 a2 a3 a4 a5 a6 a7 a8=>
  refine {_,.tell a1 a2 a3 a4 a5 a6 (λj n e l=>?_) a8,ρ,ρ,ρ,ρ,λx hx=>?_}
  ·rw [a7 j n e l];exact(hv _ ((h.nx _).mpr {_,i5 a2,∎,l})).symm
  ·show AG vf _ _ x=AG s.vf _ _ x;unfold AG;split
   ·rfl
   ·rename_i z;rcases j6.mp hx with y|y
    ·exact hv x y
    ·have:=dJ.mp y;exact absurd {(this.1),this.2} z
 | back a1 a2 a3=>exact {_,.back a1 a2 a3,ρ,ρ,ρ,ρ,hv}
 | cut a1 a2 a3 a4=>exact {_,.cut a1 a2 a3 a4,ρ,ρ,ρ,ρ,hv}
 | join a1 a2 a3 a4=>exact {_,.join a1 a2 a3 a4,ρ,ρ,ρ,ρ,hv}
end
structure Kc (A B:Ad):Prop where
 b:A.b≠B.b
 d1:A.d≠B.d
 d2:A.d≠B.d'
 d3:A.d'≠B.d
 d4:A.d'≠B.d'
 ps:∀r ∈ A.ps,r ∉ B.ps
theorem Kc.symm {A B:Ad} (h:Kc A B):Kc B A:={h.b.symm,h.d1.symm,h.d3.symm,h.d2.symm,h.d4.symm,λr x y=>h.ps r y x}
def yJ {α β:Type} {F G:α->β->Prop} {xs:List α} {c:List β} (p:Paired F xs c) (f:∀a ∈ xs,∀b,F a b->G a b):Paired G xs c:=by
 induction p with
 | nil=>exact .nil
 | cons r _ ih=>exact .cons (f _ (i4 ..) _ r) (ih λa d=>f a (g6 _ d))
section
variable {M:Pm} {t t':Nat} {H H':Hp} {A B:Ad} {s s2:S8}
def Go.pcs {r:Addr} (g:Go N M t H A s) (h:r ∈ A.ps):∃b n l d m a,H r=some (.ins N.CP b (pf n l d m a)):=by
 let (k,f):=l7.mp h;let (c,_,a,(b,e),_):=aM g.bv.bk.pc f;exact {_,_,_,_,_,_,e}
def Go.fo (v:Go N M t H A s) (h:Go N M t' H B s2) (u:Kc A B) (j:Fo N A H H') (W:lY H' N.T1 pH iQ) (P:lY H' N.T2 yL mX):Go N M t' H' B s2:=by
 let (X,D):=v.bv.bk.ob;let G:=v.bv.bk.dc;let g:=v.bv.st.dc;let (_,w,_):=v.bv.t1;let (_,k,_):=v.bv.t2;let f:∀a o,H a=some o->(∀E n l K m F,o≠.ins N.CP E (pf n l K m F))->a ∉ A.ps:=λa o e z y=>by
  let (E,n,l,K,m,F,q):=v.pcs y;rw [e] at q;exact z _ _ _ _ _ _ (Option.some.inj q)
 let J:∀a C,H a=some (.tup C)->H' a=some (.tup C):=λa C e=>j a _ e (aK e D 1#0) (aK e G 1#0) (aK e g 1#0) (f a _ e (by intro _ _ _ _ _ _ z;cases z)) (aK e w 1#0) (aK e k 1#0);let S:∀p I,cE H p I->cE H' p I:=λp I ⟨C,x1,x2⟩=>{C,J _ _ x1,aO (λ_ _ ⟨b,z1,z2⟩=>{b,z1,J _ _ z2}) x2};let ((Q,r),x,L):=h.bv.bk;let ((O,i),U,d):=h.bv.st;refine {{{{Q,?_},?_,?_},{{O,?_},S _ _ U,?_},W,P,h.bv.dd,h.bv.tt},h.iv,h.wg,h.l1,h.e1}
 ·exact j _ _ r u.b.symm (aK r G 1#0) (aK r g 1#0) (f _ _ r (by intro _ _ _ _ _ _ z;injection z with _ _ z;exact absurd (congrArg List.length z.symm) Oc)) (aK r w 1#0) (aK r k 1#0)
 ·exact j _ _ x (aK x D 1#0) u.d1.symm u.d3.symm (f _ _ x (by intro _ _ _ _ _ _ z;cases z)) (aK x w 1#0) (aK x k 1#0)
 ·refine yJ L λp T c ⟨F,⟨E,e⟩,ld⟩=>{F,{E,?_},?_}
  ·exact j _ _ e (aK e D (by intro z;injection z with _ _ z;exact absurd (congrArg List.length z) Oc)) (aK e G 1#0) (aK e g 1#0) (λz=>u.ps p z T) (aK e w 1#0) (aK e k 1#0)
  ·exact jO.move J ld
 ·exact j _ _ i (aK i D (by intro z;injection z with _ _ z;exact absurd (congrArg List.length z) Rc)) (aK i G 1#0) (aK i g 1#0) (f _ _ i (by intro _ _ _ _ _ _ z;injection z with _ _ z;exact absurd (congrArg List.length z) Rb)) (aK i w 1#0) (aK i k 1#0)
 ·exact j _ _ d (aK d D 1#0) u.d2.symm u.d4.symm (f _ _ d (by intro _ _ _ _ _ _ z;cases z)) (aK d w 1#0) (aK d k 1#0)
def Go.two {c:List Addr} (d:Go N M t' H B s2) (a:Kc A B) (g:∀r ∈ c,r ∈ A.ps\/H r=none):Kc { A with ps:=c } B:=
 ⟨a.b,a.d1,a.d2,a.d3,a.d4,λr f y=>by
  rcases g r f with z|z
  ·exact a.ps r z y
  ·let (_,_,_,_,_,_,e):=d.pcs y
   rw [z] at e
   cases e⟩
end
end
end
end Ls
namespace L2
open PySem PySem.Spec PyProof.Rows PySem.W
section
variable {X:Cx} {σ:St} {H:Hp} {D:dH} {r ss:List Stmt} {pos p' p1 p2:Pos} {e:Expr} {x:Str} {n:Nat}
variable {NB:List Str} {js:List Nat} {scope:Scope} {cl:List (Str × Addr)} {elt:Expr} {Q:VK} {p3:Pos}
def Cw {J:It} {α:Type} {tc:TT} {te:TE} {val out:α->V} {pm:α->Bool} {xs:List α} (Z:xs.length<=4000) (O:∀G i,aJ H G->i<xs.length->J.go i G) (M:∀G,aJ H G->J.stop xs.length G) (S:∀G i x A,aJ H G->i<xs.length->J.yld i G x A->A=G/\∃z,xs[i]?=some z/\x=val z)
  (g:TG) (Y:∀z ∈ xs,∀G,aJ H G->∀R:St->Hp->Prop,(∀h:St,h.drop n=(dG n js σ).drop n->(∀R:Bool->Hp->Prop,(∀q,aJ G q->R (pm z) q)->tc h G R)->(pm z=true->∀w,aJ G w->∀R:VK,(∀q,aJ w q->R (out z) q)->te h w R)->R h G)->g (val z) (dG n js σ) G R)
  (k:∀d G,aJ H G->G d=some (.lst ((xs.filter pm).map out))->Q (.ref d) G) (d:Addr) (E:H d=none):
  ∃W:Nat->Nat->List V->Hp->Prop,(∃m,W 0 m [] (upd H d (.lst [])))/\∀i m f H,W i m f H->H d=some (.lst f) /\
  ((J.stop i H/\Q (.ref d) H)\/(J.go i H/\∀x L,J.yld i H x L->g x (dG n js σ) L λh T=>h.drop n=(dG n js σ).drop n/\tc h T λb I=>
   if b=true then te h I λy B=>B d=some (.lst f)/\f.length<sizeLine/\∃s,s<m/\W (i+1) s (f++[y]) (upd B d (.lst (f++[y])))
   else ∃s,s<m/\W (i+1) s f I)):=by
 let sl:sizeLine=16777216:=sizeLine_eq;refine {λi m f G=>m=xs.length-i/\i<=xs.length/\f=((xs.take i).filter pm).map out/\aJ H G/\G d=some (.lst f),{_,ρ,i9 _,ρ,aI E,aB},?_};rintro i m f G ⟨rfl,hi,rfl,p,v⟩;refine {v,?_};by_cases l:i<xs.length
 ·refine .inr {O G i p l,λx A N=>?_};let (rfl,z,K,rfl):=S _ _ _ _ p l N;let C:xs.take (i+1)=xs.take i++[z]:=by rw [A5,K];rfl
  let lf:(((xs.take i).filter pm).map out).length<=i:=by
   rw [g7];exact u8 (D5 _ _) (by rw [u6];omega)
  refine Y z (i5 K) _ p _ λh e U P=>{e,U _ λw u=>?_};by_cases t:pm z=true
  ·rw [if_pos t];refine P t w u _ λq F=>{F _ _ (u _ _ v),∎,xs.length-(i+1),∎,ρ,l,?_,λb o e=>?_,aB}
   ·rw [C,G9,u5];simp [t]
   ·rw [aC (aD e E)];exact F _ _ (u _ _ (p _ _ e))
  ·rw [if_neg t];refine {xs.length-(i+1),∎,ρ,l,?_,p.trans u,u _ _ v};rw [C,G9,u5];simp [t]
 let e:i=xs.length:=∎;subst e;rw [List.take_length] at v;exact .inl {M _ p,k _ _ p v}
end
section
variable {X:Cx} {σ:St} {H:Hp} {pos p' p1 p2 p3:Pos} {x:Str} {NB:List Str} {js:List Nat} {scope:Scope} {cl:List (Str × Addr)} {elt e c:Expr} {Q:VK} {la:Addr} {α:Type} {val out:α->V} {pm:α->Bool} {zs:List α}
inductive MF (X:Cx) (NB:List Str) (js:List Nat) (scope:Scope) (cl:List (Str × Addr)) (c elt:Expr) (σ:St) (Q:VK) (v:V) (H:Hp):Prop|mk (α:Type) (la:Addr) (zs:List α) (val out:α->V) (pm:α->Bool) (_:v=.ref la) (_:H la=some (.lst (zs.map val))) (_:zs.length<=4000)
  (_:∀z ∈ zs,∀G,aJ H G->∀R:Bool->Hp->Prop,(∀G2,aJ G G2->R (pm z) G2)->∀C s H' fp pn,Tx (X.blkF NB scope cl C s H' fp pn) c ((dG 1 js σ).set 0 (some (val z))) G R) (_:∀z ∈ zs,pm z=true->∀G,aJ H G->∀C s H' fp pn,Vl (X.blkF NB scope cl C s H' fp pn) elt ((dG 1 js σ).set 0 (some (val z))) G (out z))
  (_:∀acc G,aJ H G->G acc=some (.lst ((zs.filter pm).map out))->Q (.ref acc) G)
def He {n:Nat} {y:Str} {J m:Pos} {D:dH} {r:List Stmt} (S:X.N.Nodup) (F:X.N[n]?=some y) (C:pL X NB 1 js scope cl) (hi:NB[0]?=some x) (h:Ex X e σ H (MF X NB js scope cl c elt σ λv d=>Wp X r D (σ.set n (some v)) d))
  (t:vI X.env.scope y:=by first|exact E5 rfl|exact K0 rfl) (hx:∀C s d l f,vI (X.blkF NB scope cl C s d l f).env.scope x:=by exact λ_ _ _ _ _=>E5 rfl) (Y:∀C s d l f,(X.blkF NB scope cl C s d l f).env.scope.names.lookup x=some .local:=by exact λ_ _ _ _ _=>rfl) (Z:X.calm=true:=by rfl)
  (p:swapsWith (.ListComp elt [{.Name x p',e,[c],0}] scope p3) (some (.Name y J)) m.line X.env=pure true:=by rfl) (o:X.fn y=true\/X.env.scope.names.lookup y=some .local:=by first|exact .inl rfl|exact .inr rfl) (w:∀y,foldedSetIterable e X.env y=pure y:=by intro _;rfl):Wp X (.Assign [.Name y J] (.ListComp elt [{.Name x p',e,[c],0}] scope p3) m::r) D σ H:=by
 let (U,c2,c3,c4,c5):=C.all;refine {_,aE (iV S F t U c2 c3 rfl c4 (g:=dF 0) (tc:=Bt X NB scope cl c) (te:=Bx X NB scope cl elt) (fA aR Z) (λC s H l f=>aP c5 hi (hx C s H l f) (.inr (Y C s H l f))) (λC s d l f=>kO λ_ B u E A I h=>jT B u E A I (h C s d l f)) (λC s d l f _ B u E A I h=>aR B u E A I (h C s d l f)) p o w) aQ,h.mono λv H1 q=>?_};let (α,la,zs,val,out,pm,rfl,z,P,W,he,k):=q;refine {la,ρ,{_,cQ.of z},?_};let (f1,T,f3):=kX (K:=X.K) z;exact Cw (Q:=λv d=>Wp X r D (σ.set n (some v)) d) P f1 T (λG i x O s _ y=>f3 G i x O s y) _ (λz M G L R h=>h _ rfl (λR q C s d l f=>W z M G L R q C s d l f) λhp G1 s1 R q C s d l f=>(he z M hp G1 (L.trans s1) C s d l f).to _ (q _ (aJ.refl _))) k
end
section
variable {X:Cx} {σ:St} {H:Hp} {a b c:Expr} {i j k:Int} {pos:Pos}
def Ua (h:Vl X a σ H (.int i)) (g:Vl X b σ H (.int j)) (e:Vl X c σ H (.int k)) (d:lastMarks [.Lt,.Lt] [b,c]=false:=by with_unfolding_all rfl):Tv X (.Compare a [.Lt,.Lt] [b,c] pos) σ H (decide (i<j) && decide (j<k)):={λQ q=>{_,gG gR gR aR aR aR d,h.to _ (g.to _ ⟨_,_,rfl,rfl,_,rfl,by
 by_cases z:i<j
 ·rw [decide_eq_true z] at q ⊢
  exact dE (e.to _ {_,_,ρ,ρ,_,ρ,q})
 ·rw [decide_eq_false z] at q ⊢
  exact cS {_,ρ,q}⟩)}}
end
section
variable {X:Cx}
def Oq:lK X (compareOp .NotIn) (λx y H Q=>∃p f,y=.ref p/\cQ X.K H p f/\kB x=true/\f.all kB=true/\Q (.bl (!inV x f)) H):=by
 intro l s σ H x y v u Q I o m h;let (p,f,rfl,z,A,g,q):=h;cases m;let (d,r,B,C):=I.list z;refine SeqAt.notIn_listAt (Kb x) B.isList (λw t=>rY o A r g w (by simpa using t)) {.bl _,H,I,ρ,?_};rw [show d.toArray.any (Kb x)=d.any (Kb x) by simp,wT r g];exact q
end
def Xe {x:Int} {ks:List Int}:inV (.int x) (ks.map V.int)=decide (x ∈ ks):=by
 unfold inV;rw [List.any_map,E3,List.any_eq_true,decide_eq_true_eq];constructor
 ·rintro⟨y,d,e⟩;have:y=x:=by simpa [Tm] using e
  exact this ▸ d
 ·exact λh=>{x,h,by simp [Tm]}
def Je (ks:List Int):(ks.map V.int).all kB=true:=by
 rw [List.all_map,K1];exact λ_ _=>rfl
end L2
namespace Ls
open PySem L2 PySem.W
section
variable {H H':Hp} {cs:List Pc} {d f d' pl:Addr} {M:Pm} {o:To} {a:List V} {cdv:Value} {A:Around} {outer:List Env} {s:Shared} {E:XK} {K:Frag} {v x y z:V} {Ab B:Ad} {g mo:Int} {o0 o1 o2 o8:Option V} {sb:S8}
inductive Sw (vs:List V) (H:Hp) (Q:VK) (E0_:XK):Prop|mk (la ra lb:Addr) (rs0 rs1:List V) (cs0 cs1:List Pc) (t n m h u:Int) (_:vs=[.ref la,.ref ra,.ref lb]) (_:H la=some (.lst rs0)) (_:Paired (eB H) rs0 cs0) (_:H ra=some (.tup [.int t,.int n,.int m,.int h,.int u])) (_:H lb=some (.lst rs1)) (_:Paired (eB H) rs1 cs1) (_:cs0.length<=1000) (_:cs1.length<=1000) (_:∀c ∈ cs0,∀t,c.o=some t->PyData.strOk t.2.1=true) (_:∀c ∈ cs1,∀t,c.o=some t->PyData.strOk t.2.1=true)
 (_:(∃c,(cs0.filter λc=>decide (c.n=n))=[c]/\c.m=m/\c.h=h)\/(cs0.filter λc=>decide (c.n=n))=[]/\∃c e,(cs0.filter λc=>(decide (c.l<m) && decide (m<c.h)) && decide (c.m<m))=[c]/\(cs1.filter λe=>decide (e.n=c.n))=[e]/\e.h=m/\e.m=c.m/\c.h=h)
 (_:∀H',aJ H H'->Q (.bl true) H')
def Um:Sp:=Sw
def lG (c:Pc):PyData:=.tuple [.int c.n,.int c.l,.int c.h,.int c.m,zA c.o]
def Nu {c:Pc} (h:eB H v c):sW K H v (lG c):=by
 let (t,d,rfl,b,a):=h;exact .tup (bX.of b) (.cons (.int _) (.cons (.int _) (.cons (.int _) (.cons (.int _) (.cons (yB a) .nil)))))
def Bq (p:Paired (eB H) a cs):Ag K H a (cs.map lG):=by
 induction p with
 | nil=>exact .nil
 | cons h _ ih=>exact .cons (Nu h) ih
def iL {l:Addr} (h:H l=some (.lst a)) (p:Paired (eB H) a cs):sW K H (.ref l) (.list (cs.map lG)):=.lst (cQ.of h) (Bq p)
def eX (h:∀c ∈ cs,∀t,c.o=some t->PyData.strOk t.2.1=true):SeqAt.shaped (.list (cs.map lG))=true:=(Gd.lst (n:=2) λd b=>by
 let (c,a,rfl):=v8.mp b
 exact Gd.tup (bM (Gd.int _) (bM (Gd.int _) (bM (Gd.int _) (bM (Gd.int _) (bM (Gg (h c a)) jA)))))).shaped 8#0
def Cu {a b:Int}:decide (V.int a=V.int b)=decide (a=b):=decide_eq_decide.mpr {V.int.inj,congrArg _}
def uI (p:Paired (eB H) a cs) (f:Pc->Bool):Paired (eB H) (((cs.zip a).filter λz=>f z.1).map λz=>z.2) (cs.filter f):=by
 induction p with
 | nil=>exact .nil
 | @cons r c a cs h t ih=>
  rw [T0,F8,F8];by_cases z:f c=true
  ·rw [if_pos z,if_pos z];exact .cons h ih
  ·rw [if_neg z,if_neg z];exact ih
def sK {f:Pc->Bool} {c:Pc} (p:Paired (eB H) a cs) (e:cs.filter f=[c]):∃v,((cs.zip a).filter λz=>f z.1).map (λz=>z.2)=[v]/\eB H v c:=by
 let q:=uI p f;rw [e] at q;generalize ((cs.zip a).filter λz=>f z.1).map (λz=>z.2)=r at q ⊢;cases q with
 | cons h t=>cases t;exact {_,ρ,h}
section
variable {P:Program} {w:World} {K:Frag} {mg:Str->Option Value} {base:Heap} {N:Cn} {c:Nat->Addr}
def El:aL ["_law_before","_law_told","_law_after","_law_token","_law_number","_law_mark","_law_high","_law_until","_law_same","_law_cut_one","_law_left"] ["_law_before","_law_told","_law_after"] (aG Nb):=2#0
def Pf (W:3#0):jP P w K mg base dI "_law_lent_right" 6 Um:=W.d63.of λF=>by
 refine F.ok El 11#0 (λa9 A a1 s H vs Q E hr h=>?_)
 ·let (la,ra,lb,j,G,a,p,t,n,m,h,u,rfl,_):=h
  rfl
 intro X D
 let (la,ra,lb,j,G,a,p,t,n,m,h,u,rfl,ha,J,a3,hb,pb,l0,l1,k0,k1,cd,q):=h
 let y:=El.nd
 let hu:=jK hr
 refine Wp.ex ?_
 refine {_,aE (wF (pv 1) (fH (n:=5) rfl (aY (aP (i:=3) y rfl 29#0) (aY (aP (i:=4) y rfl (K0 rfl)) (aY (aP (i:=5) y rfl (K0 rfl)) (aY (aP (i:=6) y rfl 29#0) (aY (aP (i:=7) y rfl 29#0) dR))))))) aQ,?_}
 refine {_,ρ,ra,_,ρ,bX.of a3,ρ,_,_,ρ,_,_,ρ,_,_,ρ,_,_,ρ,_,_,ρ,ρ,?_}
 let ez:H la=some (.lst ((a.zip j).map λz=>z.2)):=by rw [ha,F9 (by rw [J.length];omega)]
 refine wZ (n:=8) (NB:=["_law_piece","_law_number"]) (js:=[4]) (cl:=[("_law_number",s.heap.objs.size+1)]) y rfl 39#0 rfl (Vl.ex (v:=.ref la) 15#0 {_,la,a.zip j,λz=>z.2,λz=>z.2,λz=>decide (z.1.n=n),ρ,ez,by rw [A1];omega,λz x T f C s S O Y=>?_,λz x _ T f C s S O Y=>?_,λaa G1 s1 I=>?_})
 ·let (t',lv,e,d,h2):=cH J z x
  let d:=f _ _ d
  rw [e]
  apply Tv.is;symm;exact Cu
 ·symm
 let p1:=aO (λ_ _ z=>eB.same s1 z) (uI J λc=>decide (c.n=n))
 refine {_,aE (bP (bB (iW hr.units) (pv 8) (fB aF) (aX _)) aQ aZ) aQ,?_}
 refine {_,ρ,i9 _,λl2 n2=>?_}
 let (G2,hh,s2,f2):=jM n2 (.lst [])
 rw [hh]
 let U:=s1.trans s2
 refine {.list ((a.filter λc=>decide (c.n=n)).map lG),.list [],iL (s2 _ _ I) (aO (λ_ _ z=>eB.same s2 z) p1),.lst (cQ.of f2) .nil,eX λc hc=>k0 c (v3.mp hc).1,cJ [],_,ρ,?_}
 rcases cd with ⟨c,fc,e1,e2⟩|⟨fc,c,e,fd,fe,e1,e2,e3⟩
 ·rw [fc]
  refine cN (by rfl) ?_
  let (v,ev,t',lv,rfl,d,_):=sK J fc
  rw [ev] at I
  let d:=U _ _ d
  let hA:=s2 _ _ I
  refine eC {_,eR (dA eT aR (pv 5) (aX _)) (fX (dA eT aR (pv 6) (aX _))),Vl.to (v:=.int c.m) 15#0 _ {_,ρ,ρ,_,ρ,cN (Cu.trans (decide_eq_true e1)) (Vl.to (v:=.int c.h) 15#0 _ {_,ρ,ρ,?_})}}
  show Q (.bl (decide (V.int c.h=V.int h))) G2
  rw [Cu,decide_eq_true e2]
  exact q _ U
 ·rw [fc]
  refine cO 33#0 ?_
  show Wp _ _ _ _ _
  let a0:=U _ _ ez
  refine cF (n:=9) y rfl (jC (NB:=["_law_piece","_law_mark"]) (js:=[5]) (cl:=[("_law_mark",s.heap.objs.size+2)]) (zs:=a.zip j) (val:=λz=>z.2) (out:=λz=>z.2) (pm:=λz=>(decide (z.1.l<m) && decide (m<z.1.h)) && decide (z.1.m<m)) 39#0 rfl 15#0 a0 (by rw [A1];omega) (λz x T f C s S O Y=>?_) (λz x _ T f C s S O Y=>?_) λa6 G3 s3 g=>?_)
  ·let (t',lv,e,d,h2):=cH J z x
   let d:=f _ _ (U _ _ d)
   rw [e]
   refine mF (Ua 15#0 15#0 15#0) λ_=>?_
   symm
  ·symm
  let t3:=U.trans s3
  let mc:c ∈ a:=(v3.mp (by rw [fd];exact v9.mpr rfl)).1
  let (v,ev,hv):=sK J fd
  rw [ev] at g
  let hv:=hv.same t3
  let (t',lv,rfl,d,_):=id hv
  let a2:G3 lb=some (.lst ((p.zip G).map λz=>z.2)):=by rw [t3 _ _ hb,F9 (by rw [pb.length];omega)]
  refine He (n:=10) (NB:=["_law_piece","_law_cut_one"]) (js:=[9]) (cl:=[("_law_cut_one",s.heap.objs.size+3)]) y rfl 39#0 rfl (Vl.ex (v:=.ref lb) 15#0 {_,lb,p.zip G,λz=>z.2,λz=>z.2,λz=>decide (z.1.n=c.n),ρ,a2,by rw [A1];omega,λz x T f R k C s S O Y=>?_,λz x _ T f C s S O Y=>?_,λa7 G4 s4 Z=>?_})
  ·refine {_,PW.pt (fW (bB (r:=IB K) (iW hr.units) (pv 1) (fB aF) (aX _)) (eY jT)),?_}
   refine {_,ρ,i9 _,λl5 n5=>?_}
   let (G5,hh,L,f5):=jM n5 (.lst [])
   rw [hh]
   refine {.list ([c].map lG),.list [],iL (L _ _ (f _ _ g)) (.cons (hv.same (f.trans L)) .nil),.lst (cQ.of f5) .nil,eX λc' B=>?_,cJ [],_,ρ,cN 33#0 ?_}
   ·rw [v9.mp B]
    exact k0 c mc
   ·let (_,_,e,g1,_):=cH pb z x
    let g1:=L _ _ (f _ _ (t3 _ _ g1))
    let hA:=L _ _ (f _ _ g)
    let d:=L _ _ (f _ _ d)
    refine Tv.to (b:=decide (z.1.n=c.n)) ?_ _ (k G5 L)
    rw [e]
    apply Tv.is;symm;exact Cu
  ·symm
  let t4:=t3.trans s4
  let (v4,a4,o):=sK pb fe
  rw [a4] at Z
  let o:=o.same t4
  let (_,_,rfl,g1,_):=id o
  let me:e ∈ p:=(v3.mp (by rw [fe];exact v9.mpr rfl)).1
  refine eC {_,eR (dA (iW hr.units) (pv 10) (fB aF) (aX _)) (eR (dA eT aR (pv 5) (aX _)) (eR (dA eT aR aR (aX _)) (fX (dA eT aR (pv 6) (aX _))))),?_}
  refine {_,ρ,i9 _,λl6 n6=>?_}
  let (G6,hh,M,f6):=jM n6 (.lst [])
  rw [hh]
  let a5:=M _ _ Z
  let a8:=M _ _ (s4 _ _ g)
  let g1:=M _ _ g1
  let d:=M _ _ (s4 _ _ d)
  refine {.list ([e].map lG),.list [],iL a5 (.cons (o.same M) .nil),.lst (cQ.of f6) .nil,eX λc' B=>?_,cJ [],_,ρ,cN 33#0 ?_}
  ·rw [v9.mp B]
   exact k1 e me
  refine Vl.to (v:=.int e.h) 15#0 _ {_,ρ,ρ,_,ρ,cN (Cu.trans (decide_eq_true e1)) (Vl.to (v:=.int e.m) 15#0 _ (Vl.to (v:=.int c.m) 15#0 _ {ρ,_,ρ,cN (Cu.trans (decide_eq_true e2)) (Vl.to (v:=.int c.h) 15#0 _ {_,ρ,ρ,?_})}))}
  show Q (.bl (decide (V.int c.h=V.int h))) G6
  rw [Cu,decide_eq_true e3]
  exact q _ (t4.trans M)
def oZ {l:List Pc} {c:Pc} {f:Pc->Bool} (g:l.Nodup) (d:c ∈ l) (h:∀e ∈ l,f e=true↔e=c):l.filter f=[c]:=by
 induction l with
 | nil=>cases d
 | cons a l ih=>
  let (i,j):=A0.mp g;rw [F8];by_cases z:a=c
  ·subst z;rw [if_pos ((h a (i4 ..)).mpr rfl),Q3.mpr λe b q=>i ((h e (g6 _ b)).mp q ▸ b)]
  ·rw [if_neg λq=>z ((h a (i4 ..)).mp q)];exact ih j ((i3.mp d).resolve_left λq=>z q.symm) λe b=>h e (g6 _ b)
section
variable {ws:Lm.Ps} {sp:Int} {t t':Nat} {s s':S8} {M:Pm}
def Iv.ndp (h:46#0) (p:cs.Perm s.cs):cs.Nodup:=(p.nodup_iff).mpr ((List.pairwise_map.mp h.nm).imp λz e=>z (congrArg _ e))
def Iv.apart {i j:Nat} {x y:Pc} (h:46#0) (f:s.cs[i]?=some x) (e:s.cs[j]?=some y) (n:i≠j):x.h<=y.l\/y.h<=x.l:=by
 let (a,c):=e8.mp f;let (b,d):=e8.mp e;let p:=y4.mp h.ap;rcases Nat.lt_or_gt_of_ne n with z|z
 ·have:=p i j a b z;rw [c,d] at this;exact this
 ·have:=p j i b a z;rw [c,d] at this;exact this.symm
def Iv.oneN (h:46#0) (p:cs.Perm s.cs) {c e:Pc} (f:c ∈ cs) (d:e ∈ cs) (q:e.n=c.n):e=c:=by
 let (i,a):=l7.mp (p.mem_iff.mp f);let (j,b):=l7.mp (p.mem_iff.mp d);have:=yN h.nm a b q.symm;subst this;exact Option.some.inj (b.symm.trans a)
def Iv.filN (h:46#0) (p:cs.Perm s.cs) {c:Pc} (a:c ∈ cs):(cs.filter λe=>decide (e.n=c.n))=[c]:=
 oZ (h.ndp p) a λe b=>{λq=>h.oneN p a b (of_decide_eq_true q),λq=>by rw [q];exact decide_eq_true rfl}
def Sc.lentR (h:46#0) (h':Iv ws sp t' s') (v:1<=M.le) {x:Str} {i tk n m f u:Int} (a:Sc M s (.lend x i) (.lent tk n m f u) s') {cs0 cs1:List Pc} (b:cs0.Perm s.cs) (o:cs1.Perm s'.cs):
  (∃c,(cs0.filter λc=>decide (c.n=n))=[c]/\c.m=m/\c.h=f)\/(cs0.filter λc=>decide (c.n=n))=[]/\∃c e,(cs0.filter λc=>(decide (c.l<m) && decide (m<c.h)) && decide (c.m<m))=[c]/\(cs1.filter λe=>decide (e.n=c.n))=[e]/\e.h=m/\e.m=c.m/\c.h=f:=by
 cases a with
 | lendP a1 a2 a3=>exact .inl {_,h.filN b (b.mem_iff.mpr (i5 a2)),ρ,ρ}
 | @lendC _ _ pl k c a1 a2 a3 a4 a5 a6 a7=>
  let g:=i5 a4;let r:=h.lm c g;refine .inr {Q3.mpr λe d z=>?_,c,{ c with h:=m },oZ (h.ndp b) (b.mem_iff.mpr g) λe d=>{λz=>?_,λz=>?_},?_,ρ,ρ,ρ}
  ·have:=(h.nl e (b.mem_iff.mp d)).2;have:=of_decide_eq_true z;omega
  ·simp only [A8,decide_eq_true_eq] at z;let (j,p):=l7.mp (b.mem_iff.mp d);by_cases q:j=k
   ·subst q;exact Option.some.inj (p.symm.trans a4)
   ·have:=h.apart p a4 q;omega
  ·subst z;simp only [A8,decide_eq_true_eq];omega
  ·exact h'.filN o (c:={ c with h:=m }) (o.mem_iff.mpr (j6.mpr (.inl (l7.mpr {k,by rw [E6 (e8.mp a4).1]}))))
end
def oY:Stmt->List Stmt
 | .For _ _ b _ _=>b
 | _=>[]
def Bv.but {v C x B y:Addr} {sp u t:Int} {r:Lm.Ps} {A:Ad} {s:S8} {i:Addr} {kv:List (bJ × V)} (h:Bv v C x B y sp u t r H A s) (e:H i=some (.dK kv)) (O:A.d≠i) (Q:A.d'≠i) (k:∀a o,H a=some o->a≠i->H' a=some o):Bv v C x B y sp u t r H' A s:=by
 let ((D,L),J,p):=h.bk;let ((G,M),(F,j,l),m):=h.st;let g:∀a o,H a=some o->(∀kv,o≠.dK kv)->H' a=some o:=λa o z n=>k a o z (aK z e (n _));refine {{{D,g _ _ L (by intro _ z;cases z)},k _ _ J O,aO (λ_ _ ⟨I,⟨dy,ha⟩,hl⟩=>{I,{dy,g _ _ ha (by intro _ z;cases z)},hl.move λq S z=>g _ _ z (by intro _ z;cases z)}) p},{{G,g _ _ M (by intro _ z;cases z)},{F,g _ _ j (by intro _ z;cases z),aO (λ_ _ ⟨b,z1,z2⟩=>{b,z1,g _ _ z2 (by intro _ z;cases z)}) l},k _ _ m Q},jR h.t1 (λE z=>g _ _ z (by intro _ z;cases z)) (λa f z=>g _ _ z (by intro _ z;cases z)),jR h.t2 (λE z=>g _ _ z (by intro _ z;cases z)) (λa f z=>g _ _ z (by intro _ z;cases z)),h.dd,h.tt}
theorem Go.but {N:Cn} {M:Pm} {t:Nat} {H H':Hp} {A:Ad} {s:S8} {b:Addr} {kv:List (bJ × V)} (g:Go N M t H A s) (e:H b=some (.dK kv)) (f:A.d≠b) (h:A.d'≠b) (k:∀a o,H a=some o->a≠b->H' a=some o):Go N M t H' A s:={g.bv.but e f h k,g.iv,g.wg,g.l1,g.e1}
def fE.but {b:Addr} {kv:List (bJ × V)} (e:H b=some (.dK kv)) (k:∀a o,H a=some o->a≠b->H' a=some o) {v:V} {c:Pc} (h:fE H v c):fE H' v c:=by
 let (t,i,f,d,g):=h;exact {t,i,f,k _ _ d (aK d e 1#0),g.move λq j z=>k _ _ z (aK z e 1#0)}
def eU.but (k:∀a o,H a=some o->a≠d->H' a=some o) {kv:List (bJ × V)} (e:H d=some (.dK kv)):eU d d H H':=λa o z p=>k a o z (by
 rcases p with p|⟨_,p,_⟩
 ·exact λy=>by subst y;rw [e] at z;cases z;cases p
 ·exact p)
def Vk (K:Frag):List V->Hp->VK->Prop:=λxs H Q=>∃p ys,xs=[.ref p]/\(cQ K H p ys\/bX K H p ys)/\∀l,H l=none->Q (.ref l) (upd H l (.lst ys))
abbrev DV:List Str:=["_law_script","_law_work_here","_law_bounds_here","_law_book","_law_twin","_law_model_here","_law_places_here","_law_done","_law_cell","_law_way","_law_asked_here","_law_before","_law_told","_law_word","_law_sides"]
def Eo:aL DV ["_law_script"] (aG xT):=2#0
abbrev Ke (P:Program) (w:World) (K:Frag) (mg:Str->Option Value) (base:Heap) (f:Addr) (cdv:Value) (A:Around) (outer:List Env) (s:Shared) (H:Hp) (E:XK):Cx:=(hX dI P w K mg base DV "law" (aG xT) f cdv A outer s H E).nox
def eJ {u:HO}:∀a o,H a=some o->a≠d->(upd H d u) a=some o:=λa o e n=>by rw [aC n];exact e
def AR (W:3#0) (U:26#0):∃t,pB (hX dI P w K mg base DV "law" (aG xT) f cdv A outer s H E).nox ((oY 52#0).drop 11) t /\
   ∀(D:dH) (M:Pm) (Ab:Ad) (l:S8) (O:Nat) (a pl:Addr) (g mo:Int) (x y z:V) (u:List V) (cs:List Pc) (G J S I v F C Q j m i n h:Option V) (B:Ad) (L:S8) (tb:Nat) (e:Hp),Go N M O e Ab l->Go N M tb e B L->B.d≠a->B.d'≠a->e a=some 47#0->e pl=some (.lst u)->Paired (fE e) u cs->0<=g->Ab.d≠a->Ab.d'≠a ->
    (∀(mo:Int) (H':Hp),eU a a e H'->Go N M O H' Ab l->Go N M tb H' B L->oT H' a pl g mo u cs->D.nx [G,J,S,some (.ref Ab.b),I,some (.ref a),v,F,C,Q,j,m,i,n,h] H') ->
    t D [G,J,S,some (.ref Ab.b),I,some (.ref a),v,F,C,Q,j,m,i,n,h] e:=by
 let hu:=jK U;refine {_,aH (mO hu (pv 5) bE (bG (pv 3) W.B.cl (DM W) U aN) rfl),?_};intro D M Ab l O a pl g mo x y z u cs G J S I v F C Q j m i n h B L tb e Y Z m1 m2 o X r g0 n1 n2 q;let (T,p):=Y.bv.bk.ob;refine {_,ρ,Ab.b,T,_,ρ,p,ρ,Ab.b,Ab.pw,Ab.sh,Ab.d,M.sp,M.ev,M.le,l.nn,l.nt,l.mo,ρ,{(T),p},_,ρ,a,_,ρ,tQ.k (k:=Sum.inr "moment") o (by show 6<sizeLine;decide),?_};rw [Qd];exact q l.mo _ (eU.but eJ o) (Y.but o n1 n2 eJ) (Z.but o m1 m2 eJ) {{_,_,_,aB},eJ _ _ X (aK X o 1#0),aO (λ_ _ z=>fE.but o eJ z) r,g0}
def AT {D:dH} {s2:S8} {tt:Nat} {t:Addr} {I:V} {Q:Str} {o4 o6 o7 U Y T Z:Option V} {tb:Nat} {H2:Hp} (W:3#0) (hr:26#0) (O:Go N M tt H2 Ab s2) (gb:Go N M tb H2 B sb) (m1:B.d≠t) (m2:B.d'≠t) (lt:tt<=50) (hm:H2 t=some 47#0) (g0:0<=g) (n1:Ab.d≠t) (n2:Ab.d'≠t) (q:∀(pl:Addr) (g mo:Int) (rs:List V) (cs:List Pc) (H':Hp),eU t t H2 H'->Go N M tt H' Ab s2->Go N M tb H' B sb->oT H' t pl g mo rs cs->cs.Perm s2.cs->D.nx [o0,o1,o2,some (.ref Ab.b),o4,some (.ref t),o6,o7,o8,some (.str Q),U,Y,some I,T,Z] H'):let X:=Ke P w K mg base f cdv A outer s H E;Wp X ((oY 52#0).drop 9) D [o0,o1,o2,some (.ref Ab.b),o4,some (.ref t),o6,o7,o8,some (.str Q),U,Y,some I,T,Z] H2:=by
 intro X;let hu:=jK hr;refine {_,aE (mO hu (pv 5) bE (eK (NB:=["_law_piece"]) (n:=1) (js:=[]) (g:=dF 0) (cl:=[]) rfl ⋯ ⋯ rfl (pL.all 39#0).2.2.2.1 (fA (bG (pv 3) W.B.cl (gF W) hr aN)) (λ_ s H fp pn=>aP (i:=0) LE rfl 29#0 (.inr rfl)) (λ_ s H fp pn=>eZ) (λ_ s H fp pn=>bS (r:=Vk K) wR 33#0 W.G.list sQ (aA (pv 0) aF))) rfl) aQ,?_};let sl:sizeLine=16777216:=sizeLine_eq;let (dx,ai):=O.bv.bk.ob;let lc:=O.iv.ct;refine {_,ρ,Ab.b,dx,_,ρ,ai,ρ,Ab.b,Ab.pw,Ab.sh,Ab.d,M.sp,M.ev,M.le,s2.nn,s2.nt,s2.mo,Ab.ps,s2.cs,ρ,O.bv.bk,∎,O.bv.t2,λr9 H3 rs j k9 _ a7 e9 a6 _ a4=>?_};let (b3,aj):=O.bv.keepT k9 (.inr {(rfl),a7});let (a8,_):=gb.bv.keepT k9 (.inr {(rfl),a7});let (q2,a1,_):=O.bv.t2;let ae:H3 t=some 47#0:=(k9.toT a1).at hm;let k3:eU t t H2 H3:=λa o e k=>(k9.toT a1).at e λps z=>by subst z;rcases k with k|⟨⟨_,k⟩,_⟩ <;> cases k
 let lr:=a4.length;let lp:=a6.length_eq;let ez:H3 r9=some (.lst ((j.zip rs).map λz=>z.2)):=by rw [e9,F9 ∎]
 let lz:(j.zip rs).length=j.length:=by rw [A1];omega
 refine {r9,ρ,{_,cQ.of ez},λp na=>?_};refine {λi m ys J=>m=j.length-i/\i<=j.length/\aJ H3 J/\J p=some (.lst ys)/\Paired (λv c=>v≠.ref p/\fE J v c) ys (j.take i),{_,ρ,i9 _,aI na,aB,.nil},?_};rintro i m ys J ⟨rfl,hi,L,hA,u⟩;refine {hA,?_};by_cases a9:i<j.length
 ·refine .inr {{_,_,cQ.of (L _ _ ez),e7 (by rw [g7];omega)},λyv a2 hy=>?_};let (rfl,hy):=hy;let ey:=hy _ (cQ.of (L _ _ ez));let iz:(j.zip rs)[i]?=some (j.zip rs)[i]:=e7 ∎;rw [j1,iz] at ey;cases ey;let (t',lv,e,h1,h2):=cH a4 _ (i5 iz);let ec:j[i]?=some (j.zip rs)[i].1:=(A2.mp iz).1;generalize (j.zip rs)[i]=zz at e h1 h2 ec ⊢;let (zc,zv):=zz;cases (show zv=.ref t' from e);refine {ρ,gB (dE {_,ρ,t',_,ρ,.inr (bX.of (L _ _ h1)),λl nl=>?_})};let (G5,hh,s5,e5):=jM nl (.lst [.int zc.n,.int zc.l,.int zc.h,.int zc.m,lv]);rw [hh];let F:=s5 _ _ hA;let ly:ys.length=i:=by
   have:=u.length;rw [u6] at this;omega
  refine {F,∎,_,?_,ρ,a9,?_,aB,?_}
  ·omega
  ·intro b' o z;rw [aC (aD z na)];exact s5 _ _ (L _ _ z)
  ·let mv:∀q' zs,a2 q'=some (.tup zs)->(upd G5 p (.lst (ys++[.ref l]))) q'=some (.tup zs):=λq' zs h=>by rw [aC (aK (s5 _ _ h) F 1#0)];exact s5 _ _ h
   let kp:∀v c,v≠.ref p->fE a2 v c->fE (upd G5 p (.lst (ys++[.ref l]))) v c:=λv c nv ⟨t',lv',h1,h2,h3⟩=>by
    let nt:t'≠p:=λz=>nv (by rw [h1,z]);exact {t',lv',h1,by rw [aC nt];exact s5 _ _ h2,h3.move mv}
   rw [A5,ec];let a5:l≠p:=(aD hA nl).symm;refine dB (aO (λv c z=>{z.1,kp v c z.1 z.2}) u) {λz=>a5 (V.ref.inj z),l,lv,ρ,by rw [aC a5,e5],?_};exact(h2.move λ_ _ z=>L _ _ z).move mv
 ·refine .inl {{_,cQ.of (L _ _ ez),by rw [g7];omega},?_};rw [v6 ∎] at u;let u:=aO (λv c z=>z.2) u;let C:=L _ _ ae;let g4:Go N M tt J Ab s2:=Go.same L {(b3),O.iv,O.wg,O.l1,O.e1};let ad:Go N M tb J B sb:=Go.same L {(a8),gb.iv,gb.wg,gb.l1,gb.e1};refine {_,ρ,t,_,ρ,tQ.k (k:=Sum.inr "pieces") C (by show 6<sizeLine;decide),?_};rw [Qc];let k5:∀a o,J a=some o->a≠t->(upd J t (.dK (wY 49#0 (.int g) x (.int mo) y z))) a=some o:=λa o e n=>by rw [aC n];exact e
  let S:(upd J t (.dK (wY 49#0 (.int g) x (.int mo) y z))) t=some (.dK (wY 49#0 (.int g) x (.int mo) y z)):=aB;generalize upd J t (.dK (wY 49#0 (.int g) x (.int mo) y z))=H5 at k5 S ⊢;let g5:=g4.but C n1 n2 k5;let ag:=ad.but C m1 m2 k5;let a0:=aO (λ_ _ z=>fE.but C k5 z) u;let F:=k5 _ _ hA (aK hA C 1#0);let aa:=k3.trans ((eU.of L).trans (eU.but k5 C));let dg:fD H5 t (.str "given") (some (.int g)):=by have:=fD.k (k:=Sum.inr "given") S;rw [AB] at this;exact this
  refine {_,aE (mO hu (pv 5) bE (bU eI (mS hu (pv 5) bE 19#0) (bS lE 33#0 W.G.int sR (aA (eR (dA eT (pv 9) bE (aX _)) (fX (dA mY (pv 12) eH (aX _)))) aF))) rfl) aQ,?_};refine {_,ρ,t,_,ρ,dg,_,ρ,ρ,_,ρ,?_};let a3:∀g':Int,0<=g'->Wp X ((oY 52#0).drop 11) D [o0,o1,o2,some (.ref Ab.b),o4,some (.ref t),o6,o7,o8,some (.str Q),U,Y,some I,T,Z] (upd H5 t (.dK (wY 49#0 (.int g') x (.int mo) y z))):=λg' h0=>by
   let (tC,pC,hC):=AR (f:=f) (cdv:=cdv) (A:=A) (outer:=outer) (s:=s) (H:=H) (E:=E) W hr;exact {tC,pC,hC D M Ab s2 tt t p g' mo x y z ys j o0 o1 o2 o4 o6 o7 o8 _ U Y _ T Z B sb tb _ (g5.but S n1 n2 eJ) (ag.but S m1 m2 eJ) m1 m2 aB (eJ _ _ F (aK F S 1#0)) (aO (λ_ _ z=>fE.but S eJ z) a0) h0 n1 n2 λah H' af g' ac M'=>q p _ ah ys j H' (aa.trans ((eU.but eJ S).trans af)) g' ac M' a6}
  by_cases hw:Q="lend"
  ·refine cN (by rw [hw];exact lM) {_,ρ,ρ,.inr {_,ρ,_,_,ρ,ρ,_,ρ,t,_,ρ,tQ.k (k:=Sum.inr "given") S (by show 6<sizeLine;decide),?_}};rw [yY];exact a3 _ (by split <;> omega)
  ·refine cO (fZ hw) (.inr {_,ρ,_,_,ρ,ρ,_,ρ,t,_,ρ,tQ.k (k:=Sum.inr "given") S (by show 6<sizeLine;decide),?_});rw [yY];exact a3 _ (by split <;> omega)
def Xm (c:Pc):PyData.eqv (lG c) (lG c)=true:=by
 unfold lG zA;cases c.o <;> simp [PyData.eqv,PyData.eqvAll]
def zP (cs:List Pc):PyData.eqvAll (cs.map lG) (cs.map lG)=true:=by
 induction cs with
 | nil=>simp [PyData.eqvAll]
 | cons c cs ih=>rw [x9,PyData.eqvAll,ih,Xm];rfl
def Rg (cs:List Pc):PyData.eqv (.list (cs.map lG)) (.list (cs.map lG))=true:=by
 rw [PyData.eqv];simp [zP]
def Np {a b:List Pc} (p:a.Perm b) (g:a.Pairwise λc e=>c.h<=e.l) (i:b.Pairwise λc e=>c.h<=e.l) (l:∀c ∈ a,c.l<c.h):a=b:=List.Perm.eq_of_pairwise (λc e f d j k=>by
 have:=l c f
 have:=l e (p.mem_iff.mpr d)
 omega) g i p
theorem eB.move {H H':Hp} {v:V} {c:Pc} (f:∀q a,H q=some (.tup a)->H' q=some (.tup a)) (h:eB H v c):eB H' v c:=by
 let (t,d,e,g,b):=h;exact {t,d,e,f _ _ g,b.move f}
def eU.ofT {T:Addr} {pos:Pos} {f:Str} (k:dC T H H') (t:lY H T pos f):eU d d' H H':=λa o e p=>by
 let (_,b,_):=t
 exact(k.toT b).at e λg z=>by subst z;rcases p with p|⟨⟨_,p⟩,_⟩ <;> cases p
def yG {a b:List Int} (f:a.Pairwise (·<=·)) (d:b.Pairwise (·<·)) (e:a.Nodup) (h:∀x,x ∈ a↔x ∈ b):a=b:=Ll ((List.perm_ext_iff_of_nodup e (gM d)).mpr h) f (IK d)
def AQ {D:dH} {I:S8} {T:Nat} {v ph dl:Addr} {a3:V} {ai:Str} {a:Lm.Ps} {dn:List Int} {ay az an ag:Option V} {H2:Hp} (W:3#0) (hr:26#0)
  (o:Go N M T H2 Ab I) (F:Go N M T H2 B sb) (tn:EW I sb) (m1:B.d≠v) (m2:B.d'≠v) (lt:T<=50) (hm:H2 v=some 47#0) (g0:0<=g) (n1:Ab.d≠v) (n2:Ab.d'≠v) (wo:AK M a) (hp:H2 ph=some (.lst ((dZ a).map V.int))) (hd:H2 dl=some (.lst (dn.map V.int))) (dm:∀x ∈ dn,x ∈ I.ns) (ld:dn.length<128)
  (q:∀(pl b8:Addr) (g mo:Int) (rs:List V) (cs:List Pc) (ac:List Int) (ag:Option V) (H':Hp),eU v v H2 H'->Go N M T H' Ab I->Go N M T H' B sb->oT H' v pl g mo rs cs->cs.Perm I.cs->H' b8=some (.lst (ac.map V.int))->(∀x ∈ ac,x ∈ I.ns)->ac.length<128->D.nx [o0,o1,o2,some (.ref Ab.b),some (.ref B.b),some (.ref v),some (.ref ph),some (.ref b8),o8,some (.str ai),ay,az,some a3,an,ag] H'):
  let X:=Ke P w K mg base f cdv A outer s H E;Wp X ((oY 52#0).drop 5) D [o0,o1,o2,some (.ref Ab.b),some (.ref B.b),some (.ref v),some (.ref ph),some (.ref dl),o8,some (.str ai),ay,az,some a3,an,ag] H2:=by
 intro X;let nd:=Eo.nd;let sl:sizeLine=16777216:=sizeLine_eq;refine cF (n:=14) nd rfl (dO (vs:=[.ref Ab.b]) (Pn W) hr aN 15#0 {M,Ab,I,T,ρ,o,∎,λr ra rb cs H3 k3 ak pm row a0 a8 bo=>?_});let (b3,_):=o.bv.keepT k3 (.inr {(rfl),ak});let (bc,_):=F.bv.keepT k3 (.inr {(rfl),ak});let b1:Go N M T H3 Ab I:={(b3),o.iv,o.wg,o.l1,o.e1};let c4:Go N M T H3 B sb:={(bc),F.iv,F.wg,F.l1,F.e1};let (_,bb,_):=o.bv.t2;let sT:=k3.toT bb;let bl:=sT.at hm;let bw:=sT.at hp;let c0:=sT.at hd;let lA:=o.pl_len (f:=Pc.l) (k:=Pc.m) pm row λc u=>by have:=o.iv.lm c (pm.mem_iff.mp u);omega
 let lB:=o.pl_len (f:=Pc.m) (k:=Pc.h) pm row λc u=>by have:=o.iv.lm c (pm.mem_iff.mp u);omega
 let wA:=wG (f:=Pc.l) (g:=Pc.m) row λc u=>by have:=o.iv.lm c (pm.mem_iff.mp u);omega
 let wB:=wG (f:=Pc.m) (g:=Pc.h) row λc u=>by have:=o.iv.lm c (pm.mem_iff.mp u);omega
 let mA:∀x,x ∈ eQ Pc.l Pc.m cs↔x ∈ I.ns:=λx=>by
  rw [gL,o.iv.nx x];exact {λ⟨c,u,z⟩=>{c,pm.mem_iff.mp u,z},λ⟨c,u,z⟩=>{c,pm.mem_iff.mpr u,z}}
 let mB:∀x,x ∈ eQ Pc.l Pc.m cs++eQ Pc.m Pc.h cs↔x ∈ dZ a:=λx=>by
  rw [j6,gL,gL,iO,<- wo.mm x,o.iv.cv x];constructor
  ·rintro(⟨c,u,z1,z2⟩|⟨c,u,z1,z2⟩)
   ·exact⟨c,pm.mem_iff.mp u,z1,by have:=(o.iv.lm c (pm.mem_iff.mp u)).2.1;omega⟩
   ·exact⟨c,pm.mem_iff.mp u,by have:=(o.iv.lm c (pm.mem_iff.mp u)).1;omega,z2⟩
  ·rintro⟨c,u,z1,z2⟩;by_cases y:x<c.m
   ·exact .inl {c,pm.mem_iff.mpr u,z1,y}
   ·exact .inr {c,pm.mem_iff.mpr u,∎,z2}
 let nB:(eQ Pc.l Pc.m cs++eQ Pc.m Pc.h cs).Nodup:=by
  rw [L8];refine {gM wA,gM wB,λx hx y hy e=>?_};subst e;let (c,u,z1,z2):=gL.mp hx;let (e,he,z3,z4):=gL.mp hy;let mc:=pm.mem_iff.mp u;let me:=pm.mem_iff.mp he;let (i,hi):=l7.mp mc;let (j,hj):=l7.mp me;let l1:=o.iv.lm c mc;let l2:=o.iv.lm e me;by_cases ij:i=j
  ·subst ij;cases Option.some.inj (hi.symm.trans hj);omega
  ·have:=o.iv.apart hi hj ij;omega
 refine {_,aE (bP (PW.pt (fF (bB Bz (pv 14) eH (aX _)) (fF (bB (iW hr.units) (bD hZ 33#0 W.G.sorted kF (aA (bU iX (bZ bT (pv 14) aS 19#0) (bZ bT (pv 14) aS 19#0)) aF)) (pv 6) (aX _)) (eF (bB (iW hr.units) (bD hZ 33#0 W.G.sorted kF (aA (bZ bT (pv 14) aS 19#0) aF)) (aU (Oz W) hr aN (aA (pv 3) aF)) (aX _)))))) cX aZ) aQ,?_};refine {_,ρ,ρ,_,ρ,cO 33#0 ?_};refine {_,ρ,r,_,_,_,ρ,ρ,bX.of a0,bH (j:=0) rfl,_,ρ,r,_,_,_,ρ,ρ,bX.of a0,bH (j:=1) rfl,ra,rb,_,_,ρ,ρ,a8,bo,by rw [g7,g7];omega,λp np=>?_};let (H4,hh,s4,f4):=jM np (.lst ((eQ Pc.l Pc.m cs).map V.int++(eQ Pc.m Pc.h cs).map V.int));rw [hh];rw [<- u5] at f4;refine {p,_,ρ,cQ.of f4,o.wg.sz _ nB λx hx=>(wo.mm x).mpr (iO.mp ((mB x).mp hx)),λl5 ad n5 aw bz=>?_};let (H5,hh,s5,f5):=jM n5 (.lst (ad.map V.int));rw [hh];let e5:ad=dZ a:=yG bz (pV wo.wk) (aw.nodup_iff.mpr nB) λx=>(aw.mem_iff).trans (mB x);let t5:=s4.trans s5;refine {_,ρ,gN ad,gN (dZ a),fR f5,fR (t5 _ _ bw),cJ _,cJ _,_,ρ,?_};rw [e5,kC];refine cS ?_;refine {_,ρ,r,_,_,_,ρ,ρ,bX.of (t5 _ _ a0),bH (j:=0) rfl,ra,_,ρ,cQ.of (t5 _ _ a8),∎,λl6 a9 n6 ah bj=>?_};let (H6,hh,s6,f6):=jM n6 (.lst (a9.map V.int));rw [hh];let t6:=t5.trans s6;refine {_,ρ,M,Ab,I,T,ρ,b1.same t6,λr7 ks H7 s7 cc br c6 bq=>?_};let e6:a9=ks:=yG bj c6 (ah.nodup_iff.mpr (gM wA)) λx=>ah.mem_iff.trans ((mA x).trans (bq x).symm);let t7:=t6.trans s7;refine {gN a9,gN ks,fR (s7 _ _ f6),fR br,cJ _,cJ _,_,ρ,?_};rw [e6,kC];refine cS ?_;show Wp _ _ _ _ _;let b2:=b1.same t7;let c2:=c4.same t7;let a5:=t7 _ _ a0;let a4:=t7 _ _ a8;let c3:=t7 _ _ c0;let ba:=t7 _ _ bl;let (cf,al):=b2.bv.bk.ob;let ct:=o.iv.ct;let cd:=F.iv.ct;refine {_,aE (bP (PW.pt (fF (bB (iW hr.units) aR (fB aF) (aX _)) (eF (bB (iW hr.units) aR aR (aX _))))) cX aZ) aQ,?_};refine jC (NB:=["_law_place","_law_sides"]) (js:=[14]) (cl:=[("_law_sides",s.heap.objs.size+1)]) (zs:=dn) (val:=V.int) (out:=V.int) (pm:=λx=>!decide (x ∈ eQ Pc.l Pc.m cs)) 39#0 rfl 15#0 c3 ∎ (λx hx G' sg C s H' fp pn=>?_) (λx hx _ G' sg C s H' fp pn=>by symm) λci G8 s8 aj=>?_
 ·let h1:=sg _ _ a5;let h2:=sg _ _ a4;rw [<- Xe];exact qV Oq 15#0 15#0 λQ k=>{ra,_,ρ,cQ.of h2,ρ,Je _,k}
 let ef:(dn.filter λx=>!decide (x ∈ eQ Pc.l Pc.m cs))=[]:=Q3.mpr λx hx=>by
  rw [decide_eq_true ((mA x).mpr (dm x hx))];exact Bool.noConfusion
 rw [ef] at aj;refine {i9 _,λl9 n9=>?_};let (H9,hh,s9,f9):=jM n9 (.lst []);rw [hh];let t9:=s8.trans s9;refine {gN [],gN [],fR (ns:=[]) (s9 _ _ aj),fR (ns:=[]) f9,cJ _,cJ _,_,ρ,?_};rw [kC];refine cS ?_;let Y:=b2.same t9;let bp:=c2.same t9;refine fJ 15#0 (t9 _ _ al) W.B.cl (gF W) hr aN {Ab.b,Ab.pw,Ab.sh,Ab.d,M.sp,M.ev,M.le,I.nn,I.nt,I.mo,Ab.ps,I.cs,ρ,Y.bv.bk,∎,Y.bv.t2,λce ae c8 b9 a2 _ L bu J av ar=>?_};let (c7,_):=Y.bv.keepT a2 (.inr {(rfl),L});let (ap,_):=bp.bv.keepT a2 (.inr {(rfl),L});let O:Go N M T ae B sb:={(ap),F.iv,F.wg,F.l1,F.e1};let (ca,aa):=O.bv.bk.ob;refine fJ 15#0 aa W.B.cl (gF W) hr aN {B.b,B.pw,B.sh,B.d,M.sp,M.ev,M.le,sb.nn,sb.nt,sb.mo,B.ps,sb.cs,ρ,O.bv.bk,∎,O.bv.t2,λcg S c9 Z a1 _ a6 bt U am ax=>?_};let (be,_):=Bv.keepT c7 a1 (.inr {(rfl),a6});let (b6,_):=O.bv.keepT a1 (.inr {(rfl),a6});let b5:Go N M T S Ab I:={(be),o.iv,o.wg,o.l1,o.e1};let ao:Go N M T S B sb:={(b6),F.iv,F.wg,F.l1,F.e1};let kq:eU v v ae S:=eU.ofT a1 L;let a7:eU v v H9 S:=(eU.ofT a2 Y.bv.t2).trans kq;let c5:Z=b9:=Np (U.trans (tn.cs ▸ J.symm)) (F.iv.row U am) (o.iv.row J av) λc u=>(F.iv.lm c (U.mem_iff.mp u)).2.2;subst c5;refine {.list (Z.map lG),.list (Z.map lG),iL (kq.lst bu) (aO (λ_ _ h=>h.move λ_ _ e=>kq.tup e) ar),iL bt ax,eX λc u t e=>(o.iv.op c (J.mem_iff.mp u) t e).2.2.2.2,eX λc u t e=>(o.iv.op c (J.mem_iff.mp u) t e).2.2.2.2,_,ρ,?_};rw [Rg];refine cS ?_;show Wp _ _ _ _ _;let b4:eU v v H2 S:=(eU.ofT k3 o.bv.t2).trans ((eU.of (t7.trans t9)).trans a7);let cb:=a7.tup (t9 _ _ a5);let af:=a7.lst (t9 _ _ a4);let aq:S v=_:=(a1.toT (show ae N.T2=_ from L.choose_spec.1)).at ((a2.toT (show H9 N.T2=_ from Y.bv.t2.choose_spec.1)).at (t9 _ _ ba));show 7;exact AT W hr b5 ao m1 m2 lt aq g0 n1 n2 λbg g' bx bd bh c1 b0 bi au bn b7=>q bg ra g' bx bd bh (eQ Pc.l Pc.m cs) _ c1 (b4.trans b0) bi au bn b7 (b0.lst af) (λx hx=>(mA x).mp hx) lA
def AO {D:dH} {v:S8} {T:Nat} {j ph dl:Addr} {k:V} {C:Str} {a:Lm.Ps} {dn:List Int} {S L p:Option V} {Z:Addr} {Q:List V} {cs0:List Pc} {s0:S8} {t0:Nat} {o:Hp} (W:3#0) (hr:26#0)
  (l:Go N M T o Ab v) (I:Go N M T o B sb) (tn:EW v sb) (m1:B.d≠j) (m2:B.d'≠j) (lt:T<=50) (hm:o j=some 47#0) (g0:0<=g) (n1:Ab.d≠j) (n2:Ab.d'≠j) (wo:AK M a) (hp:o ph=some (.lst ((dZ a).map V.int))) (hd:o dl=some (.lst (dn.map V.int))) (dm:∀x ∈ dn,x ∈ v.ns) (ld:dn.length<128) (a6:o Z=some (.lst Q)) (a4:Paired (eB o) Q cs0) (Y:Iv M.ws M.sp t0 s0) (p0:cs0.Perm s0.cs) (c0:cs0.length<=1000) (out:C≠"lend"\/k=.non\/∃(xx:Str) (i tk n m h u:Int) (r:Addr),k=.ref r/\o r=some (.tup [.int tk,.int n,.int m,.int h,.int u])/\Sc M s0 (.lend xx i) (.lent tk n m h u) v)
  (q:∀(pl G:Addr) (g mo:Int) (rs:List V) (cs:List Pc) (F:List Int) (p:Option V) (H':Hp),eU j j o H'->Go N M T H' Ab v->Go N M T H' B sb->oT H' j pl g mo rs cs->cs.Perm v.cs->H' G=some (.lst (F.map V.int))->(∀x ∈ F,x ∈ v.ns)->F.length<128->D.nx [o0,o1,o2,some (.ref Ab.b),some (.ref B.b),some (.ref j),some (.ref ph),some (.ref G),o8,some (.str C),S,some (.ref Z),some k,L,p] H'):
  let X:=Ke P w K mg base f cdv A outer s H E;Wp X ((oY 52#0).drop 4) D [o0,o1,o2,some (.ref Ab.b),some (.ref B.b),some (.ref j),some (.ref ph),some (.ref dl),o8,some (.str C),S,some (.ref Z),some k,L,p] o:=by
 intro X;let sl:sizeLine=16777216:=sizeLine_eq;let ct:=l.iv.ct;let O:∀H',eU j j o H'->Go N M T H' Ab v->Go N M T H' B sb->H' j=some 47#0->Wp X ((oY 52#0).drop 5) D [o0,o1,o2,some (.ref Ab.b),some (.ref B.b),some (.ref j),some (.ref ph),some (.ref dl),o8,some (.str C),S,some (.ref Z),some k,L,p] H':=λH' kp a2 a3 a0=>
  AQ W hr a2 a3 tn m1 m2 lt a0 g0 n1 n2 wo (kp.lst hp) (kp.lst hd) dm ld λpl G g mo rs cs F p aa a7=>q pl G g mo rs cs F p aa (kp.trans a7)
 refine {_,aE (bP (PW.pt (fW (bB eT (pv 9) bE (aX _)) (fW (bB mY (pv 12) eH (aX _)) (eY (cL (cK (aU (Pf W) hr aN (aA (pv 11) (aA (pv 12) (aA aR aF)))))))))) cX aZ) aQ,?_};refine {_,ρ,ρ,_,ρ,?_};by_cases hw:C="lend";rotate_left
 ·exact cO (fZ hw) (cS (O _ (eU.of (aJ.refl _)) l I hm))
 refine cN (by rw [hw];exact lM) {_,ρ,ρ,_,ρ,?_};rcases out with z|rfl|⟨xx,i,tk,n,m,h,u,r,rfl,a8,sc⟩
 ·exact absurd hw z
 ·exact cO (by rfl) (cS (O _ (eU.of (aJ.refl _)) l I hm))
 refine cN (by rfl) {_,ρ,_,ρ,?_};let (dx,a9):=l.bv.bk.ob;refine fJ 15#0 a9 W.B.cl (gF W) hr aN {Ab.b,Ab.pw,Ab.sh,Ab.d,M.sp,M.ev,M.le,v.nn,v.nt,v.mo,Ab.ps,v.cs,ρ,l.bv.bk,∎,l.bv.t2,λr3 H3 ac ae k3 _ U e3 J af ad=>?_};let (b3,_):=l.bv.keepT k3 (.inr {(rfl),U});let (a1,_):=I.bv.keepT k3 (.inr {(rfl),U});let kq:eU j j o H3:=eU.ofT k3 l.bv.t2;let a5:H3 j=_:=(k3.toT (show o N.T2=_ from l.bv.t2.choose_spec.1)).at hm;let l3:=J.length_eq;refine {Z,r,r3,Q,ac,cs0,ae,tk,n,m,h,u,ρ,kq.lst a6,aO (λ_ _ h=>h.move λ_ _ e=>kq.tup e) a4,kq.tup a8,e3,ad,c0,∎,λc hc t e=>(Y.op c (p0.mem_iff.mp hc) t e).2.2.2.2,λc hc t e=>(l.iv.op c (J.mem_iff.mp hc) t e).2.2.2.2,sc.lentR Y l.iv l.l1 p0 J,λH4 s4=>?_};refine {_,ρ,cS ?_};exact O H4 (kq.trans (eU.of s4)) (Go.same s4 {(b3),l.iv,l.wg,l.l1,l.e1}) (Go.same s4 {(a1),I.iv,I.wg,I.l1,I.e1}) (s4 _ _ a5)
def vD:V->PyData
 | .int i=>.int i
 | _=>.none
def Zf:To->PyData
 | .non=>.none
 | .lent t n m h u=>.tuple [.int t,.int n,.int m,.int h,.int u]
 | .told m h u=>.tuple [.int m,.int h,vD u]
inductive Xz:To->Prop where
 | non:Xz .non
 | lent {t n m h u:Int}:Xz (.lent t n m h u)
 | tn {m h:Int}:Xz (.told m h .non)
 | ti {m h i:Int}:Xz (.told m h (.int i))
def Sc.uok {s s':S8} {d:Dd} (h:Sc M s d o s'):Xz o:=by
 cases h with
 | lendP _ _ _=>exact .lent
 | lendC _ _ _ _ _ _ _=>exact .lent
 | tell _ _ _ _ _ _ _ _=>
  split
  ·exact .tn
  ·exact .ti
 | _=>exact .non
def Nt {K:Frag} (h:oS H v o) (u:Xz o):sW K H v (Zf o):=by
 cases u with
 | non=>cases h;exact .non
 | lent=>cases h with|lent h=>exact .tup (bX.of h) (.cons (.int _) (.cons (.int _) (.cons (.int _) (.cons (.int _) (.cons (.int _) .nil)))))
 | tn=>cases h with|told h=>exact .tup (bX.of h) (.cons (.int _) (.cons (.int _) (.cons .non .nil)))
 | ti=>cases h with|told h=>exact .tup (bX.of h) (.cons (.int _) (.cons (.int _) (.cons (.int _) .nil)))
def IZ (u:Xz o):Gd 1 (Zf o):=by
 cases u with
 | non=>exact Gd.non
 | lent=>exact Gd.tup (bM (Gd.int _) (bM (Gd.int _) (bM (Gd.int _) (bM (Gd.int _) (bM (Gd.int _) jA)))))
 | tn=>exact Gd.tup (bM (Gd.int _) (bM (Gd.int _) (bM Gd.non jA)))
 | ti=>exact Gd.tup (bM (Gd.int _) (bM (Gd.int _) (bM (Gd.int _) jA)))
def uD (u:Xz o):SeqAt.shaped (.tuple [Zf o,.str ""])=true:=(Gd.tup (n:=1) (bM (IZ u) (bM (Gd.str ⋯) jA))).shaped 8#0
def EL (o:To) (u:Xz o):PyData.eqv (.tuple [Zf o,.str ""]) (.tuple [Zf o,.str ""])=true:=by
 cases u <;> simp [PyData.eqv,PyData.eqvAll,Zf,vD]
def oS.kpl (k:eU d d' H H') (h:oS H v o):oS H' v o:=by
 cases h with
 | non=>exact .non
 | lent h=>exact .lent (k.tup h)
 | told h=>exact .told (k.tup h)
def tE.kpl {e:Str} {as:List V} {q:Dd} (k:eU d d' H H') (h:tE H e as q):tE H' e as q:=by
 cases h with
 | lend a b=>exact .lend a b
 | tell a b c d=>exact .tell (k.tup a) b c d
 | back=>exact .back
 | cut=>exact .cut
 | join=>exact .join
theorem Sc.ns {M:Pm} {s s':S8} {d:Dd} {o:To} (h:Sc M s d o s'):∀x ∈ s.ns,x ∈ s'.ns:=λx a=>by
 cases h with
 | tell _ _ _ _ _ _ _ _=>exact j6.mpr (.inl a)
 | _=>exact a
def DB {N:Cn} {t:Nat} {A:Ad} {s:S8} (g:Go N M t H A s) (p:cs.Perm s.cs) (d:t<=100):JL cs:=by
 refine⟨λc a=>?_,λc a t e=>(g.iv.op c (p.mem_iff.mp a) t e).2.2.2.2,by have:=p.length_eq;have:=g.iv.ct;omega⟩;let b:=p.mem_iff.mp a;have:=g.iv.lm c b;have:=g.iv.bnd g.wg b;exact { ∎,∎,∎,∎}
def Kd (H H':Hp):Prop:=∀a o,NC o=true->H a=some o->H' a=some o
def eU.k0 (k:eU d d' H H'):Kd H H':=λa o p e=>k a o e (.inl p)
def Kd.trans {d b:Hp} (x:Kd H d) (y:Kd d b):Kd H b:=λa o p e=>y a o p (x a o p e)
theorem Kd.lst {H H':Hp} (k:Kd H H') {a:Addr} {xs:List V} (e:H a=some (.lst xs)):H' a=some (.lst xs):=k a _ rfl e
theorem Kd.tup {H H':Hp} (k:Kd H H') {a:Addr} {xs:List V} (e:H a=some (.tup xs)):H' a=some (.tup xs):=k a _ rfl e
def Kd.work (k:Kd H H') {p:Addr} {ps:Lm.Ps} (h:cE H p ps):cE H' p ps:=by
 let (d,f,a):=h;exact {d,k.tup f,aO (λ_ _ ⟨b,e,x⟩=>{b,e,k.tup x}) a}
inductive Lp (N:Cn) (M:Pm) (A B:Ad) (md wk bd ph dl:Addr) (a:Lm.Ps) (k:Nat) (G:Hp):Prop|mk (ps qs:List Addr) (s s2:S8) (pl:Addr) (g mo:Int) (rs:List V) (cs:List Pc) (dn:List Int) (_:Go N M k G { A with ps:=ps } s) (_:Go N M k G { B with ps:=qs } s2) (_:Kc { A with ps:=ps } { B with ps:=qs }) (_:EW s s2) (_:oT G md pl g mo rs cs) (_:cs.Perm s.cs) (_:(A.d≠md/\A.d'≠md/\B.d≠md/\B.d'≠md)) (_:cE G wk a) (_:G bd=some (.tup [.int M.sp,.int M.ev,.int M.le])) (_:G ph=some (.lst ((dZ a).map V.int))) (_:G dl=some (.lst (dn.map V.int))) (_:(∀x ∈ dn,x ∈ s.ns)) (_:dn.length<128)
def AU {f:Addr} {cdv:Value} {A:Around} {outer:List Env} {s:Shared} {H:Hp} {E:XK} {D:dH} {M:Pm} {Ab B:Ad} {p wk bd ph dl:Addr} {a:Lm.Ps} {k:Nat} {j:Int} {o0 o9 a6 a7 a3 a2 S:Option V} {H2:Hp} (W:3#0) (hr:26#0) (L:Lp N M Ab B p wk bd ph dl a k H2) (lk:k<46) (e4:M.ev<=4) (wo:AK M a)
  (q:∀(T:Addr) (o9 a6 a7 a3 a2 S:Option V) (H':Hp),(∀l xs,H2 l=some (.lst xs)->H' l=some (.lst xs))->Lp N M Ab B p wk bd ph T a (k+1) H'->D.nx [o0,some (.ref wk),some (.ref bd),some (.ref Ab.b),some (.ref B.b),some 49#0,some (.ref ph),some (.ref T),some (.int j),o9,a6,a7,a3,a2,S] H'):
  let X:=Ke P w K mg base f cdv A outer s H E;Wp X (oY 52#0) D [o0,some (.ref wk),some (.ref bd),some (.ref Ab.b),some (.ref B.b),some 49#0,some (.ref ph),some (.ref dl),some (.int j),o9,a6,a7,a3,a2,S] H2:=by
 intro X;let nd:=Eo.nd;let (ps,qs,Y,sb,pl,g,mo,rs,cs,dn,I,gb,a5,tn,MM,pm,(n1,n2,m1,m2),hw,ay,hp,hd,dm,ld):=L;let sl:sizeLine=16777216:=sizeLine_eq;let ct:=I.iv.ct;refine {_,aE (wF (aU (Pw W) hr aN (aA (pv 5) (aA (pv 2) (aA aR aF)))) (fH (n:=2) rfl (aY (aP (i:=9) nd rfl 29#0) (aY (aP (i:=10) nd rfl 29#0) dR)))) aQ,?_};refine {_,ρ,_,ρ,dO (vs:=[.int j,.int 8]) (rR W) hr aN 15#0 {j,8,ρ,by decide,λlx xs H3 s3 l8 _ hx=>?_}};refine {p,pl,bd,lx,g,mo,M.sp,M.ev,M.le,rs,cs,xs,ρ,MM.same s3,s3 _ _ ay,I.e1,e4,hx,l8,DB I pm ∎,λr ad z as H4 s4 c0 b6 a1=>?_};refine {r,_,ρ,bX.of c0,ρ,_,_,ρ,_,_,ρ,ρ,?_};let t4:=s3.trans s4;let y:=I.same t4;let bj:=gb.same t4;let (x',y',z',hm):=MM.d;let c3:=t4 _ _ hm;let (d,a1):=a1.dd;let (dx,br):=y.bv.bk.ob;refine cF (n:=11) nd rfl (fJ 15#0 br W.B.cl (gF W) hr aN {Ab.b,Ab.pw,Ab.sh,Ab.d,M.sp,M.ev,M.le,Y.nn,Y.nt,Y.mo,ps,Y.cs,ρ,y.bv.bk,∎,y.bv.t2,λbl H5 c6 c5 k5 _ af e5 ae c7 bz=>?_});let (b5,_):=y.bv.keepT k5 (.inr {(rfl),af});let (bq,_):=bj.bv.keepT k5 (.inr {(rfl),af});let ap:Go N M k H5 { Ab with ps:=ps } Y:={(b5),I.iv,I.wg,I.l1,I.e1};let aw:Go N M k H5 { B with ps:=qs } sb:={(bq),gb.iv,gb.wg,gb.l1,gb.e1};let kq:∀d d',eU d d' H2 H5:=λd d'=>(eU.of t4).trans (eU.ofT k5 y.bv.t2);let am:∀d d',eU d d' H4 H5:=λd d'=>eU.ofT k5 y.bv.t2;let bc:H5 p=_:=(k5.toT (show H4 N.T2=_ from y.bv.t2.choose_spec.1)).at c3;let aj:=(am p p).tup b6;let C:=a1.kpl (am p p);let l5:=ae.length_eq;refine {_,aE (wF aR (fH (n:=2) rfl (aY (aP (i:=12) nd rfl 29#0) (aY (aP (i:=13) nd rfl 29#0) dR)))) aQ,?_};refine dO (vs:=[.ref Ab.b,.str z,.ref ad]) (yQ W) hr aN 15#0 {M,{ Ab with ps:=ps },Y,k,z,ad,as,d,ρ,aj,ap,∎,C,λr6 told wd v s6 H6 G c1 b1 F bx bi=>?_};refine {r6,_,ρ,bX.of bx,ρ,_,_,ρ,_,_,ρ,ρ,?_};let a0:=ap.fo aw a5 c1 F.bv.t1 F.bv.t2;let U:=aw.two a5 b1;let ag:=G.dic bc n1.symm n2.symm;let q5:=(kq p p).k0;let ac:∀(v t:List Addr) (s' O:S8) (H':Hp),Kd H5 H'->Go N M (k+1) H' { Ab with ps:=v } s'->Go N M (k+1) H' { B with ps:=t } O->Kc { Ab with ps:=v } { B with ps:=t }->EW s' O->H' p=some (.dK (wY (.ref pl) (.int g) x' (.int mo) y' z'))->(∀x ∈ Y.ns,x ∈ s'.ns)->(z≠"lend"\/told=.non\/∃(xx:Str) (i tk n m h u:Int) (r:Addr),told=.ref r/\H' r=some (.tup [.int tk,.int n,.int m,.int h,.int u])/\Sc M Y (.lend xx i) (.lent tk n m h u) s') ->
   Wp X ((oY 52#0).drop 4) D [o0,some (.ref wk),some (.ref bd),some (.ref Ab.b),some (.ref B.b),some 49#0,some (.ref ph),some (.ref dl),some (.int j),some (.str z),some (.ref ad),some (.ref bl),some told,some (.str wd),S] H':=λv t s' O H' Z b7 b8 ah Q b2 bt an=>
  AO (Ab:={ Ab with ps:=v }) (B:={ B with ps:=t }) W hr b7 b8 Q m1 m2 ∎ b2 MM.g0 n1 n2 wo (Z.lst (q5.lst hp)) (Z.lst (q5.lst hd)) (λx hx=>bt x (dm x hx)) ld (Z.lst e5) (aO (λ_ _ h=>h.move λ_ _ e=>Z.tup e) bz) I.iv ae ∎ an λb9 T g' bp b4 ba bh c4 bu av a9 aa bb au ar aq ai=>
   let ka:=(q5.trans Z).trans av.k0;q T _ _ _ _ _ _ bu (λl xs e=>ka.lst e) {v,t,s',O,b9,g',bp,b4,ba,bh,a9,aa,ah,Q,bb,au,{(n1),n2,m1,m2},ka.work hw,ka.tup ay,ka.lst hp,ar,aq,ai}
 refine {_,aE (bP (PW.pt (fW (bB eT (pv 13) bE (aX _)) (eY (bB (iW hr.units) (aU (yQ W) hr aN (aA (pv 4) (aA (pv 9) (aA (pv 10) aF)))) (bY (aA (pv 12) (aA bE aF))) (aX _))))) cX aZ) aQ,?_};refine {_,ρ,ρ,_,ρ,?_};rcases bi with ⟨o,J,to,rfl⟩|⟨rfl,bn,rfl,rfl,no⟩;rotate_left
 ·refine cO (fZ bn) (cS ?_);exact ac _ qs _ sb H6 G.k0 F a0.up a5 tn ag (λ_ h=>h) (.inr (.inl rfl))
 refine cN lM {_,ρ,_,ρ,_,ρ,M,{ B with ps:=qs },sb,k,z,ad,as,d,ρ,G.tup aj,a0,∎,C.kpl G,λr7 az c9 t s7 H7 a4 bo b3 a8 be al=>?_};let (c8,ak,Q):=J.twin I.iv tn;rcases al with ⟨o7,bg,c2,rfl⟩|⟨_,_,_,_,no⟩;rotate_left
 ·exact(no _ _ ak).elim
 let (rfl,rfl):=ak.det gb.iv bg;let bw:=a0.fo F U.symm bo a8.bv.t1 a8.bv.t2;let ax:=(F.two U.symm b3).symm;let b0:=a4.dic ag m1.symm m2.symm;refine {_,ρ,by show 2<=sizeLine;omega,λr8 n8=>?_};let (H8,hh,s8,f8):=jM n8 (.tup [told,.str ""]);rw [hh];let ao:=(to.kpl a4).same s8;refine {.tuple [Zf o7,.str ""],.tuple [Zf o7,.str ""],.tup (bX.of (s8 _ _ be)) (.cons (Nt (c2.same s8) J.uok) (.cons (.str _) .nil)),.tup (bX.of f8) (.cons (Nt ao J.uok) (.cons (.str _) .nil)),uD J.uok,uD J.uok,_,ρ,?_};rw [EL _ J.uok];refine cS ?_;refine ac v t s6 s7 H8 ((G.k0.trans a4.k0).trans (eU.of (d:=p) (d':=p) s8).k0) (bw.same s8) (a8.same s8) ax Q (s8 _ _ b0) J.ns ?_;cases C with
 | lend _ _=>
  cases ao with
  | non=>exact .inr (.inl rfl)
  | lent h=>exact .inr (.inr {_,_,_,_,_,_,_,_,ρ,h,J})
  | told h=>cases J
 | _=>exact .inl ⋯
end
end
end Ls
namespace Lm
def Lr {p:Int × Int} {t:Ps} (h:Sh (p::t)):¬ mem (p::t) p.2:=by
 intro z;rcases mem_cons.mp z with z|z
 ·omega
 ·let (q,a,b,_):=z;have:=h.2.1 q a;omega
def Eg {p:Int × Int} {t:Ps} (h:Sh (p::t)) {x:Int}:mem t x↔mem (p::t) x/\p.2<=x:=by
 constructor
 ·intro z;exact {mem_cons.mpr (.inr z),wM (λq a=>y9 (h.2.1 q a)) z}
 ·rintro⟨z,w⟩;rcases mem_cons.mp z with z|z
  ·omega
  ·exact z
theorem sh_same:∀{s t:Ps},Sh s->Sh t->(∀x,mem s x↔mem t x)->s=t
 | [],[],_,_,_=>rfl
 | [],q::t,_,ht,e=>by
  have:=(e q.1).mpr (mem_cons.mpr (.inl {j8 _,ht.1}))
  exact(iY.mp this).elim
 | p::s,[],hs,_,e=>by
  have:=(e p.1).mp (mem_cons.mpr (.inl {j8 _,hs.1}))
  exact(iY.mp this).elim
 | p::s,q::t,hs,ht,e=>by
  let d:q.1<=p.1:=qZ ht ((e p.1).mp (mem_cons.mpr (.inl {j8 _,hs.1})))
  let g:p.1<=q.1:=qZ hs ((e q.1).mpr (mem_cons.mpr (.inl {j8 _,ht.1})))
  let b:¬ p.2<q.2:=λz=>Lr hs ((e p.2).mpr (mem_cons.mpr (.inl ⟨by have:=hs.1;omega,z⟩)))
  let f:¬ q.2<p.2:=λz=>Lr ht ((e q.2).mp (mem_cons.mpr (.inl ⟨by have:=ht.1;omega,z⟩)))
  let a:p=q:=by
   apply Prod.ext
   ·omega
   ·omega
  subst a;have:s=t:=sh_same hs.2.2 ht.2.2 λx=>by rw [Eg hs,Eg ht,e x]
  rw [this]
end Lm
namespace Ls
open PySem L2 PySem.W
section
variable {H:Hp} {a:Lm.Ps}
def pJ (vf:Int->Int) (ds:Lm.Ps):PyData:=.list (ds.map λq=>.tuple [.int q.1,zE ((List.range (q.2-q.1).toNat).map λ(i:Nat)=>vf (q.1+(i:Int)))])
def qL (ds:Lm.Ps):PyData:=.tuple (ds.map λq=>.tuple [.int q.1,.int q.2])
def Ff {K:Frag} {H:Hp} {vf:Int->Int} {l:Addr} {xs:List V} {a:Lm.Ps} (h:H l=some (.lst xs)) (p:Paired (Dp vf H) xs a):sW K H (.ref l) (pJ vf a):=.lst (cQ.of h) (by
 clear h
 induction p with
 | nil=>exact .nil
 | cons h _ ih=>
  let (b,c,rfl,e,d):=h
  exact .cons (.tup (bX.of e) (.cons (.int _) (.cons (Hv d) .nil))) ih)
def yA {K:Frag} {l:Addr} {d:Lm.Ps} (h:cE H l d):sW K H (.ref l) (qL d):=by
 let (f,a,p):=h;refine .tup (bX.of a) ?_;clear a;unfold cU at p
 induction p with
 | nil=>exact .nil
 | cons h _ ih=>
  let (b,rfl,e):=h;exact .cons (.tup (bX.of e) (.cons (.int _) (.cons (.int _) .nil))) ih
def sV (vf:Int->Int) (b:Lm.Ps):SeqAt.shaped (pJ vf b)=true:=(Gd.lst (n:=2) λd a=>by
 let (q,_,rfl):=v8.mp a
 exact Gd.tup (bM (Gd.int _) (bM (Gd.tup (n:=0) (Gh _)) jA))).shaped 8#0
def oU (b:Lm.Ps):SeqAt.shaped (qL b)=true:=(Gd.tup (n:=1) λd a=>by
 let (q,_,rfl):=v8.mp a
 exact Gd.tup (bM (Gd.int _) (bM (Gd.int _) jA))).shaped 8#0
def Gn {α:Type} (f:α->PyData) (h:∀x,PyData.eqv (f x) (f x)=true) (l:List α):PyData.eqvAll (l.map f) (l.map f)=true:=by
 induction l with
 | nil=>simp [PyData.eqvAll]
 | cons c l ih=>rw [x9,PyData.eqvAll,ih,h];rfl
def Xo (vf:Int->Int) (a:Lm.Ps):PyData.eqv (pJ vf a) (pJ vf a)=true:=by
 unfold pJ;rw [PyData.eqv];exact Gn _ (λq=>by simp [PyData.eqv,PyData.eqvAll,Jh]) a
def Rf (a:Lm.Ps):PyData.eqv (qL a) (qL a)=true:=by
 unfold qL;rw [PyData.eqv];exact Gn _ (λq=>by simp [PyData.eqv,PyData.eqvAll]) a
def Sj {vf vf':Int->Int} (h:∀x,Lm.mem a x->vf' x=vf x):pJ vf' a=pJ vf a:=by
 unfold pJ;congr 1;refine List.map_congr_left λq d=>?_;congr 4;refine List.map_congr_left λi b=>h _ {q,d,∎,?_};have:=E1.mp b;omega
section
variable {P:Program} {w:World} {K:Frag} {mg:Str->Option Value} {base:Heap} {N:Cn} {c:Nat->Addr}
def Xa {f:Addr} {cdv:Value} {A:Around} {outer:List Env} {s:Shared} {E:XK} {D:dH} {M:Pm} {Ab B:Ad} {a g:S8} {tt:Nat} {o0 o1 o2 o5 o6 o7 o8 o9 J U I a3 G:Option V} {Z:Hp} (W:3#0) (o:26#0) (n:Go N M tt Z Ab a) (gb:Go N M tt Z B g) (tn:EW a g) (q:∀H',D.rt (.bl true) H'):
  let X:=Ke P w K mg base f cdv A outer s H E;Wp X ((bQ xT).drop 8) D [o0,o1,o2,some (.ref Ab.b),some (.ref B.b),o5,o6,o7,o8,o9,J,U,I,a3,G] Z:=by
 intro X;let mm:∀x,x ∈ g.ns↔x ∈ a.ns:=λx=>by rw [gb.iv.nx x,n.iv.nx x,tn.cs]
 let (dx,y):=n.bv.bk.ob;refine eC {_,eR (dA (Ca o.units) (bG (pv 3) W.B.cl (rP W) o aN) (bG (pv 4) W.B.cl (rP W) o aN) (aX _)) (fX (dA (Ca o.units) aR aR (aX _))),?_};refine {_,ρ,Ab.b,dx,_,ρ,y,ρ,a.vf,Ab.b,Ab.pw,Ab.sh,Ab.d,Ab.pw',Ab.d',M.sp,M.ev,M.le,a.nn,a.nt,a.mo,M.ws,a.kv,ρ,n.bv.bk.ob,n.bv.st,Ab.sh,Ab.pw',Ab.d',M.ws,a.kv,a.ns,ρ,n.bv.st,n.iv.hd,λr1 a1 a4 H3 s3 _ L O a0 r _=>?_};let j:=gb.same s3;let (dy,t):=j.bv.bk.ob;refine {_,ρ,B.b,dy,_,ρ,t,ρ,g.vf,B.b,B.pw,B.sh,B.d,B.pw',B.d',M.sp,M.ev,M.le,g.nn,g.nt,g.mo,M.ws,g.kv,ρ,j.bv.bk.ob,j.bv.st,B.sh,B.pw',B.d',M.ws,g.kv,g.ns,ρ,j.bv.st,j.iv.hd,λr2 k a5 H4 p _ Q u T C _=>?_};let ed:k=a1:=Lm.sh_same T a0 λx=>by rw [C x,r x,mm x]
 subst ed;let ev:pJ g.vf k=pJ a.vf k:=Sj λx hx=>tn.vf x ((r x).mp hx);refine {pJ a.vf k,pJ g.vf k,Ff (p _ _ L) (aO (λ_ _ ⟨b,c,e,h1,h2⟩=>{b,c,e,p _ _ h1,p _ _ h2}) O),Ff Q u,sV _ _,sV _ _,_,ρ,?_};rw [ev,Xo];refine dE ?_;let t4:=s3.trans p;let h:=n.same t4;let v:=j.same p;let (F,l):=h.bv.bk.ob;let lw:=h.wg.ln;refine fJ 15#0 l W.B.cl (uQ W) o aN {Ab.b,Ab.pw,Ab.sh,Ab.d,Ab.pw',Ab.d',M.sp,M.ev,M.le,a.nn,a.nt,a.mo,M.ws,a.kv,ρ,{(F),l},h.bv.st,Ab.sh,Ab.pw',Ab.d',M.ws,a.kv,a.ns,ρ,h.bv.st,h.wg.sh,∎,h.iv.hd.key,h.iv.hd.nd,h.iv.hd.len,λr7 d7 H7 s7 w7 S m7 _=>?_};let i:=v.same s7;let (a2,m):=i.bv.bk.ob;refine fJ 15#0 m W.B.cl (uQ W) o aN {B.b,B.pw,B.sh,B.d,B.pw',B.d',M.sp,M.ev,M.le,g.nn,g.nt,g.mo,M.ws,g.kv,ρ,{(a2),m},i.bv.st,B.sh,B.pw',B.d',M.ws,g.kv,g.ns,ρ,i.bv.st,i.wg.sh,∎,i.iv.hd.key,i.iv.hd.nd,i.iv.hd.len,λr8 z H8 s8 w8 Y m8 _=>?_};let ew:z=d7:=Lm.sh_same Y S λx=>(m8 x).trans ((and_congr_right λ_=>not_congr (mm x)).trans (m7 x).symm);subst ew;refine {qL z,qL z,yA (w7.same s8),yA w8,oU _,oU _,?_};rw [Rf];exact q _
theorem pK.far {ps:List (Int × Int)} (r:pK ps):∀(d k:Nat) (l h a h':Int),ps[k]?=some (l,h)->ps[k+1+d]?=some (a,h')->h<=a
 | 0,k,l,h,a,h',e1,e2=>r.up k l h a h' e1 e2
 | d+1,k,l,h,a,h',e1,e2=>by
  let e:k+1+d<ps.length:=by
   have:=(e8.mp e2).1;omega
  let b:ps[k+1+d]?=some ps[k+1+d]:=e7 e;let f:=r.far d k l h _ _ e1 b;let g:=r.lt _ _ _ b;let i:=r.up (k+1+d) _ _ a h' b e2;omega
theorem Fd:∀{ps:Lm.Ps},pK ps->Lm.Wk ps
 | [],_=>trivial
 | p::t,r=>by
  refine {r.lt 0 p.1 p.2 rfl,λq f=>?_,Fd (ps:=t) ⟨λk l h z=>r.lt (k+1) l h z,λk l h g e a i=>r.up (k+1) l h g e a i,λk l h z=>r.lo (k+1) l h z,by have:=r.few;rw [p8] at this;omega⟩}
  let (d,b,rfl):=C3 f
  refine r.far d 0 p.1 p.2 t[d].1 t[d].2 rfl ?_
  rw [show 0+1+d=d+1 by omega]
  show t[d]?=_
  rw [e7 b]
def Dy {T:Addr} {pos:Pos} {q:Str} (h:H T=some (.tbl #[])):lY H T pos q:={#[],h,trivial,.inl rfl}
def Fw {C:Addr} {b d:Addr} (f:H b=none) (g:H d=none):aJ H (upd (upd H d (.own b)) b (.ins C d [])):=λa o e=>by
 rw [aC (aD e f),aC (aD e g)]
 exact e
theorem uR:∀{l m:List Int},l.Nodup->(∀x ∈ l,x ∈ m)->l.length<=m.length
 | [],m,_,_=>i9 _
 | x::l,m,nd,h=>by
  let (d,e):=A0.mp nd
  have b:=h x (i4 ..)
  have:=uR (l:=l) (m:=m.erase x) e λy a=>(List.mem_erase_of_ne λz=>d (by rw [<- z];exact a)).mpr (h y (g6 _ a))
  rw [List.length_erase_of_mem b] at this
  have:0<m.length:=List.length_pos_of_mem b
  rw [p8]
  omega
theorem Qk:∀{a:Lm.Ps},(∀q ∈ a,q.2-q.1<=30)->(dZ a).length<=30 * a.length
 | [],_=>by decide
 | q::a,h=>by
  let e:dZ (q::a)=eE q.1 (q.2-q.1).toNat++dZ a:=by unfold dZ;rw [List.flatMap_cons]
  let b:(eE q.1 (q.2-q.1).toNat).length=(q.2-q.1).toNat:=by unfold eE;rw [g7,A4]
  let g:=h q (i4 ..)
  let f:=Qk (a:=a) λr d=>h r (g6 _ d)
  rw [e,j5,b,p8]
  omega
def Zc {f:Lm.Ps} (r:pK a) (sh:Lm.Sh f) (i:∀x,Lm.mem f x↔Lm.mem a x) (s:f.length<=a.length):Wg f:=by
 let o:=r.few;let b:∀q ∈ a,-1000000000000000000<q.1/\q.2<1000000000000000000/\q.2-q.1<=30:=λq d=>by
  let (k,p,e):=C3 d;exact r.lo k q.1 q.2 (by rw [e7 p,e])
 refine {sh,λx g=>?_,λl j h=>?_,∎}
 ·let (q,d,m,n):=(i x).mp g;have:=b q d;omega
 ·let m:=uR j λx g=>iO.mpr ((i x).mp (h x g));let n:=Qk λq d=>(b q d).2.2;omega
theorem gC:∀{a:Lm.Ps} {k:Nat} {c:Pc},c ∈ pcs k a->∃q ∈ a,c.l=q.1/\c.h=q.2/\c.m=q.1/\c.o=none/\(k:Int)<=c.n/\c.n<(k:Int)+a.length
 | [],_,c,h=>by cases h
 | q::a,k,c,h=>by
  rcases i3.mp h with rfl|h
  ·exact {q,i4 ..,ρ,ρ,ρ,ρ,j8 _,by show (k:Int)<k+((a.length+1:Nat):Int);omega}
  ·let (r,e,b,d,g,f,i,j):=gC h
   exact {r,g6 _ e,b,d,g,f,∎,by rw [p8];omega}
theorem Ol:∀{a:Lm.Ps} {k:Nat} {q:Int × Int},q ∈ a->∃c ∈ pcs k a,c.l=q.1/\c.h=q.2
 | q'::a,k,q,h=>by
  rcases i3.mp h with rfl|h
  ·exact {_,i4 ..,ρ,ρ}
  ·let (c,b,e):=Ol (k:=k+1) h
   exact {c,g6 _ b,e}
theorem Bw:∀{a:Lm.Ps} {k:Nat},Lm.Wk a->(pcs k a).Pairwise (λc e=>c.h<=e.l\/e.h<=c.l)
 | [],_,_=>J5
 | q::a,k,w=>u7.mpr ⟨λc b=>by
   let (r,f,d,g,_):=gC b
   exact .inl (by rw [d];exact w.2.1 r f),Bw w.2.2⟩
theorem Om:∀{a:Lm.Ps} {k:Nat},((pcs k a).map Pc.n).Nodup
 | [],_=>List.nodup_nil
 | q::a,k=>by
  refine A0.mpr {λz=>?_,Om (a:=a) (k:=k+1)}
  let (c,b,e):=v8.mp z
  let (_,_,_,_,_,_,d,_):=gC b
  have e:c.n=(k:Int):=e
  omega
def xW (a:Lm.Ps):S8:=⟨a.length,0,0,pcs 0 a,[],[],λ_=>0⟩
def Qp {l:Lm.Ps} {sp:Int} (w:Lm.Wk a) (o:a.length<=4) (p:∀x,Lm.mem l x↔Lm.mem a x):Iv l sp 0 (xW a):=by
 refine {λc b=>?_,Bw w,λx=>(p x).trans {?_,?_},λc b t e=>?_,?_,λx=>{20#0,?_},Om,λc b=>?_,{ρ,List.nodup_nil,by show 0<128;decide,(λx g=>nomatch g),(λx g=>nomatch g)},by show (pcs 0 a).length<=4+0;rw [mU];omega,j8 _}
 ·let (q,d,h,j,v,_):=gC b;have:=Lm.Wk.lt w q d;omega
 ·rintro⟨q,d,h,j⟩;let (c,b,f,m):=Ol (k:=0) d;exact {c,b,∎,∎}
 ·rintro⟨c,b,h,j⟩;let (q,d,f,m,_):=gC b;exact {q,d,∎,∎}
 ·let (_,_,_,_,_,i,_):=gC b;rw [i] at e;cases e
 ·refine(Bw w).imp_of_mem λ{x y} g _ _ t u f _=>?_;let (_,_,_,_,_,i,_):=gC g;rw [i] at f;cases f
 ·rintro⟨c,b,h,j⟩;let (q,d,f,m,r,_):=gC b;omega
 ·let (_,_,_,_,_,_,s,A):=gC b;exact { ∎,by show c.n<(a.length:Int);omega}
inductive FG (K:Frag) (TG TP:Addr) (vs:List V) (H:Hp) (Q:VK) (E0_:XK):Prop|mk (a:Addr) (ns:List Int) (_:vs=[.ref a]) (_:cQ K H a 32#0) (_:ns.length<=63) (_:H TG=some (.tbl #[])) (_:H TP=some (.tbl #[])) (_:∀H',Q (.bl true) H')
def Ec (K:Frag) (TG TP:Addr):Sp:=FG K TG TP
def DO {f:Addr} {fd:FuncData} (F:qG K "law" "law" xT f fd) (nT:N.T1≠N.T2) (W:3#0):bN P w K mg base dI 10 f fd ["_law_script"] (Ec K N.T1 N.T2):=by
 let (_,_,_,GI,bI,MK):=(Pj W).mk' W.iB 8;refine F.ok Eo 11#0 (λbt A ba s H vs Q E hr h=>?_)
 ·let (a,ns,rfl,_):=h;rfl
 intro X D;let (a,ns,rfl,hS,hl,az,av,q):=h;let nd:=Eo.nd;let sl:sizeLine=16777216:=sizeLine_eq;refine Wp.ex (cF (n:=1) nd rfl {_,aU (Wh W) hr aN (aA aR aF),dO (vs:=[.ref a,.int 0]) (Ft W) hr aN 15#0 {a,ns,0,ρ,hS,hl,λc0=>{c0,ρ,λp G H1 s1 b7=>?_}}});refine cF (n:=2) nd rfl {_,aU (DP W) hr aN (aA aR aF),dO (vs:=[.ref a,.int 1]) (Ft W) hr aN 15#0 {a,ns,1,ρ,s1.seq hS,hl,λc1=>{c1,ρ,λbd sp ev S H2 s2 al b1 b2 b3 b4 b5 b6=>?_}}};let t2:=s1.trans s2;let (us,u1,u2,u):=b7.same s2;let ah:=u.few;let T:=Fd u;refine cF (n:=3) nd rfl {_,pU MK GI hr rfl W.B.mgC bI .nil aN fG,Av.to (vs:=[.ref p,.int sp,.int ev,.int S]) 15#0 _ λb dx nb bl ne=>?_};let s3:=Fw (C:=N.CB) nb bl;let e3:(upd (upd H2 dx (.own b)) b (.ins N.CB dx [])) b=some (.ins N.CB dx []):=aB;generalize upd (upd H2 dx (.own b)) b (.ins N.CB dx [])=H3 at s3 e3 ⊢;refine {b,dx,p,G,sp,ev,S,ρ,e3,cE.same s3 {(us),u1,u2},T,∎,∎,∎,∎,∎,λsh y sd d ws ps H4 k4 br bx bq S4 ao a3 bh bz B4=>?_};refine {ρ,?_};let J:∀{x:Addr} {o:HO},H2 x=some o->H4 x=some o:=λ{x o} e=>k4 x o (s3 _ _ e) (aD e nb);let an:cE H4 p G:={us,J u1,aO (λv q ⟨b,y1,y2⟩=>{b,y1,J y2}) u2};let g4:Go N {(sp),ev,S,ws} 0 H4 {(b),p,sh,d,y,sd,ps} (xW G):={{B4,S4,Dy (J (t2 _ _ az)),Dy (J (t2 _ _ av)),bq.symm,nT},Qp T ah a3,Zc u ao a3 bh,by show 1<=S;omega,b3};refine cF (n:=4) nd rfl {_,pU MK GI hr rfl W.B.mgC bI .nil aN fG,Av.to (vs:=[.ref p,.int sp,.int ev,.int S]) (by have al:=J al;symm) _ λO Z ag am c3=>?_};let s5:=Fw (C:=N.CB) ag am;let e5:(upd (upd H4 Z (.own O)) O (.ins N.CB Z [])) O=some (.ins N.CB Z []):=aB;generalize upd (upd H4 Z (.own O)) O (.ins N.CB Z [])=H5 at s5 e5 ⊢;refine {O,Z,p,G,sp,ev,S,ρ,e5,cE.same s5 an,T,∎,∎,∎,∎,∎,λU g Y d' t I H6 k6 ad aa au S6 ac j ap bn B6=>?_};refine {ρ,?_};let ae:aJ H4 H6:=λx o e=>k6 x o (s5 _ _ e) (aD e ag);let b9:t=ws:=Lm.sh_same ac ao λx=>by rw [j x,a3 x]
 subst b9;let a1:=g4.same ae;let a0:Go N {(sp),ev,S,t} 0 H6 {(O),p,U,d',g,Y,I} (xW G):={{(B6),S6,a1.bv.t1,a1.bv.t2,au.symm,nT},Qp T ah j,Zc u ac j ap,by show 1<=S;omega,b3};let bc:Kc {(b),p,sh,d,y,sd,ps} {(O),p,U,d',g,Y,I}:=by
  let (dz,hz):=g4.bv.bk.ob;refine {aD hz ag,aD (s5 _ _ g4.bv.bk.dc) ad,aD (s5 _ _ g4.bv.bk.dc) aa,aD (s5 _ _ g4.bv.st.dc) ad,aD (s5 _ _ g4.bv.st.dc) aa,λr bp ar=>?_};let (_,_,_,_,_,_,e):=g4.pcs bp;have:=s5 _ _ e;rw [bn r ar] at this;cases this
 let af:=an.same ae;let wo:AK {(sp),ev,S,t} G:={(T),ah,j};refine cF (n:=5) nd rfl (dO (vs:=[.ref p]) (Pe W) hr aN 15#0 {p,G,ρ,af,∎,λmd pl rs H7 s7 a7 MM=>?_});refine cF (n:=6) nd rfl (dO (vs:=[.ref p]) (Ih W) hr aN 15#0 ⟨p,G,rfl,af.same s7,∎,λq hq=>?_,by have:=wo.all a0.wg;omega,λph H8 s8 _ bi=>?_⟩)
 ·let (h1,h2,h3):=wo.wid a0.wg hq;exact {h1,h2,h3,Lm.Wk.lt T q hq}
 refine gY (n:=7) nd rfl iT (i9 _) λdl H9 _ s9 aw=>?_;let t9:aJ H6 H9:=s7.trans (s8.trans s9);let ak:∀{x:Addr} {o:HO},H2 x=some o->H9 x=some o:=λ{x o} e=>t9 _ _ (ae _ _ (J e));let bb:cQ K H9 a 32#0:=by
  rcases t2.seq hS with (h|⟨o,h⟩)|h
  ·exact .inl (.inl (ak h))
  ·exact .inl (.inr {o,ak h})
  ·exact .inr h
 refine {_,aE (eG z5 rfl (fA (rH Ef (pv 0) (mP aS) (mP aS))) (aP (i:=8) nd rfl 29#0) aQ) aQ,?_};refine {_,ρ,_,ρ,_,ρ,a,_,ρ,bb,λl nl=>?_};rw [Rt];let aq:(hV ns (some 2) (some 47)).length<=45:=by
  have:=Gk (ns:=ns) (lo:=2) (hi:=47) 8#0 8#0;omega
 let (be,hh,a2,ai):=jM nl (.lst ((hV ns (some 2) (some 47)).map V.int));rw [hh];generalize hV ns (some 2) (some 47)=m at aq ai;let aj:=t9.trans a2;let b8:Lp N {(sp),ev,S,t} {(b),p,sh,d,y,sd,ps} {(O),p,U,d',g,Y,I} md p bd ph dl G 0 be:={ps,I,xW G,xW G,pl,0,0,rs,pcs 0 G,[],a1.same aj,a0.same aj,bc,{ρ,ρ,ρ,ρ,λ_ _=>rfl},MM.same (s8.trans (s9.trans a2)),List.Perm.refl _,{aD a1.bv.bk.dc a7,aD a1.bv.st.dc a7,aD a0.bv.bk.dc a7,aD a0.bv.st.dc a7},af.same aj,a2 _ _ (ak al),a2 _ _ (s9 _ _ bi),a2 _ _ aw,λ_ z=>(nomatch z),by decide};refine {l,ρ,{_,cQ.of ai},nJ (xs:=m.map V.int) (λk σ G'=>(∃dl o8 o9 a6 a8 a5 a4 a9,σ=[some (.ref a),some 49#0,some (.ref bd),some (.ref b),some (.ref O),some (.ref md),some (.ref ph),some (.ref dl),o8,o9,a6,a8,a5,a4,a9]/\Lp N {(sp),ev,S,t} {(b),p,sh,d,y,sd,ps} {(O),p,U,d',g,Y,I} md p bd ph dl G k G')/\G' l=some (.lst (m.map V.int))) {{_,_,_,_,_,_,_,_,ρ,b8},ai} (λk σ G' _ h=>cQ.of h.2) (λk x σ G' hx h=>?_) (λσ G' h=>?_)}
 ·let ((dl,o8,o9,a6,a8,a5,a4,a9,rfl,L),ax):=h;rw [j1] at hx;cases ex:m[k]? with
  | none=>rw [ex] at hx;cases hx
  | some cell=>
   rw [ex] at hx;cases hx;let kl:k<m.length:=(e8.mp ex).1;exact AU (M:={(sp),ev,S,t}) (Ab:={(b),p,sh,d,y,sd,ps}) (B:={(O),p,U,d',g,Y,I}) W hr L ∎ b4 wo λc2 o9 a6 a8 a5 a4 a9 H' kl L'=>{{_,_,_,_,_,_,_,_,ρ,L'},kl _ _ ax}
 ·let ((dl,o8,o9,a6,a8,a5,a4,a9,rfl,(bo,bj,bu,bw,_,_,_,_,_,_,ay,b0,_,bg,_)),_):=h;exact Xa (M:={(sp),ev,S,t}) (Ab:={ b:=b,pw:=p,sh:=sh,d:=d,pw':=y,d':=sd,ps:=bo }) (B:={ b:=O,pw:=p,sh:=U,d:=d',pw':=g,d':=Y,ps:=bj }) W hr ay b0 bg q
section
variable {h:Heap} {C f c T:Addr} {x q:Str} {st:Stmt} {oc:Value} {od an:Option Addr} {osl:Array (Option Value)} {kV doc pm cdv ct:Value} {fd:FuncData}
def Df.mk (X:K.In h) (G:h.Ns mainGlobals mg) (a:nsIn K mainGlobals x=some (some (.ref f))) (l:K.lookup f=some ⟨oc,od,.func (fnOf x x (eO st) (bQ st) (aG st) .none kV doc pm an cdv ct),osl⟩) (h:codeIn K cdv x=true) (k:keepIn K (.ref f)=true):Df K mg x st:=⟨f,_,mg_of X G a,Cr l h k⟩
def Dc.mk (X:K.In h) (G:h.Ns mainGlobals mg) (a:nsIn K mainGlobals x=some (some (.ref f))) (l:K.lookup f=some ⟨oc,od,.func (fnOf x x (eO st) (bQ st) (aG st) .none kV doc pm an (.ref c) ct),osl⟩) (h:codeIn K (.ref c) x=true) (k:keepIn K (.ref f)=true) (t:codeHdIn K c T=true):Dc K mg x st T:=⟨f,_,c,mg_of X G a,Gi l h k,t⟩
def Mf.mk (a:findIn K (.ref C) x=some (some (.ref f))) (i:isFn K (.ref f)=true) (l:K.lookup f=some ⟨oc,od,.func (fnOf x q (eO st) (bQ st) (aG st) .none kV doc pm an cdv ct),osl⟩) (h:codeIn K cdv q=true) (k:keepIn K (.ref f)=true):Mf K C x q st:=⟨f,_,⟨a,i,k⟩,Cr l h k⟩
def Mc.mk (a:findIn K (.ref C) x=some (some (.ref f))) (i:isFn K (.ref f)=true) (l:K.lookup f=some ⟨oc,od,.func (fnOf x q (eO st) (bQ st) (aG st) .none kV doc pm an (.ref c) ct),osl⟩) (h:codeIn K (.ref c) q=true) (k:keepIn K (.ref f)=true) (t:codeHdIn K c T=true):Mc K C x q st T:=⟨f,_,c,⟨a,i,k⟩,Gi l h k,t⟩
end
def LC (K:Frag) (l:List Addr):Bool:=(List.range 9).all λj=>(List.range 9).all λi=>kitOne K (.ref (l.getD j 0)) (.ref (l.getD i 0)) == some (decide (i=j))
def CZ {K:Frag} {l:List Addr} (h:LC K l=true) {j i:Nat} (hj:j<9) (hi:i<9):kitOne K (.ref (l.getD j 0)) (.ref (l.getD i 0))=some (decide (i=j)):=by
 unfold LC at h;rw [K1] at h;have h:=h j (E1.mpr hj);rw [K1] at h;exact eq_of_beq (h i (E1.mpr hi))
def nine {p:Nat->Prop} (h0:p 0) (h1:p 1) (h2:p 2) (h3:p 3) (h4:p 4) (h5:p 5) (h6:p 6) (h7:p 7) (h8:p 8) (j:Nat) (h:j<9):p j:=
 match j,h with
 | 0,_=>h0|1,_=>h1|2,_=>h2|3,_=>h3|4,_=>h4|5,_=>h5|6,_=>h6|7,_=>h7|8,_=>h8
def wcs {K:Frag} {l:List Addr} (e:∀j,j<9->wW K (l.getD j 0)) (pw:LC K l=true) (j:Nat) (hj:j<9):JY K (λi=>l.getD i 0) (l.getD j 0) j:=⟨e j hj,λ_ hi=>CZ pw hj hi⟩
def all_mk {l:OpenLaw} {w:World} {K:Frag} {mg:Str->Option Value} {fa:Addr} {N:Cn} {c:Nat->Addr} (nT:N.T1≠N.T2) (hfa:mg "law"=some (.ref fa)) (D:Df K mg "law" xT) (W:∀base,wX base mg->Wd l.prog w K mg base N c):
  ∃fd:FuncData,(∀(s:Shared) (v:Value),BindsTo s fd ⟨[v],[]⟩ [("_law_script",v)])/\∀base:Heap,K.In base->base.Ns mainGlobals mg->wX base mg->bN l.prog w K mg base dI 10 fa fd ["_law_script"] (Ec K N.T1 N.T2):=by
 obtain⟨f,fd,m,F⟩:=D;cases hfa.symm.trans m;obtain⟨oc,od,kV,doc,pm,an,cdv,ct,osl,rfl,lk,hcd⟩:=F.ex;have F:=Cr lk hcd F.kp;exact⟨_,λs v=>.of_eq rfl,λbase _ _ hB=>DO F nT (W base hB)⟩
def tabsOk {h:Heap} {TG cTG:Addr} {TP cTP:Addr} (aTG:h.get? TG=some (tabObj #[])) (bTG:CodeHd h cTG TG) (aTP:h.get? TP=some (tabObj #[])) (bTP:CodeHd h cTP TP):∀p ∈ [TG,TP],h.get? p=some (tabObj #[])/\isCodeTable h p:=all_cons ⟨aTG,(bTG.tab aTG).isCodeTable⟩ (all_cons ⟨aTP,(bTP.tab aTP).isCodeTable⟩ cI)
def walk {l:OpenLaw} {q:Program} {loose:List Str} {XP:(Str->Option Value)->Heap->Prop} {YP:World->Heap->Prop} {d:DefRec} {K:Params->Frag} {TG TP:Addr} (hn:l.most=some 63) (hdf:d.params.defaults=[])
  (hY:∀(w:World) (h:Heap),YP w h->(K w.params).In h/\noTabs (K w.params)=true/\∀p ∈ [TG,TP],h.get? p=some (tabObj #[])/\isCodeTable h p)
  (F:∀(w:World) (mg:Str->Option Value) (fa:Addr) (h:Heap),(K w.params).In h->h.Ns mainGlobals mg->mg d.name=some (.ref fa) ->
   ∃fd:FuncData,(∀(s:Shared) (u:Value),BindsTo s fd ⟨[u],[]⟩ [("_law_script",u)])/\∀base:Heap,(K w.params).In base->base.Ns mainGlobals mg->wX base mg->bN l.prog w (K w.params) mg base dI 10 fa fd ["_law_script"] (Ec (K w.params) TG TP)):
  WalkO q loose XP YP l.row.toRowW d [] (λf vs=>PySem.call f vs):=
 L2.walk_ofT (E:=[TG,TP]) (n:=63) (k:=10) (x:="_law_script") (CX:=λ_=>dI) (sp:=λw=>Ec (K w.params) TG TP) hn (by decide) hdf ⟨rfl,by decide,by decide⟩ hY F (λ_ _ a ns hl _ hT hS=>⟨a,ns,rfl,hS,hl,hT _ (by simp),hT _ (by simp),λ_=>rfl⟩) λ_ _ _ _ _ z=>z
end
end
end Ls
end
local macro_rules | `(command|#check $s:str)=>do
 let l:=s.getString.toList
 let c<-(List.range (l.length/10)).mapM fun i=>`(command|theorem $(Lean.mkIdent (.str `PySem.W.Fast s!"tw{((l.drop (10*i)).take 10).foldl (fun n c=>n*90+c.toNat-35-(if c.toNat>64 then 1 else 0)-if c.toNat>92 then 1 else 0) 0}")):ident:True:=⟨⟩)
 return Lean.mkNullNode (c.toArray.map (·.raw))
#check "#6n[>a|E&*Q)};Ghlr6'47ut6~ZROB>w)03xWIR0Fswl#_OvfLD_Ywm,A1I}*{67FRNDurN08$Zh#IQ%OP%mLb?GWo7SdflZ?yk1R5Zoyt]VED:m#ql#c~Gs<~Lm'o|^?e/P1Hsjb9<p<^Ji~&Tew=E[/I}Ffwm4HNtL=5PrL:Eb%[Md2ED~5ya0+bxdy`+n3IvjSp?s%=lD<uSAiy1zIH,I1SYt+dIj{T1aR<Jam9N>XCh$CwsHR;WPN:&)SHg#_DJu;cR`+ASV~u'x0$Y[,.dg*_^vaM(EYr1y?E4'mUu]NG|>>f.R/sF{;u1rqFZr)>;%9TK8`*)b^F?yoveq2=:3x>z4^x)(A7/}0<nJ(HsCT^hXhq4r7L+Oevr=Mmu/7Epm]a=6Y(8&t#8S8HA8V<y-kC-jR,SsJw,jP>vaTc/pp8((OT;I8_Ad6Xd*JvBzUr5P'J18VEDm6v+U'q[M~C)92mC5R2h/8j.?rwKSo4;j800ClM9v5TZR(XI4&;/[;^|HgL0xNwTLvR^:oECE;PvL5PmG/Y,.'FA0'/?X4=W#cz%AJCyl07Pu6H%>)g[*5QUYAz?eSczP<t;dGm;P-hz9>t2bu'^?V]FfZ}#V5x)]=[qblHz4RQ)},g*+6gA=&v-L>dS_(U8,t<s>aYY5<ba]=361F=Otz;RWgQrj'D;4}GlmP4=ebvzaPZ].*'a_QAqK8p5#>XpoSodm-DP1p<M.~L.~lz<;Gi%r,M}oA2yLYDMJwnCLT`r>-+M:m(NW2N;S;o2SQ^F590<Ui.oA.M)LD)(Zh,:y-f^Eu$V}^QM1Qb(?~c{qBE1(GXlX(FCDr*)k)3DE&fseJF^E+u>pT](5$?ny3?&=Q0eLzX87-F/I{hBM;yg%f,+0kH/2DZ|;$1o-SADn|mF-&]M1iyf&ag'~L_V:wTZzwe=|p[R>ei8-C}AQpBa,H`AlFuc|pw3.3B?M?OUvuv4fSPj:keA[?$3LI_mrD`%Z#Tg'Fu[dP&V;2;2Ml;7]?v((z9`p9nq:HWoDM:Eu[{HY]p6}:jCA`x+a(r;d4w#OFvwx>E*9I}zW/j$#<mq>Vi0M493It72(q7P>*0MchL>_'b*J/5e2~P;yc2gcjV$k1|9pkzfzQe%=,k`c>Nu[2zd$++LLB>>i-(#=<E%k7eg[[mCk`KFTv'o['X>p'V/aiZN7N3QzJD.HBuyVD|KZB0)-mP,}*0_3X}Gg%r`?ehK>qW-~R1);}0~)21oK&S5)Sf=cM#_wVbLCQJWQE(>DQhKfr4vqSFpWPH&Guq|lomPYb]+U21k7FbpXG08%|^EM&Q(k(shiGFvIVMO46EEU8sfuc<0TS7y/2akAfE/KH+_Vl7I>8eCU(FB97D4`Y=CiA$j88|&3ASn1Y3ACs4hQjSva9hGvdt&qf%$.>m{I:z5u1iiTYUQUsK:$p}~2&F1,=ZuxlW$evk8}Jn[K{$8lJe:.l280PcA3jPQ5rjBC5Q&{MlFp,gG5TMidac`m293HAI*f8}5l.:'u)YnU?eS$;sRjdKN)neqE6ieA.&0Z-{YaN^BG]YGK>JKa<u]yD8DQPM+Ji{%K,VZ&<#_zB&~.c#JdgsB&4n2=-,wyBUlI}y<jW{`&%#pM2D(;'q+4^t9*1&ivVTEu8>bftN_G]VNU(t&f=1Mp2E;7ghKPDo'-s.L<FTp%2F[|WWz'b9)y*C/{/UTSAT-gl-dtCo9fR4{Bcp-y-|ag~Kn/-3B8RYG<GF8uNy0*RnZ9g'SS8pj;MPQY$M^1Qk+e^T-u#}}1m():OobrTXFr|[GljaHn`Bgw'V3)XW:pKr2b:3o}}iU4SPe]q`+fydFG#F4;:y*S9Y4so9*E|IE[Ix<yD~]sE2mmATZvOc0*.?Vn`:)^S2l41hVkPD9IS/6BJ6JV&V8tr6(MF4<|wlb(sp9X.;;e?AMxvn?ru3/:SUXz$l)mbvtk^sPBJ[A]ldMmQ9Iplq}PzAN]$4'Q1|(&K-3`I9V4IS>t*y4AUcnYFxLB6{'>=0JNK'D]8OYK#$;`{Jwt{67(0mg>b0k753[t&;jq.V+$ui1LW_I7/H`'Ok.RxdI||TW~EU.H'.ZNMfg=;P=ZRwLsx6?QQ,q|Ooub+yF}=+U]f]V,6eO/$%%aBXAE>uqJ]_Av)sNp'i'{%U6:~PZsk-+g7COGL<{cj&%#^|61ZI,oAe?=wD|{t0ORSE<L]L+6O9{4c79[]JOTg4zvv?7tJ%N?_|)tL30.y#mWi?DwJjdb:Lt2WM(Kn,^jPL8lDG>>lbG~Rh=lT2#)%$xJ7_,<'8UG3nD+id{$|=oTB%~=w2Vn#Q;t?JoWAr0x$EfWL1Q#`.J=7<o[JhT~>1_#le3)BDEhf-v%tE*hAE<qPEQA;M7pq%aa^G<1N).'CU]Kz]/(B)1Z5wb(#tI=:kmkUE)e[wlBQM>|LRpX`8bHfu>=9RG:%JY~&~g|f|Cjd-3EDwp/v'vy?:Cx0.ZPoVPgOSN[uCq?Iaqvw1%6YFG*fk8TK5`7-hj:pqW'5P.Ty+;J*(mF=9ypB}'~F8F{WLyhK5{XG8va8LeE>cDLj%jUg)Lk1#KYF%%h(9L(?3Q[kFq8RlU%i~q[S'0wW=YKZ4F0;w`RNY(4K&SQlfvA7k)f74Jzj|_bzm'<^{fQ=z_d9l<r3k&[%V8<qXQj.B[s8ci(wS?Y^;8|($AQ'IDa7W1'F37UawPQ#]k)A43/EFnO$KFW8e=%[t#&Db=qGZYZ~u*>*jDuOy80M>f/Rch*U|1hgyLu'AB4*g0nMc,J<;CNW$GCYp;Wc*::KD:+%AI1X+3a}TPE|lk*C}rD#X|:H-$xGv3;IGhw6_|H>+-Gb|OI%Faaa~NI8`8PZ{-&4P.R_$p_29Z8NL`mAeCyo`L;)W9T&WEQ.[&aUrLlyc<zFB`L3MnB.LU.faGtvf&Pb-GrTS5?7M[$)iz[;]'XE)wvoTw4Fb5dHpi;ka3bPA``cyy`R)?qxHSw(s>:i4S4|,pR(r#2N~%H+%?<_|nJt>H~4%DSO/V;P?#<;oe[m&'3#U%QAeBF|?P$P7_vuKs|?:1,F_YeG|Jh%8|;laS?NvIO1j=]Dt-~r;Z)aBXF56q?q)8j4I#)=e0`&6jS,by/}HA/pI3]h*N{XHH^Q8b99d=CKp/YE[j~]C5i=+lcP+C+2k>}87<tpoV|+5,/wx:mO89KuVwab;A'+`k6&Py5<&8vY,V2Sv4WN)d*g$gk[*I60'P5[k8YSP15f,Z>mR3=QuszL)|3Lnycx.I|9[3CJJ7z=>o90Csfp}+&_(9P=VN/s_J9OPdV=/q=lO0'uiF)vQSGA$mh1m*n87%'Su]8j(oS.r`H0Fb7is-e}M1z1yA|C]X*&*&,GQ,+osHff#~hKF4T[e1-W<,Pw,QGt'`yH&:Z=k%~sv8?%OCjpkwH(4wm.ib+6mSQ=MMZ,M<J($-v;mO2%YG||-T[*p0},eH--d{23R)q9Ef[7*R('1R1sq)][ZHk_-3Uqj{a/&1GU'mdoA#QxzM}>gEgME?0):T*dKSLV]i+/^>O5O<]Shf*a[1+h.CzRCH*Mw?D]T<75X'^U+AjrBQ4.5~&'>CU=h+eAjlWKj^fAj/.549L*NFnK)|,PqE&0P;i1Up5%,<?)M:{xOnE+d98eBpyPeIkH(TvxnnDE`c.#Bd]l{$pW^/DZ(EYJM<lYxxh`qH7UXm39^L/=(/Rqxt8-l27C/NRpZ<b+H0uV*%N5o1my`(V|;>~Jqsi]T5HeA(r[%#Q#^~/%3~}H50J1oR;+Z'1L6XjJy&^/-jV9&P5T~l<Lfu[RdRO70I7;GBJ-{us+mhn2H0Xkv(Da+&r?S#<oF1VR3*wheAZn9IJA/rGqlmu&LbR=goJGc32qHq_z1SI'$%1'Ln=AR7T%-g.u;f%9X)/D'-X7U'%K=<?/ori%%y/ifJFf0*_C~j%{>KfOldi)kiI13;pxC~EvNy20Tfk?i9+=v'jyHP.KU?b33l)/]AL%e8?.8xez^Pm=a4B{#){gC7aIwl),;BU>S*kCK}>]1RJj5Wbvao|OS<7Ic;%{['4*5}dI/IDNE~|+{L&%h3:Z)ri(s^2%h{quA($?ZR1HN-g.hqE(Xp/E8<y8L*Htf%`/=I^7jTsK[Q4t;B6cczn?-Y#$^3c){YK>0P8`Ibk?9O1/>.SiU|;qf(lA.;%1xO]%S]e},QXnl1Sy`e$$|(9Ok+GQ#]2t%75.l+U_4gDQ[%ZBHys%MCuwr''RY,'QZlr_;[RZa%<,(og:S]I%&pQr2$mp[H}KYd/wO[[**~M{feFEtF57'#3{lKNGoKg/6M~}ZN._`osK*[z4+I._ZB|6$)u&]+NT'_51Wsv?P5}(UB*:h=>M{ca.zASq9prf6E[;f4m8JE{M%c[?},wCL(|Q)rZoi<G>N1`5Z0=1>>[nK;f3JMvOa,ULKH4#ZHCwcSPnb/l-9nIJn~oky0dNf?$f1e(S+e4iKpuMsHozDB,;&<+RW_vhE.,:B>d=G/{r5xu<hjCim[R?7-ku0kAHHTAOHv3=Gp1rD6PPlM{S/W=7v$:XiPu;?-v'krnKnh.6J&;Ok-|6>88]d<5Mx{kFLWpZ[bhb/>2;cCmH}G=I~3G>~mppo,~h^Ha:X&zCa%wZ'NXQGFO_L9e&F2t(ylxDuxpb|?EZ4ea?o0hN))PKj#kMk&r-Kmqe9C8:L-%;i'V()A*wPBn/m1,G6FguPz13cK)ai/z-{IH$MHn,>fLm77z'<dr4`AGP=fX4c~E{9E:^M)G?>09Nez]SrE8l`PQ;=lY(KC3F/fXuZSD>KNtg)BNhO/pI;UqwW5U|*MF=|:dl2DUJlj8k'KguX*X+2GB}XB+QEx+zj60T;4-^^tc~-MN:;o&,RTrhVEO|CDVKXjiGF+*uUKX4hD0qq#?xoh},f[_hzA?28=xOOer-h6F%F[_hv?xRDLj0<C$ev{[2u:+J}KWc^+wq;[3F?y>Fj7fXYA,V$G1`vXQ{Jc)FG'XsYW{w`HF}Fq<o]VvA;toC$6&2<'[%Kio6-q`JLKaN^c*P7JTN#$Y3CMsBe41aerXdc*P`hAcMC3C=*6?B,O6ltGq3z50dO5FLVpbQ+{nx&CyoF_Va1xl;W+|l[;xl}HN5-=/qfq/M(q?N-$KoX5,qAr?7h,B?N0RW'IA'QLH>=2dDIWH9:wbHi[Xm6+nE%sVz(HT>zC>.02L<:0(*V_)/MyDPDWA}1rUbQK|c(X2XfaCPO#5N0t%Z/66g%06xsURCZS$gFvN$&FC^[RdXjq;Ht&$wA]S}R#GA8TBao=x=~LO9;iawbFE6c8pL}H7<mX`W^i(,mKgk_ps:2Y^:_MS.9NoF{6G)~RndhbF)p.A_ALQj-IF3FI,4^781]q5v3^?}mFc:Z}rnzJY6S9(oyS?1UR_uU_#-xVo=nfgB&L<WC$frK2:UR`WC70Vr1c`'tR|-|Ec3NutL]Xe|pIh_jR|)$5+T]V}FP&uMS_PxG/u(ahpP$_;;~k~Y'}ZCXPO54_b_w*a0N-{KOLm8iSD#tEMch1zHEx7LrTB2e1#^Q,JUknE6Vp+ad%Eta3j9.A;,*%f#Bn3_CO?.oP|AmV}}]w3#Mpkg4;I';+;vM[%/3G|+ANrZHt2&fFr~qr-gQ%&$]%'7p*MoS-8LM#}&SYlF'f)-SoG<k4G~uGgp/ieO'4bul~#/A.GC)6YcSb87He`#Ckq$O7Aq#7TPP_8*_,D7~5h++M{nt,]xlqo-Qu2|s'mj85x|^~m~p870o:W7J4d,yHx4#*az*QSM8k'56n4_x'gR5Qk~4s.1hw'`OS1n{Q&T{7Z.9/9AJ9{6AvNp-LY2o=#fG6&F<yyWVr2gk<^^Dw]gGgu1LZ3AxHG0(Om-ci~CDDO/;1Op|4z<K;8Z)l4`Una2:7'`#HW/rEwIvc0iYL^7QZ_b}E349#zF_Ky8ocb6+_.,ZT1:lOq?iuIS%;DNlYoWvF_2a.$^t1C_{T`<KZ/0?Wc6c5$FHHKJvkP;ie#=Cb&E)>]Q0FPD}zURh`dU|[SkG.Hr{9XU]DlNy1^paq1t+It/z+=*D~(9#CXj6S.e'3*k$|zyCa=.7`:tjRMdtB&,z-uE{O{P9+:p6Gq]U'CCy_I~yyp8{w[`Kg3qm20s0(H9%]b8t=(8}9<9:*XElvXnvP`-f*af[nSAg%~4w:s-i,nS)MK:pfnqb:N0Oz%-sdQDoD(]9KtL#%WRADgz?kW8}tJ2VmFJqHXU:q26*^hE||4d0]g}DB6'6|v$55kL)R%](OUh8+llR$D<$WvS39wAI%<:$9#ZOG}84p|9<DeYK-)=;J/ktf'+T;8P8pH7rQ&xXKzvfLp&S:%-OrB6A~0emL01I$Jb5~XKq2G8N8;/>%5bsG;L${(*,4W5+g7lE:Q_AX6;Pqu=2C|:VTge+)bq_8x]hG]A7|M4AR%DDBu6C|+#x_('5a`H(_We}/s,h'uPGC|L`5d]0<Y&T-zoQd(`9~`<_[W4Izy&qHRh?r`+yP*F)5XPJUtpL._>L?bgHq&Nm(kZ5Vl`z)kPzy`_|,1+wZwZD&T}}53x_I6ydXB2B`[z:x)ov#$.U)etI,]Rf&bz-Nn[D62bFax3G:_R%4c>&HKYZ$4oPisSV~6$%V7j_%XIv.PK0$8`HnE98?%+Cd+~a>;`Z=%7F~18UmkFZaB<|,lCjm<%0BAJ085}/-WFY+}rKBIO~qh<jh7Y:I3l70)`H&;E#&9'CSDOHsh:U9a:TB<d6I17,mZs<_P387]t}>;~P/WL13by9_C=WN18Og8p}#].~Fy,kFvpB>y4#PNM%{T)cqp_+JnFE.|k%3D]&OIDVNeT,P$Lz>iBzAxllffKF|=4rP}PP>%r8V.oyz3.zIH?J.+/u.XywM{5_%O.B*PvCyHz#BZY&f9qvU;GDtSR,b,D|;7,XAZe]G-=jbf8GoI%,/Rw/<GkYw{RLDDw|akw{Nm5NL$wc0$2:HK$s,#BI:IkMifl4{=P.'FJGvmp}9jLd&#:4N>Om>)NTs0#?PIQ/(XZ;%$?ze^$mG0M0Q7k<+nJ}0a-$k70;btz:GoVp$=__6VQ9MNE';|<73~bNXD3bk95nJ5BalB+0=#[6Sa3;^&=ew2nDZDAC'vDWjEue$`.Ph41M5W4H7(sB3|o(.T/`d09$4HNPOBlIPK[p`U%[f'snsRoXO|K:5|Vnx{(-lj5.T>]<.NvKR:)R}+>.eNa|5=&.SMdsrA=$tkQ&^w`buOT;1-aTc%h9E$C0uqo*;6=xQErq.Wu%{j4A9~_dTJdn*:j99%W2[+)/9#'cfn-(%T9E9/+z/I4)4-CI<&A$C226l;G:};-icO9eLo+?Ct2Bm-J]%<,/+4eU#GC0"
open PySem PySem.W PyProof.Rows
set_option maxRecDepth 100000 in
set_option maxHeartbeats 0 in
theorem PySem.Challenge.cw_lentwork_k82_whole_from_the_mark_holds : PySem.Challenge.rw_lentwork_k82_whole_from_the_mark.Holds := by
  w_on; o_law; k_head; (case hw => w_witness2)
  k_fill
  refine Ls.walk (l := PySem.Challenge.rw_lentwork_k82_whole_from_the_mark) (TG := 404) (TP := 465) rfl rfl (fun w h Y => ⟨km_in_of Y, by kernel_rfl, Ls.tabsOk (km_tabs_of Y 404 (by k_mem)) (codeHd_of_K (c := 408) (P := 404) (km_in_of Y) (by kernel_rfl)) (km_tabs_of Y 465 (by k_mem)) (codeHd_of_K (c := 467) (P := 465) (km_in_of Y) (by kernel_rfl))⟩) ?F
  case F =>
    intro w mg fa h KX G hmg
    refine Ls.all_mk (N := ⟨569, 379, 263, 404, 465⟩) (c := fun i => ([92, 104, 116, 128, 140, 152, 164, 176, 188, 68, 31] : List Addr).getD i 0) (by decide) hmg (Ls.Df.mk KX G (by k_is) (by k_is) (by k_is) (by k_is)) fun base hB => ?_
    refine ⟨?G, mg_none_of KX G (by k_is), hB, ?S, ?P, ?B, ?T, mg_of KX G (by k_is), ?iP, ?iS, ?iB, ?W, Ls.wcs (Ls.nine ?e0 ?e1 ?e2 ?e3 ?e4 ?e5 ?e6 ?e7 ?e8) (by kernel_rfl), Ls.nine ?f0 ?f1 ?f2 ?f3 ?f4 ?f5 ?f6 ?f7 ?f8, Ls.Df.mk KX G (by k_is) (by k_is) (by k_is) (by k_is), Ls.Df.mk KX G (by k_is) (by k_is) (by k_is) (by k_is), Ls.Df.mk KX G (by k_is) (by k_is) (by k_is) (by k_is), Ls.Df.mk KX G (by k_is) (by k_is) (by k_is) (by k_is), Ls.Df.mk KX G (by k_is) (by k_is) (by k_is) (by k_is), Ls.Df.mk KX G (by k_is) (by k_is) (by k_is) (by k_is), Ls.Df.mk KX G (by k_is) (by k_is) (by k_is) (by k_is), Ls.Df.mk KX G (by k_is) (by k_is) (by k_is) (by k_is), Ls.Df.mk KX G (by k_is) (by k_is) (by k_is) (by k_is), Ls.Df.mk KX G (by k_is) (by k_is) (by k_is) (by k_is), Ls.Df.mk KX G (by k_is) (by k_is) (by k_is) (by k_is), Ls.Dc.mk KX G (by k_is) (by k_is) (by k_is) (by k_is) (by kernel_rfl), Ls.Df.mk KX G (by k_is) (by k_is) (by k_is) (by k_is), Ls.Df.mk KX G (by k_is) (by k_is) (by k_is) (by k_is), Ls.Df.mk KX G (by k_is) (by k_is) (by k_is) (by k_is), Ls.Df.mk KX G (by k_is) (by k_is) (by k_is) (by k_is), Ls.Df.mk KX G (by k_is) (by k_is) (by k_is) (by k_is), Ls.Df.mk KX G (by k_is) (by k_is) (by k_is) (by k_is), Ls.Df.mk KX G (by k_is) (by k_is) (by k_is) (by k_is), Ls.Df.mk KX G (by k_is) (by k_is) (by k_is) (by k_is), Ls.Df.mk KX G (by k_is) (by k_is) (by k_is) (by k_is), Ls.Df.mk KX G (by k_is) (by k_is) (by k_is) (by k_is), Ls.Df.mk KX G (by k_is) (by k_is) (by k_is) (by k_is), Ls.Df.mk KX G (by k_is) (by k_is) (by k_is) (by k_is), Ls.Df.mk KX G (by k_is) (by k_is) (by k_is) (by k_is), Ls.Mf.mk (by k_is) (by k_is) (by k_is) (by k_is) (by k_is), Ls.Mf.mk (by k_is) (by k_is) (by k_is) (by k_is) (by k_is), Ls.Mf.mk (by k_is) (by k_is) (by k_is) (by k_is) (by k_is), Ls.Mf.mk (by k_is) (by k_is) (by k_is) (by k_is) (by k_is), Ls.Mf.mk (by k_is) (by k_is) (by k_is) (by k_is) (by k_is), Ls.Mf.mk (by k_is) (by k_is) (by k_is) (by k_is) (by k_is), Ls.Mf.mk (by k_is) (by k_is) (by k_is) (by k_is) (by k_is), Ls.Mf.mk (by k_is) (by k_is) (by k_is) (by k_is) (by k_is), Ls.Mf.mk (by k_is) (by k_is) (by k_is) (by k_is) (by k_is), Ls.Mf.mk (by k_is) (by k_is) (by k_is) (by k_is) (by k_is), Ls.Mf.mk (by k_is) (by k_is) (by k_is) (by k_is) (by k_is), Ls.Mf.mk (by k_is) (by k_is) (by k_is) (by k_is) (by k_is), Ls.Mf.mk (by k_is) (by k_is) (by k_is) (by k_is) (by k_is), Ls.Mf.mk (by k_is) (by k_is) (by k_is) (by k_is) (by k_is), Ls.Mf.mk (by k_is) (by k_is) (by k_is) (by k_is) (by k_is), Ls.Mf.mk (by k_is) (by k_is) (by k_is) (by k_is) (by k_is), Ls.Mf.mk (by k_is) (by k_is) (by k_is) (by k_is) (by k_is), Ls.Mf.mk (by k_is) (by k_is) (by k_is) (by k_is) (by k_is), Ls.Mf.mk (by k_is) (by k_is) (by k_is) (by k_is) (by k_is), Ls.Mf.mk (by k_is) (by k_is) (by k_is) (by k_is) (by k_is), Ls.Mf.mk (by k_is) (by k_is) (by k_is) (by k_is) (by k_is), Ls.Mf.mk (by k_is) (by k_is) (by k_is) (by k_is) (by k_is), Ls.Mf.mk (by k_is) (by k_is) (by k_is) (by k_is) (by k_is), Ls.Mf.mk (by k_is) (by k_is) (by k_is) (by k_is) (by k_is), Ls.Mc.mk (by k_is) (by k_is) (by k_is) (by k_is) (by k_is) (by kernel_rfl), Ls.Mf.mk (by k_is) (by k_is) (by k_is) (by k_is) (by k_is), Ls.Mf.mk (by k_is) (by k_is) (by k_is) (by k_is) (by k_is), Ls.Mf.mk (by k_is) (by k_is) (by k_is) (by k_is) (by k_is), Ls.Mf.mk (by k_is) (by k_is) (by k_is) (by k_is) (by k_is), Ls.Mf.mk (by k_is) (by k_is) (by k_is) (by k_is) (by k_is), Ls.Mf.mk (by k_is) (by k_is) (by k_is) (by k_is) (by k_is), Ls.Mf.mk (by k_is) (by k_is) (by k_is) (by k_is) (by k_is), Ls.Mf.mk (by k_is) (by k_is) (by k_is) (by k_is) (by k_is), Ls.Mf.mk (by k_is) (by k_is) (by k_is) (by k_is) (by k_is), Ls.Mf.mk (by k_is) (by k_is) (by k_is) (by k_is) (by k_is), Ls.Mf.mk (by k_is) (by k_is) (by k_is) (by k_is) (by k_is), Ls.Mf.mk (by k_is) (by k_is) (by k_is) (by k_is) (by k_is), Ls.Df.mk KX G (by k_is) (by k_is) (by k_is) (by k_is)⟩
    case G => exact ⟨mg_none_of KX G (by k_is), mg_none_of KX G (by k_is), mg_none_of KX G (by k_is), mg_none_of KX G (by k_is), mg_none_of KX G (by k_is), mg_none_of KX G (by k_is), mg_none_of KX G (by k_is), mg_none_of KX G (by k_is), mg_none_of KX G (by k_is), mg_none_of KX G (by k_is), mg_none_of KX G (by k_is), mg_none_of KX G (by k_is), mg_none_of KX G (by k_is), mg_none_of KX G (by k_is)⟩
    case S => exact ⟨by refine ⟨?_,?_,?_,?_⟩ <;> k_is, by (unfold L2.NoAttr; k_is), by (unfold L2.NoAttr; k_is), mg_of KX G (by k_is)⟩
    case P => exact ⟨by refine ⟨?_,?_,?_,?_⟩ <;> k_is, by (unfold L2.NoAttr; k_is), by (unfold L2.NoAttr; k_is), by (unfold L2.NoAttr; k_is), by (unfold L2.NoAttr; k_is), by (unfold L2.NoAttr; k_is), mg_of KX G (by k_is)⟩
    case B => exact ⟨by refine ⟨?_,?_,?_,?_⟩ <;> k_is, by (unfold L2.NoAttr; k_is), by (unfold L2.NoAttr; k_is), by (unfold L2.NoAttr; k_is), by (unfold L2.NoAttr; k_is), by (unfold L2.NoAttr; k_is), by (unfold L2.NoAttr; k_is), by (unfold L2.NoAttr; k_is), by (unfold L2.NoAttr; k_is), by (unfold L2.NoAttr; k_is), mg_of KX G (by k_is)⟩
    case T => exact ⟨mg_of KX G (by k_is), by unfold L2.ExcIs; k_exc⟩
    case iP => exact ⟨by k_is, by k_is⟩
    case iS => exact ⟨by k_is, by k_is⟩
    case iB => exact ⟨by k_is, by k_is⟩
    case W => exact ⟨mg_of KX G (by k_is), mg_of KX G (by k_is), mg_of KX G (by k_is), mg_of KX G (by k_is), mg_of KX G (by k_is), mg_of KX G (by k_is), mg_of KX G (by k_is), mg_of KX G (by k_is), mg_of KX G (by k_is)⟩
    case e0 | e1 | e2 | e3 | e4 | e5 | e6 | e7 | e8 => exact ⟨by unfold L2.ExcIs; k_exc, by kernel_rfl, by k_is, by k_is, by k_is, by k_is, by k_is, by k_is, by k_is⟩
    all_goals kernel_rfl

